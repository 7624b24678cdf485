/-
  Contract of the document's answer Sorted: the same numbers, rising.
-/
import Derived.Test.YtkkolodolmppnaaProg
import Derived.Test.YtkkolodolmppnaaCvRd
import Derived.WalkSpells
import Derived.RowKit3
import Derived.Lib.Hide
import Derived.Deep.QuietTactic
import Derived.BigQuiet
import Derived.Laws.Slices
namespace Go.Proofs.Ytkkolodolmppnaa.Cv
open Go.RowKit Go.Proofs.Ytkkolodolmppnaa.So
set_option linter.unusedVariables false

set_option linter.unusedSimpArgs false
theorem rd_take {W : World} {b o cap z : Nat} {xs : List Int} (hb : b < z) (hz : z ≤ W.heap.size) (hc : xs.length ≤ cap) (hx : ∀ t (h : t < xs.length), W.cell? ⟨b, o + t, none⟩ = some (.int .u64 xs[t])) (h : Nat) (hh : h ≤ xs.length) :
    Rd W z (.slice (some ⟨b, o, none⟩) h cap) (xs.take h) := by
  have hl : (xs.take h).length = h := by simp; omega
  refine ⟨b, o, cap, by rw [hl], hb, hz, by omega, fun t ht => ?_⟩
  rw [List.getElem_take]
  exact hx t (by omega)
theorem rd_drop {W : World} {b o cap z : Nat} {xs : List Int} (hb : b < z) (hz : z ≤ W.heap.size) (hc : xs.length ≤ cap) (hx : ∀ t (h : t < xs.length), W.cell? ⟨b, o + t, none⟩ = some (.int .u64 xs[t])) (h : Nat) (hh : h ≤ xs.length) :
    Rd W z (.slice (some ⟨b, o + h, none⟩) (xs.length - h) (cap - h)) (xs.drop h) := by
  have hl : (xs.drop h).length = xs.length - h := by simp
  refine ⟨b, o + h, cap - h, by rw [hl], hb, hz, by omega, fun t ht => ?_⟩
  rw [List.getElem_drop, Nat.add_assoc]
  exact hx (h + t) (by omega)

theorem A.info64 : (Try.prog.info? 43).map (fun i => (i.zero, i.size, i.bytes)) = some (some (.int .u64 0), 1, 8) := by kernel_rfl
theorem info_cut {P : Program} {t : TypeId} {z : Value} {s b : Nat} (h : (P.info? t).map (fun i => (i.zero, i.size, i.bytes)) = some (some z, s, b)) : ∃ i, P.info? t = some i ∧ i.zero = some z ∧ i.size = s ∧ i.bytes = b := by
  cases e : P.info? t with
  | none => rw [e] at h; simp at h
  | some i => rw [e] at h; simp at h; exact ⟨i, rfl, h.1, h.2.1, h.2.2⟩
def lenOf : Value → Nat | .slice _ n _ => n | _ => 0
/-- Two rising lists, of which the heads are put behind what has been put together so far. -/
def MgR (w2 : World) (t : TypeId) (l0 : List Int) (va vb vo : Value) (wr : World) : Prop :=
  ∃ la lb os : List Int, Rd w2 w2.heap.size va la ∧ Rd w2 w2.heap.size vb lb ∧ wr.ownsRow w2.heap.size t 1 vo os.length (u64s os) ∧ Below w2.heap.size w2 wr ∧ (os ++ (la ++ lb)).Perm l0 ∧ Up la ∧ Up lb ∧ Up os ∧ ∀ x ∈ os, ∀ y ∈ la ++ lb, x ≤ y
theorem up_snoc {os : List Int} {x : Int} (h : Up os) (hx : ∀ y ∈ os, y ≤ x) : Up (os ++ [x]) := List.pairwise_append.2 ⟨h, by simp, fun a ha b hb => by simp at hb; subst hb; exact hx a ha⟩
theorem up_app {os l : List Int} (h : Up os) (hl : Up l) (hx : ∀ x ∈ os, ∀ y ∈ l, x ≤ y) : Up (os ++ l) := List.pairwise_append.2 ⟨h, hl, hx⟩
theorem up_head {x : Int} {l : List Int} (h : Up (x :: l)) : ∀ y ∈ l, x ≤ y := (List.pairwise_cons.1 h).1
theorem up_tail {x : Int} {l : List Int} (h : Up (x :: l)) : Up l := (List.pairwise_cons.1 h).2
theorem own_as {W : World} {base n : Nat} {t : TypeId} {v : Value} {ys : List Value} {xs : List Int} (h : W.ownsRow base t 1 v n ys) (e : ys = u64s xs) : W.ownsRow base t 1 v xs.length (u64s xs) := by
  subst e
  have h1 : n = xs.length := by have := h.1; simp [u64s] at this; omega
  rw [← h1]
  exact h
theorem rd_len {W : World} {z : Nat} {v : Value} {xs : List Int} (h : Rd W z v xs) : lenOf v = xs.length := by obtain ⟨_, _, _, rfl, _⟩ := h; rfl
/-- The head goes from the left one. -/
theorem mg_left {os la lb l0 : List Int} {x y : Int} (hp : (os ++ ((x :: la) ++ (y :: lb))).Perm l0) (h1 : Up (x :: la)) (h2 : Up (y :: lb)) (h3 : Up os) (h4 : ∀ a ∈ os, ∀ b ∈ (x :: la) ++ (y :: lb), a ≤ b) (hxy : x ≤ y) :
    ((os ++ [x]) ++ (la ++ (y :: lb))).Perm l0 ∧ Up la ∧ Up (os ++ [x]) ∧ ∀ a ∈ os ++ [x], ∀ b ∈ la ++ (y :: lb), a ≤ b := by
  refine ⟨by simpa using hp, up_tail h1, up_snoc h3 fun a ha => h4 a ha x (by simp), fun a ha b hb => ?_⟩
  rcases List.mem_append.1 ha with ha | ha
  · exact h4 a ha b (by rw [List.cons_append]; exact List.mem_cons_of_mem _ hb)
  · simp at ha
    subst ha
    rcases List.mem_append.1 hb with hb | hb
    · exact up_head h1 b hb
    · rcases List.mem_cons.1 hb with hb | hb
      · omega
      · have := up_head h2 b hb; omega
theorem mg_right {os la lb l0 : List Int} {x y : Int} (hp : (os ++ ((x :: la) ++ (y :: lb))).Perm l0) (h1 : Up (x :: la)) (h2 : Up (y :: lb)) (h3 : Up os) (h4 : ∀ a ∈ os, ∀ b ∈ (x :: la) ++ (y :: lb), a ≤ b) (hxy : ¬ x ≤ y) :
    ((os ++ [y]) ++ ((x :: la) ++ lb)).Perm l0 ∧ Up lb ∧ Up (os ++ [y]) ∧ ∀ a ∈ os ++ [y], ∀ b ∈ (x :: la) ++ lb, a ≤ b := by
  refine ⟨List.Perm.trans ?_ hp, up_tail h2, up_snoc h3 fun a ha => h4 a ha y (by simp), fun a ha b hb => ?_⟩
  · rw [List.append_assoc]
    refine List.Perm.append_left os ?_
    exact (List.perm_middle (l₁ := x :: la) (a := y) (l₂ := lb)).symm
  · rcases List.mem_append.1 ha with ha | ha
    · refine h4 a ha b ?_
      rcases List.mem_append.1 hb with hb | hb
      · exact List.mem_append_left _ hb
      · exact List.mem_append_right _ (List.mem_cons_of_mem _ hb)
    · simp at ha
      subst ha
      rcases List.mem_append.1 hb with hb | hb
      · rcases List.mem_cons.1 hb with hb | hb
        · omega
        · have := up_head h1 b hb; omega
      · exact up_head h2 b hb
theorem rd_tail {W : World} {z b o cap : Nat} {x : Int} {l : List Int} (h : Rd W z (.slice (some ⟨b, o, none⟩) (l.length + 1) cap) (x :: l)) :
    Rd W z (.slice (if cap = 1 then some ⟨b, o, none⟩ else some ⟨b, o + 1, none⟩) l.length (cap - 1)) l := by
  obtain ⟨b', o', cap', e, hb, hz, hc, hx⟩ := h
  simp at e
  obtain ⟨⟨rfl, rfl⟩, rfl⟩ := e
  split
  · rename_i h1
    have h0 : l.length = 0 := by simp at hc; omega
    exact ⟨b, o, cap - 1, rfl, hb, hz, by omega, fun t ht => absurd ht (by omega)⟩
  · have := rd_drop hb hz hc hx 1 (by simp)
    simpa using this

set_option maxHeartbeats 2000000 in
set_option maxRecDepth 100000 in
theorem sorted_any : ∀ (N : Nat) (xs : List Int) (z : Nat) (v : Value) (w : World), xs.length < N → xs.length ≤ 1048576 → 0 < xs.length → Rd w z v xs →
    Calls Try.prog 36 #[v] w fun e w' => ∃ (u : Value) (ys : List Int), e = .returned u ∧ ys.Perm xs ∧ Up ys ∧ Rd w' w'.heap.size u ys ∧ Below w.heap.size w w' := by
  intro N
  induction N with
  | zero => intro _ _ _ _ h; exact absurd h (Nat.not_lt_zero _)
  | succ N ih =>
    intro xs z v w hN hl h0 hR
    have IH := Lib.hid ih
    have HR := Lib.hid hR
    obtain ⟨b, o, cap, rfl, hb, hz, hc, hx⟩ := hR
    obtain ⟨n, hn⟩ : ∃ n, n = xs.length := ⟨_, rfl⟩
    have HX := Lib.hid hx
    have HN := Lib.hid hn
    rw [← hn] at hN hl h0 hc
    clear ih hx
    by_cases h2 : n < 2
    · have h2z : (n : Int) < 2 := by omega
      rw [← hn]
      clear hn
      go_enter Try.func36, Try.ntmps36
      go_wp2
      go_ret
      refine ⟨_, xs, by rw [HN.out]; rfl, List.Perm.refl _, ?_, HR.out.wide hz (Nat.le_refl _), Below.refl _ _⟩
      match xs, HN.out with
      | [], _ => exact List.Pairwise.nil
      | [x], _ => simp [Up]
      | x :: y :: l, e => simp at e; omega
    · obtain ⟨h, hh⟩ : ∃ h, h = n / 2 := ⟨_, rfl⟩
      have e1 : (n : Int) / 2 = (h : Int) := by omega
      have h2z : ¬ (n : Int) < 2 := by omega
      have hh1 : 0 < h := by omega
      have hh2 : h < n := by omega
      have hhc : (h : Int) ≤ (cap : Int) := by omega
      have RA := Lib.hid (rd_take hb hz (by rw [← hn]; exact hc) HX.out h (by omega))
      have RB := Lib.hid (rd_drop hb hz (by rw [← hn]; exact hc) HX.out h (by omega))
      rw [← hn] at RB ⊢
      clear hh hn HR
      go_enter Try.func36, Try.ntmps36
      go_wp2_with fail
      refine (IH.out (xs.take h) z _ w (by have := HN.out; simp; omega) (by have := HN.out; simp; omega) (by have := HN.out; simp; omega) RA.out).mono ?_
      rintro e w1 ⟨va, la, rfl, hpa, hua, hra, hB1⟩
      have RB1 := Lib.hid (RB.out.later (hB1.mono hz))
      go_wp2_with fail
      refine (IH.out (xs.drop h) z _ w1 (by have := HN.out; simp; omega) (by have := HN.out; simp; omega) (by have := HN.out; simp; omega) RB1.out).mono ?_
      rintro e w2 ⟨vb0, lb0, rfl, hpb, hub, hrb, hB2⟩
      have RA2 := Lib.hid ((hra.later hB2).wide hB2.size (Nat.le_refl _))
      have RB2 := Lib.hid hrb
      have HUA0 := Lib.hid hua
      have HUB0 := Lib.hid hub
      have HB12 := Lib.hid (hB1.trans (hB2.mono hB1.size))
      have HPX := Lib.hid (show (la ++ lb0).Perm xs by have := hpa.append hpb; rwa [List.take_append_drop] at this)
      have HL0 := Lib.hid (show (la ++ lb0).length = n by rw [HN.out]; exact HPX.out.length_eq)
      obtain ⟨i0, hi, hz0, hz1, hz2⟩ := info_cut A.info64
      clear hpa hpb hua hub hra hrb hB1 hB2 RA RB RB1 HX e1 h2z hhc hb hz hc IH
      go_wp2_with fail
      go_loopw [3, 4, 5] (fun va vb vo wr => MgR w2 43 (la ++ lb0) va vb vo wr) (fun va vb vo _ => lenOf va + lenOf vb)
      case atStart => exact ⟨la, lb0, [], RA2.out, RB2.out, World.ownsRow_nil _ _ _ _, Below.refl _ _, by simp, HUA0.out, HUB0.out, List.Pairwise.nil, by simp⟩
      case round =>
        clear RA2 RB2
        obtain ⟨la, lb, os, hRA, hRB, hO, hBw, hP, hua, hub, huo, hle0⟩ := hrel
        have RA2 := Lib.hid hRA
        have RB2 := Lib.hid hRB
        have HO := Lib.hid hO
        have HBw := Lib.hid hBw
        have HP := Lib.hid hP
        have hUA := Lib.hid hua
        have hUB := Lib.hid hub
        have hUO := Lib.hid huo
        have hLE := Lib.hid hle0
        obtain ⟨ba, oa, capa, rfl, hba, _, hca, hxa⟩ := hRA.later hBw
        obtain ⟨bb, ob, capb, rfl, hbb, _, hcb, hxb⟩ := hRB.later hBw
        have HCA := Lib.hid hxa
        have HCB := Lib.hid hxb
        have hle1 : os.length + (la.length + lb.length) = n := by have := hP.length_eq; rw [HL0.out] at this; simpa using this
        have HNE := Lib.hid (own_apart hO)
        clear hRA hRB hO hBw hP hua hub huo hle0 hxa hxb HUA0 HUB0
        cases la with
        | nil =>
          have hle := HP.out.length_eq
          rw [HL0.out] at hle
          simp only [List.length_append, List.length_cons, List.length_nil] at hle
          have NA := Lib.hid (rd_news HCA.out)
          have NB := HCB
          go_wp2_with (first | (at_builtin; refine wpList_append_own_at _ rfl _ _ 53 rfl w2.heap.size 43 i0 (.int .u64 0) 1 8 Try.underlying53 hi hz0 hz1 hz2 rfl (by decide) _ _ _ rfl HO.out ⟨ba, oa, none⟩ _ capa (u64s []) rfl (by simp [u64s]) NA.out (one_u64 []) (by unfold maxLen; omega) (by omega) HBw.out.size ?_))
          intro v1 w3 hown hgrow _ _
          have HB3 := own_below HBw.out HO.out hgrow
          have NB := Lib.hid (rd_news (fun t ht => (World.cell?_of_block (w := wr) (a := ⟨bb, ob + t, none⟩) (hgrow.block bb (Nat.lt_of_lt_of_le hbb HBw.out.size) (HNE.out bb hbb))).trans (HCB.out t ht)))
          have O3 := Lib.hid hown
          have B3 := Lib.hid HB3
          clear hown hgrow HB3
          go_wp2_with (first | (at_builtin; refine wpList_append_own_at _ rfl _ _ 53 rfl w2.heap.size 43 i0 (.int .u64 0) 1 8 Try.underlying53 hi hz0 hz1 hz2 rfl (by decide) _ _ _ rfl O3.out ⟨bb, ob, none⟩ _ capb (u64s lb) rfl (by simp [u64s]) NB.out (one_u64 lb) (by unfold maxLen; omega) (by omega) B3.out.size ?_))
          intro v2 w4 hown hgrow _ _
          have HB4 := own_below B3.out O3.out hgrow
          go_wp2
          go_ret
          have e : u64s os ++ (u64s [] ++ u64s lb) = u64s (os ++ [] ++ lb) := by simp [u64s]
          have hown2 : w4.ownsRow w2.heap.size 43 1 v2 (os ++ [] ++ lb).length (u64s (os ++ [] ++ lb)) := own_as hown e
          refine ⟨v2, os ++ [] ++ lb, rfl, ?_, ?_, own_rd hown2 (by simp only [List.length_append]; omega), ?_⟩
          · rw [List.append_assoc]; exact HP.out.trans HPX.out
          · have := up_app hUO.out hUB.out (fun a ha b hb => hLE.out a ha b (by simpa using hb)); simpa using this
          · exact HB12.out.trans (HB4.mono HB12.out.size)
        | cons x la =>
          cases lb with
          | nil =>
            have hle := HP.out.length_eq
            rw [HL0.out] at hle
            simp only [List.length_append, List.length_cons, List.length_nil] at hle
            have NA := Lib.hid (rd_news HCA.out)
            have NB := HCB
            go_wp2_with (first | (at_builtin; refine wpList_append_own_at _ rfl _ _ 53 rfl w2.heap.size 43 i0 (.int .u64 0) 1 8 Try.underlying53 hi hz0 hz1 hz2 rfl (by decide) _ _ _ rfl HO.out ⟨ba, oa, none⟩ _ capa (u64s (x :: la)) rfl (by simp [u64s]) NA.out (one_u64 (x :: la)) (by unfold maxLen; omega) (by omega) HBw.out.size ?_))
            intro v1 w3 hown hgrow _ _
            have HB3 := own_below HBw.out HO.out hgrow
            have NB := Lib.hid (rd_news (fun t ht => (World.cell?_of_block (w := wr) (a := ⟨bb, ob + t, none⟩) (hgrow.block bb (Nat.lt_of_lt_of_le hbb HBw.out.size) (HNE.out bb hbb))).trans (HCB.out t ht)))
            have O3 := Lib.hid hown
            have B3 := Lib.hid HB3
            clear hown hgrow HB3
            go_wp2_with (first | (at_builtin; refine wpList_append_own_at _ rfl _ _ 53 rfl w2.heap.size 43 i0 (.int .u64 0) 1 8 Try.underlying53 hi hz0 hz1 hz2 rfl (by decide) _ _ _ rfl O3.out ⟨bb, ob, none⟩ _ capb (u64s []) rfl (by simp [u64s]) NB.out (one_u64 []) (by unfold maxLen; omega) (by omega) B3.out.size ?_))
            intro v2 w4 hown hgrow _ _
            have HB4 := own_below B3.out O3.out hgrow
            go_wp2
            go_ret
            have e : u64s os ++ (u64s (x :: la) ++ u64s []) = u64s (os ++ (x :: la) ++ []) := by simp [u64s]
            have hown2 : w4.ownsRow w2.heap.size 43 1 v2 (os ++ (x :: la) ++ []).length (u64s (os ++ (x :: la) ++ [])) := own_as hown e
            refine ⟨v2, os ++ (x :: la) ++ [], rfl, ?_, ?_, own_rd hown2 (by simp only [List.length_append]; omega), ?_⟩
            · rw [List.append_assoc]; exact HP.out.trans HPX.out
            · have := up_app hUO.out hUA.out (fun a ha b hb => hLE.out a ha b (by simpa using hb)); simpa using this
            · exact HB12.out.trans (HB4.mono HB12.out.size)
          | cons y lb =>
            have ca : wr.cell? ⟨ba, oa, none⟩ = some (.int .u64 x) := HCA.out 0 (by simp)
            have cb : wr.cell? ⟨bb, ob, none⟩ = some (.int .u64 y) := HCB.out 0 (by simp)
            have hlx : os.length + (la.length + lb.length) + 2 = n := by simp at hle1; omega
            by_cases hxy : x ≤ y
            · skip
              have hm := mg_left HP.out hUA.out hUB.out hUO.out hLE.out hxy
              have HM := Lib.hid hm
              clear hm
              go_wp2_with fail
              go_quiet (fail)
              have OW := Lib.hid ((drew_own HO.out nq).alloc (.cells #[.int .u64 x] 43))
              have BW := Lib.hid ((bdrew HBw.out nq).alloc (bdrew HBw.out nq).size (.cells #[.int .u64 x] 43))
              have NW := Lib.hid (cell_one_new (wr.drewN nq) (.int .u64 x) 43)
              clear HO HBw
              go_wp2_with (first | (at_builtin; refine wpList_append_own_at _ rfl _ _ 53 rfl w2.heap.size 43 i0 (.int .u64 0) 1 8 Try.underlying53 hi hz0 hz1 hz2 rfl (by decide) _ _ _ rfl OW.out ⟨wr.heap.size, 0, none⟩ 1 1 [.int .u64 x] rfl rfl NW.out (one_u64 [x]) (by unfold maxLen; omega) (by omega) BW.out.size ?_))
              intro v1 w3 hown hgrow _ _
              have HBn := Lib.hid (own_below BW.out OW.out hgrow)
              have hm := HM.out
              clear hgrow
              go_wp2
              go_roundw
              case rel => exact ⟨la, y :: lb, os ++ [x], rd_tail RA2.out, RB2.out, by rw [List.length_append, u64s_append]; exact hown, HBn.out, hm.1, hm.2.1, hUB.out, hm.2.2.1, hm.2.2.2⟩
              case measure => simp [lenOf]
            · skip
              have hm := mg_right HP.out hUA.out hUB.out hUO.out hLE.out hxy
              have HM := Lib.hid hm
              clear hm
              go_wp2_with fail
              go_quiet (fail)
              have OW := Lib.hid ((drew_own HO.out nq).alloc (.cells #[.int .u64 y] 43))
              have BW := Lib.hid ((bdrew HBw.out nq).alloc (bdrew HBw.out nq).size (.cells #[.int .u64 y] 43))
              have NW := Lib.hid (cell_one_new (wr.drewN nq) (.int .u64 y) 43)
              clear HO HBw
              go_wp2_with (first | (at_builtin; refine wpList_append_own_at _ rfl _ _ 53 rfl w2.heap.size 43 i0 (.int .u64 0) 1 8 Try.underlying53 hi hz0 hz1 hz2 rfl (by decide) _ _ _ rfl OW.out ⟨wr.heap.size, 0, none⟩ 1 1 [.int .u64 y] rfl rfl NW.out (one_u64 [y]) (by unfold maxLen; omega) (by omega) BW.out.size ?_))
              intro v1 w3 hown hgrow _ _
              have HBn := Lib.hid (own_below BW.out OW.out hgrow)
              have hm := HM.out
              clear hgrow
              go_wp2
              go_roundw
              case rel => exact ⟨x :: la, lb, os ++ [y], RA2.out, rd_tail RB2.out, by rw [List.length_append, u64s_append]; exact hown, HBn.out, hm.1, hUA.out, hm.2.1, hm.2.2.1, hm.2.2.2⟩
              case measure => simp [lenOf]
end Go.Proofs.Ytkkolodolmppnaa.Cv
