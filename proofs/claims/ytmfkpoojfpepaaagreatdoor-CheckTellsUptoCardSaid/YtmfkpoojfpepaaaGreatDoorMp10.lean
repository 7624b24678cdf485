/-
  Contract of isTyped of package check: is a filter well typed, by a schema that may be? Memory that was there is left as it was.
-/
import Derived.Test.YtmfkpoojfpepaaaGreatDoorMp09
import Derived.Test.YtmfkpoojfpepaaaGreatDoorMp02
import Derived.Test.YtmfkpoojfpepaaaGreatDoorMp08
import Derived.BigQuiet
import Derived.Laws.Cover1
import Derived.Deep.RegionHeldLaw
/-
  Contracts of may and May of package filter: may a filter be? To any depth. Memory that was there is left as it was (may: but for the number that it counts down).
-/
namespace Go.Proofs.YtmfkpoojfpepaaaGreatDoor.Fl
open Go.RowKit Go.Proofs.YtmfkpoojfpepaaaGreatDoor.Tk
set_option linter.unusedVariables false
set_option linter.unusedSimpArgs false

def MayR (k : Int) (d m : Nat) (ps : List Flt) (w : World) (p : Nat) (vi : Value) (wr : World) : Prop :=
  ∃ j : Nat, vi = .int .i64 (j : Nat) ∧ j ≤ ps.length ∧ Hid (okU k d m (ps.take j) = true) ∧ w.grownBy wr (some p) ∧ LeftAt wr p ((m - szL (ps.take j) : Nat) : Int)
/-- What may tells. -/
def MayEnd (f : Flt) (deep n p : Nat) (w w' : World) (e : Ending) : Prop :=
  e = .returned (.bool (mayB f deep n)) ∧ w.grownBy w' (some p) ∧ (∃ m : Int, LeftAt w' p m) ∧ (mayB f deep n = true → LeftAt w' p ((n - sz f : Nat) : Int))
def MayOk (f : Flt) : Prop := ∀ (a : Option Addr) (c : Nat) (b : Option Addr) (d : Nat) (deep n z p : Nat) (w : World), deep ≤ 100 → n ≤ 100 → LaidZ z w → z ≤ p → z ≤ w.heap.size → FltAt w (Old z) f a b → LeftAt w p (n : Nat) →
  Calls Tryz.prog 43 #[.agg #[.int .i64 f.kind, bs f.name, bs f.op, .slice a f.vals.length c, .slice b f.parts.length d], .int .i64 (deep : Nat), .pointer (some ⟨p, 0, none⟩)] w fun e w' => MayEnd f deep n p w w' e
theorem may_ret {f : Flt} {deep n p : Nat} {w w' : World} {e : Ending} {m : Int} (h : mayB f deep n = false) (he : e = .returned (.bool false)) (hg : w.grownBy w' (some p)) (hl : LeftAt w' p m) : MayEnd f deep n p w w' e :=
  ⟨by rw [h, he], hg, ⟨m, hl⟩, fun h' => by rw [h] at h'; cases h'⟩

theorem grb {a b c : World} {r : Option Nat} (h : a.grownBy b r) (k : Below b.heap.size b c) : a.grownBy c r := h.trans (gr_of_below k)
set_option maxHeartbeats 4000000 in
set_option maxRecDepth 100000 in
theorem may_ok (f : Flt) (ih : ∀ q ∈ f.parts, MayOk q) : MayOk f := by
  obtain ⟨k, nm, o, vs, ps⟩ := f
  intro a c b d deep n z p w hd hn hE hz hzw hF hL
  simp only [Flt.kind, Flt.name, Flt.op, Flt.vals, Flt.parts] at ih ⊢
  obtain ⟨sn, en, hsn⟩ := bs_bytes nm
  obtain ⟨so, eo, hso⟩ := bs_bytes o
  rw [en, eo]
  have IH := Lib.hid ih
  have HE := Lib.hid hE
  have HF := Lib.hid hF
  have HL := Lib.hid hL
  have HPS := Lib.hid hF.parts
  have HVS := Lib.hid hF.atts
  simp only [Flt.parts] at HPS
  simp only [Flt.vals] at HVS
  obtain ⟨hl1, hl2⟩ := hL
  have hp : p < w.heap.size := LeftAt.lt ⟨hl1, hl2⟩
  have hpne : ¬ p = w.heap.size := by omega
  have hlen : ps.length ≤ 9223372036854775807 := by have := hF.small.2.2.2.2; simp only [Flt.parts] at this; unfold maxLen at this; omega
  have HN := Lib.hid hn
  have HD := Lib.hid hd
  clear ih hE hF en eo hd
  cases n with
  | zero =>
    have HF0 := Lib.hid (may_none (.mk k nm o vs ps) deep)
    by_cases h0 : deep = 0
    · subst h0
      go_enter Tryz.func43, Tryz.ntmps43
      go_wp2_with fail
      go_ret
      exact may_ret HF0.out rfl (gr_alloc (gr_set (gr_refl _ _) _) _) ((HL.out.set _).alloc _)
    · have h0z : ¬ (deep : Int) = 0 := by omega
      go_enter Tryz.func43, Tryz.ntmps43
      go_wp2_with fail
      go_ret
      exact may_ret HF0.out rfl (gr_alloc (gr_set (gr_refl _ _) _) _) ((HL.out.set _).alloc _)
  | succ m =>
  cases deep with
  | zero =>
    have HF0 := Lib.hid (may_flat (.mk k nm o vs ps) (m + 1))
    go_enter Tryz.func43, Tryz.ntmps43
    go_wp2_with fail
    go_ret
    exact may_ret HF0.out rfl (gr_alloc (gr_set (gr_refl _ _) _) _) ((HL.out.set _).alloc _)
  | succ dd =>
    have HM := Lib.hid (may_eq k nm o vs ps dd m)
    have CW := Lib.hid (fun W (h1 : LaidE W) (h2 : AttsAt W (Old W.heap.size) a vs) => isWhole_any k sn so vs a c ps.length b d W h1 h2)
    rw [hsn, hso] at CW
    obtain ⟨wh, hwh⟩ : ∃ r, wholeB k nm o vs ps.length = r := ⟨_, rfl⟩
    rw [hwh] at CW HM
    have hm99 : m ≤ 99 := by omega
    have hd99 : dd ≤ 99 := by have := HD.out; omega
    have hdz : ((dd : Int) + 1 == 0) = false := by rw [beq_eq_false_iff_ne]; omega
    have hdz2 : ¬ (dd : Int) + 1 = 0 := by omega
    have hmz : ¬ (m : Int) < 0 := by omega
    clear hwh hsn hso hn
    obtain ⟨w1, hw1⟩ : ∃ v, v = (w.setCell ⟨p, 0, none⟩ (.int .i64 (m : Nat))).alloc (.cells #[.int .i64 k, .string sn, .string so, .slice a vs.length c, .slice b ps.length d] 27) := ⟨_, rfl⟩
    have hsz : (w.setCell ⟨p, 0, none⟩ (.int .i64 (m : Nat))).heap.size = w.heap.size := by simp
    have B1 := Lib.hid (show Box w1 w.heap.size (.int .i64 k) (.string sn) (.string so) (.slice a vs.length c) (.slice b ps.length d) by rw [hw1, ← hsz]; exact Box.new ..)
    have G1 := Lib.hid (show w.grownBy w1 (some p) by rw [hw1]; exact gr_alloc (gr_set (gr_refl _ _) _) _)
    have L1 := Lib.hid (show LeftAt w1 p (m : Nat) by rw [hw1]; exact (HL.out.set _).alloc _)
    obtain ⟨vl, hvl⟩ : ∃ n, n = vs.length := ⟨_, rfl⟩
    obtain ⟨pl, hpl⟩ : ∃ n, n = ps.length := ⟨_, rfl⟩
    have HPL := Lib.hid hpl
    have HVL := Lib.hid hvl
    rw [← hvl, ← hpl] at CW B1 hw1 ⊢
    rw [← hpl] at hlen
    have HW1 := Lib.hid hw1
    have HHP := Lib.hid (And.intro hp hpne)
    clear hvl hpl hw1 hsz
    cases wh
    · have HF0 := Lib.hid (show mayB (.mk k nm o vs ps) (dd + 1) (m + 1) = false from HM.out)
      go_enter Tryz.func43, Tryz.ntmps43
      go_wp2_with (go_at_call 54; rw [← HW1.out]; refine Calls.mono (CW.out _ (HE.out.later (gr_below G1.out hz hzw)).1 (HVS.out.far fun i hi => ⟨Nat.lt_of_lt_of_le hi (Nat.le_trans hzw G1.out.size), (gr_below G1.out hz hzw).block i hi⟩)) ?_; rintro e w3 ⟨rfl, hb3⟩; have B3 := Lib.hid (B1.out.later hb3); have G3 := Lib.hid (grb G1.out hb3); have L3 := Lib.hid (L1.out.later hb3); obtain ⟨c0, c1, c2, c3, c4⟩ := B3.out; clear hb3)
      go_ret
      exact may_ret HF0.out rfl G3.out L3.out
    have HOK := Lib.hid (show mayB (.mk k nm o vs ps) (dd + 1) (m + 1) = okU k dd m ps from HM.out)
    go_enter Tryz.func43, Tryz.ntmps43
    go_wp2_with (go_at_call 54; rw [← HW1.out]; refine Calls.mono (CW.out _ (HE.out.later (gr_below G1.out hz hzw)).1 (HVS.out.far fun i hi => ⟨Nat.lt_of_lt_of_le hi (Nat.le_trans hzw G1.out.size), (gr_below G1.out hz hzw).block i hi⟩)) ?_; rintro e w3 ⟨rfl, hb3⟩; have B3 := Lib.hid (B1.out.later hb3); have G3 := Lib.hid (grb G1.out hb3); have L3 := Lib.hid (L1.out.later hb3); obtain ⟨c0, c1, c2, c3, c4⟩ := B3.out; clear hb3)
    clear c0 c1 c2 c3 c4
    go_loopw [30] (fun vi wr => MayR k dd m ps w3 p vi wr) (fun vi _ => pl - (intOf vi).toNat)
    case atStart => exact ⟨0, rfl, Nat.zero_le _, Lib.hid (okU_nil k dd m), gr_refl _ _, by simpa [szL] using L3.out⟩
    case round =>
      obtain ⟨j, rfl, hj, hok, hG, hL⟩ := hrel
      have HJ := Lib.hid hj
      have HG := Lib.hid hG
      have HLr := Lib.hid hL
      have HGW := Lib.hid (G3.out.trans hG)
      have hp3 : p < wr.heap.size := LeftAt.lt hL
      have hpne3 : ¬ p = wr.heap.size := by omega
      clear hj hG hL
      obtain ⟨c0, c1, c2, c3, c4⟩ := B3.out.gr HG.out (fun e => HHP.out.2 e.symm)
      by_cases hlt : j < pl
      · have hlz : (j : Int) < (pl : Int) := by omega
        have hjl : j < ps.length := by rw [← HPL.out]; exact hlt
        have HB := Lib.hid (gr_below HGW.out hz hzw)
        obtain ⟨g, o', a', c', b', d', hb, hg, h5, hfq⟩ := (HPS.out.later HB.out).get j hjl
        obtain ⟨q, hq⟩ : ∃ q, q = ps[j] := ⟨_, rfl⟩
        rw [← hq] at h5 hfq
        have HQ := Lib.hid (show ps[j]? = some q by rw [hq]; exact List.getElem?_eq_getElem hjl)
        have HMEM := Lib.hid (List.mem_of_getElem? HQ.out)
        obtain ⟨e0, e1, e2, e3, e4⟩ := h5
        obtain ⟨qn, en1, _⟩ := bs_bytes q.name
        obtain ⟨qo, eo1, _⟩ := bs_bytes q.op
        have CI := Lib.hid (fun W h1 h2 h3 h4 => IH.out q HMEM.out a' c' b' d' dd (m - szL (ps.take j)) z p W (by omega) (by omega) h1 hz h2 h3 h4)
        have HSTEP := Lib.hid (okU_step hok.out HQ.out)
        have HSZ := Lib.hid (szL_step HQ.out)
        rw [en1] at e1 CI
        rw [eo1] at e2 CI
        rw [Nat.zero_add] at e0 e1 e2 e3 e4
        have HFQ := Lib.hid hfq
        obtain ⟨qk, hqk⟩ : ∃ x, x = q.kind := ⟨_, rfl⟩
        obtain ⟨qv, hqv⟩ : ∃ x, x = q.vals.length := ⟨_, rfl⟩
        obtain ⟨qp, hqp⟩ : ∃ x, x = q.parts.length := ⟨_, rfl⟩
        obtain ⟨mq, hmq⟩ : ∃ x, x = mayB q dd (m - szL (ps.take j)) := ⟨_, rfl⟩
        obtain ⟨n', hn'⟩ : ∃ x, x = m - szL (ps.take j) := ⟨_, rfl⟩
        rw [← hqk] at e0 CI HSTEP
        rw [← hqv] at e3 CI
        rw [← hqp] at e4 CI
        rw [← hmq] at HSTEP
        rw [← hn'] at CI hmq HLr
        have HMQ := Lib.hid hmq
        have HN' := Lib.hid hn'
        have HGLT := Lib.hid (show g < wr.heap.size from Nat.lt_of_lt_of_le hg (Nat.le_trans hzw HGW.out.size))
        have hglt : g < wr.heap.size := HGLT.out
        have hgne : ¬ g = wr.heap.size := by omega
        have hblt : w.heap.size < wr.heap.size := by have := B3.out.lt; have := HG.out.size; omega
        have hbne : ¬ w.heap.size = wr.heap.size := by omega
        subst hb
        clear hg hq hfq hqk hqv hqp hmq hn' en1 eo1
        have CJ := Lib.hid (fun W => isJoined_any k W)
        have WA := Lib.hid (show ∀ ob, w3.grownBy (wr.alloc ob) (some p) ∧ LeftAt (wr.alloc ob) p (n' : Nat) ∧ LaidZ z (wr.alloc ob) ∧ z ≤ (wr.alloc ob).heap.size ∧ FltAt (wr.alloc ob) (Old z) q a' b' from fun ob =>
          ⟨gr_alloc HG.out ob, HLr.out.alloc ob, (HE.out.later HB.out).later ((Below.refl _ _).alloc (Nat.le_trans hzw HGW.out.size) ob), Nat.le_trans (Nat.le_trans hzw HGW.out.size) (by simp), HFQ.out.later ((Below.refl _ _).alloc (Nat.le_trans hzw HGW.out.size) ob)⟩)
        obtain ⟨jo, hjo⟩ : ∃ x, x = joinedB k := ⟨_, rfl⟩
        rw [← hjo] at CJ HSTEP
        clear hjo
        by_cases hbad : jo = true ∧ qk = k
        · obtain ⟨rfl, rfl⟩ := hbad
          have HF0 := Lib.hid (show mayB (.mk qk nm o vs ps) (dd + 1) (m + 1) = false by rw [HOK.out]; exact okU_take (j := j + 1) (by rw [HSTEP.out]; simp))
          go_wp2_with (go_at_call 55; refine Calls.mono (CJ.out _) ?_; rintro e w5 ⟨rfl, rfl⟩)
          go_ret
          exact may_ret HF0.out rfl (G3.out.trans (WA.out _).1) (WA.out _).2.1
        · have HS2 := Lib.hid (show okU k dd m (ps.take (j + 1)) = mq by
            rw [HSTEP.out]
            cases jo with
            | false => rfl
            | true => rw [decide_eq_false (show ¬ qk = k from fun e => hbad ⟨rfl, e⟩)]; rfl)
          have hbz : jo = false ∨ (jo = true ∧ ¬ qk = k) := by
            cases jo with
            | false => exact Or.inl rfl
            | true => exact Or.inr ⟨rfl, fun e => hbad ⟨rfl, e⟩⟩
          clear hbad
          cases mq
          · have HF0 := Lib.hid (show mayB (.mk k nm o vs ps) (dd + 1) (m + 1) = false by rw [HOK.out]; exact okU_take (j := j + 1) HS2.out)
            rcases hbz with rfl | ⟨rfl, hqne⟩
            all_goals
              go_wp2_with (first | (go_at_call 55; refine Calls.mono (CJ.out _) ?_; rintro e w5 ⟨rfl, rfl⟩) | (go_at_call 43; refine Calls.mono (CI.out _ (WA.out _).2.2.1 (WA.out _).2.2.2.1 (WA.out _).2.2.2.2 (WA.out _).2.1) ?_; rintro e w5 ⟨rfl, hg5, ⟨mm, hm5⟩, _⟩; have HG5 := Lib.hid ((WA.out _).1.trans hg5); have HM5 := Lib.hid hm5; rw [← HMQ.out]; clear hg5 hm5))
              go_ret
              exact may_ret HF0.out rfl (G3.out.trans HG5.out) HM5.out
          · rcases hbz with rfl | ⟨rfl, hqne⟩
            all_goals
              go_wp2_with (first | (go_at_call 55; refine Calls.mono (CJ.out _) ?_; rintro e w5 ⟨rfl, rfl⟩) | (go_at_call 43; refine Calls.mono (CI.out _ (WA.out _).2.2.1 (WA.out _).2.2.2.1 (WA.out _).2.2.2.2 (WA.out _).2.1) ?_; rintro e w5 ⟨rfl, hg5, _, hm5⟩; have HG5 := Lib.hid ((WA.out _).1.trans hg5); have HM5 := Lib.hid (hm5 HMQ.out.symm); rw [← HMQ.out]; clear hg5 hm5))
              go_roundw
              case rel => exact ⟨j + 1, by go_num, by omega, HS2, HG5.out, by rw [HSZ.out, show m - (szL (ps.take j) + sz q) = n' - sz q by rw [HN'.out]; omega]; exact HM5.out⟩
              case measure => simp [intOf]; omega
      · have hlz : ¬ (j : Int) < (pl : Int) := by omega
        have HF0 := Lib.hid (show mayB (.mk k nm o vs ps) (dd + 1) (m + 1) = true by
          rw [HOK.out]
          have := hok.out
          rwa [show j = ps.length by have := HJ.out; have := HPL.out; omega, List.take_length] at this)
        have HS0 := Lib.hid (show m - szL (ps.take j) = (m + 1) - sz (.mk k nm o vs ps) by
          rw [show j = ps.length by have := HJ.out; have := HPL.out; omega, List.take_length, sz]; omega)
        go_wp2_with fail
        go_ret
        exact ⟨by rw [HF0.out]; rfl, HGW.out, ⟨_, HLr.out⟩, fun _ => by rw [← HS0.out]; exact HLr.out⟩
theorem may_all : ∀ (N : Nat) (f : Flt), sz f ≤ N → MayOk f
  | 0, f, h => by have := sz_pos f; omega
  | N + 1, f, h => may_ok f fun q hq => may_all N q (by
      cases f
      simp only [Flt.parts] at hq
      have := sz_mem hq
      rw [sz] at h
      omega)
end Go.Proofs.YtmfkpoojfpepaaaGreatDoor.Fl
/-
  Contract of May of package filter: may a filter be? Memory that was there is left as it was.
-/
namespace Go.Proofs.YtmfkpoojfpepaaaGreatDoor.Fl
open Go.RowKit Go.Proofs.YtmfkpoojfpepaaaGreatDoor.Tk
set_option linter.unusedVariables false
set_option linter.unusedSimpArgs false

theorem LeftAt.new (w : World) (m : Int) (t : TypeId) : LeftAt (w.alloc (.cells #[.int .i64 m] t)) w.heap.size m := by
  constructor <;> simp [go_sem]
theorem filterMay_any (f : Flt) (a : Option Addr) (c : Nat) (b : Option Addr) (d : Nat) (w : World) (hE : LaidE w) (hF : FltAt w (Old w.heap.size) f a b) :
    Calls Tryz.prog 24 #[.agg #[.int .i64 f.kind, bs f.name, bs f.op, .slice a f.vals.length c, .slice b f.parts.length d]] w fun e w' => e = .returned (.bool (mayB f 10 60)) ∧ Below w.heap.size w w' := by
  have HC := Lib.hid (fun W p h1 h2 h3 h4 h5 => may_all (sz f) f (Nat.le_refl _) a c b d 10 60 w.heap.size p W (by omega) (by omega) h1 h2 h3 h4 h5)
  obtain ⟨sn, en, _⟩ := bs_bytes f.name
  obtain ⟨so, eo, _⟩ := bs_bytes f.op
  rw [en, eo] at HC ⊢
  have HE := Lib.hid (laidZ_of hE)
  have HF := Lib.hid hF
  obtain ⟨res, hres⟩ : ∃ x, x = mayB f 10 60 := ⟨_, rfl⟩
  have HR := Lib.hid hres
  rw [← hres]
  obtain ⟨qk, hqk⟩ : ∃ x, x = f.kind := ⟨_, rfl⟩
  obtain ⟨qv, hqv⟩ : ∃ x, x = f.vals.length := ⟨_, rfl⟩
  obtain ⟨qp, hqp⟩ : ∃ x, x = f.parts.length := ⟨_, rfl⟩
  rw [← hqk, ← hqv, ← hqp] at HC ⊢
  clear en eo hE hF hres hqk hqv hqp
  obtain ⟨w1, hw1⟩ : ∃ v, v = (w.alloc (.cells #[.int .i64 qk, .string sn, .string so, .slice a qv c, .slice b qp d] 27)).alloc (.cells #[.int .i64 60] 3) := ⟨_, rfl⟩
  have hs1 : (w.alloc (.cells #[.int .i64 qk, .string sn, .string so, .slice a qv c, .slice b qp d] 27)).heap.size = w.heap.size + 1 := by simp
  have HL := Lib.hid (show LeftAt w1 (w.heap.size + 1) ((60 : Nat) : Int) by rw [hw1, ← hs1]; exact LeftAt.new _ _ _)
  have HB := Lib.hid (show Below w.heap.size w w1 by rw [hw1]; exact ((Below.refl _ _).alloc (Nat.le_refl _) _).alloc (by rw [hs1]; omega) _)
  have HW := Lib.hid hw1
  clear hw1 hs1
  go_enter Tryz.func24, Tryz.ntmps24
  go_wp2_with fail
  rw [← HW.out]
  refine Calls.mono (HC.out w1 (w.heap.size + 1) (HE.out.later HB.out) (by omega) HB.out.size (HF.out.later HB.out) HL.out) ?_
  rintro e w2 ⟨rfl, hg, _, _⟩
  rw [← HR.out]
  have HB2 := Lib.hid (HB.out.trans (gr_below hg (by omega) HB.out.size))
  clear hg
  go_wp2_with fail
  go_ret
  exact ⟨rfl, HB2.out⟩
end Go.Proofs.YtmfkpoojfpepaaaGreatDoor.Fl
/-
  Contracts of package check's functions on one name and one value: is a string a name, may a value be. Memory that was there is left as it was.
-/
namespace Go.Proofs.YtmfkpoojfpepaaaGreatDoor.Ck
open Go.RowKit Go.Proofs.YtmfkpoojfpepaaaGreatDoor.Fl Go.Proofs.YtmfkpoojfpepaaaGreatDoor.Tk
set_option linter.unusedVariables false
set_option linter.unusedSimpArgs false

theorem size0 : (⟨#[]⟩ : ByteArray).size ≤ maxLen := by show (0 : Nat) ≤ 9223372036854775807; omega
theorem size1 (c : UInt8) : (⟨#[c]⟩ : ByteArray).size ≤ maxLen := by show (1 : Nat) ≤ 9223372036854775807; omega
theorem atts_one {W : World} {g : Nat} {v : Att} (hok : attOk v) (h0 : W.cell? ⟨g, 0, none⟩ = some (bs v.name)) (h1 : W.cell? ⟨g, 1, none⟩ = some (.bool v.text)) (h2 : W.cell? ⟨g, 2, none⟩ = some (.int .i64 v.num)) (h3 : W.cell? ⟨g, 3, none⟩ = some (bs v.str)) : AttsAt W (Old W.heap.size) (some ⟨g, 0, none⟩) [v] := by
  refine ⟨by simp [maxLen], by simpa using hok, fun _ => ⟨g, 0, rfl, World.block_lt_of_cell? W ⟨g, 0, none⟩ h0, fun k hk => ?_⟩⟩
  obtain rfl : k = 0 := by simpa using hk
  exact ⟨by simpa using h0, by simpa using h1, by simpa using h2, by simpa using h3⟩
set_option maxHeartbeats 1000000 in
set_option maxRecDepth 100000 in
theorem mayCompare_any (s : ByteArray) (hs : s.size ≤ maxLen) (sn : ByteArray) (tx : Bool) (n : Int) (ss : ByteArray) (hsn : sn.size ≤ maxLen) (hn1 : -9223372036854775808 ≤ n) (hn2 : n ≤ 9223372036854775807) (hss : ss.size ≤ maxLen) (w : World) (hE : LaidE w) :
    Calls Tryz.prog 50 #[.string s, .agg #[.string sn, .bool tx, .int .i64 n, .string ss]] w fun e w' => e = .returned (.bool (nameB s.data.toList && valB ⟨sn.data.toList, tx, n, ss.data.toList⟩)) ∧ Below w.heap.size w w' := by
  obtain ⟨w1, hw1⟩ : ∃ v, v = (w.alloc (.cells #[.string sn, .bool tx, .int .i64 n, .string ss] 46)).alloc (.cells #[.string sn, .bool tx, .int .i64 n, .string ss] 46) := ⟨_, rfl⟩
  have hs1 : (w.alloc (.cells #[.string sn, .bool tx, .int .i64 n, .string ss] 46)).heap.size = w.heap.size + 1 := by simp
  have HB := Lib.hid (show Below w.heap.size w w1 by rw [hw1]; exact ((Below.refl _ _).alloc (Nat.le_refl _) _).alloc (by rw [hs1]; omega) _)
  have HA := Lib.hid (show AttsAt w1 (Old w1.heap.size) (some ⟨w.heap.size + 1, 0, none⟩) [⟨sn.data.toList, tx, n, ss.data.toList⟩] by
    refine atts_one ⟨by rw [size_list]; exact hsn, by rw [size_list]; exact hss, hn1, hn2⟩ ?_ ?_ ?_ ?_ <;> rw [hw1] <;> simp [go_sem, bs_list])
  have HC := Lib.hid (filterMay_any (.mk 4 s.data.toList [61] [⟨sn.data.toList, tx, n, ss.data.toList⟩] []) (some ⟨w.heap.size + 1, 0, none⟩) 1 none 0 w1 (hE.later HB.out) (FltAt.mk' ⟨by show s.data.toList.length ≤ _; rw [size_list]; exact hs, by simp [Flt.op, maxLen], by simp [Flt.kind], by simp [Flt.kind], by simp [Flt.parts]⟩ HA.out (by simp only [Flt.parts]; rw [PartsAt]; trivial)))
  rw [cmp_may] at HC
  simp only [Flt.kind, Flt.name, Flt.op, Flt.vals, Flt.parts, bs_list, List.length_cons, List.length_nil, Nat.zero_add] at HC
  have HW := Lib.hid hw1
  obtain ⟨res, hres⟩ : ∃ b, b = (nameB s.data.toList && valB ⟨sn.data.toList, tx, n, ss.data.toList⟩) := ⟨_, rfl⟩
  rw [← hres] at HC ⊢
  clear hw1 hs1 hres HA
  go_enter Tryz.func50, Tryz.ntmps50
  go_wp2_with fail
  rw [← HW.out]
  refine Calls.mono HC.out ?_
  rintro e w2 ⟨rfl, hb⟩
  have HB2 := Lib.hid (HB.out.trans (hb.mono HB.out.size))
  clear hb
  go_wp2_with fail
  go_ret
  exact ⟨rfl, HB2.out⟩
set_option maxHeartbeats 1000000 in
set_option maxRecDepth 100000 in
theorem ckName_any (s : ByteArray) (hs : s.size ≤ maxLen) (w : World) (hE : LaidE w) :
    Calls Tryz.prog 42 #[.string s] w fun e w' => e = .returned (.bool (nameB s.data.toList)) ∧ Below w.heap.size w w' := by
  have HC := Lib.hid (mayCompare_any s hs ⟨#[]⟩ false 0 ⟨#[]⟩ size0 (by omega) (by omega) size0 w hE)
  rw [show (⟨#[]⟩ : ByteArray).data.toList = [] from rfl, val_zero, Bool.and_true] at HC
  obtain ⟨res, hres⟩ : ∃ b, b = nameB s.data.toList := ⟨_, rfl⟩
  rw [← hres] at HC ⊢
  clear hres
  go_enter Tryz.func42, Tryz.ntmps42
  go_wp2_with fail
  refine Calls.mono HC.out ?_
  rintro e w2 ⟨rfl, hb⟩
  have HB2 := Lib.hid hb
  clear hb
  go_wp2_with fail
  go_ret
  exact ⟨rfl, HB2.out⟩
set_option maxHeartbeats 1000000 in
set_option maxRecDepth 100000 in
theorem ckNoValue_any (sn : ByteArray) (tx : Bool) (n : Int) (ss : ByteArray) (hn1 : -9223372036854775808 ≤ n) (hn2 : n ≤ 9223372036854775807) (hss : ss.size ≤ maxLen) (w : World) (hE : LaidE w) :
    Calls Tryz.prog 35 #[.agg #[.string sn, .bool tx, .int .i64 n, .string ss]] w fun e w' => e = .returned (.bool (!(valB ⟨[], tx, n, ss.data.toList⟩))) ∧ Below w.heap.size w w' := by
  obtain ⟨w1, hw1⟩ : ∃ v, v = (w.alloc (.cells #[.string ⟨#[]⟩, .bool tx, .int .i64 n, .string ss] 46)) := ⟨_, rfl⟩
  have HB := Lib.hid (show Below w.heap.size w w1 by rw [hw1]; exact ((Below.refl _ _).alloc (Nat.le_refl _) _))
  have HC := Lib.hid (mayCompare_any ⟨#[97]⟩ (size1 _) ⟨#[]⟩ tx n ss size0 hn1 hn2 hss w1 (hE.later HB.out))
  rw [show (⟨#[]⟩ : ByteArray).data.toList = [] from rfl, show (⟨#[97]⟩ : ByteArray).data.toList = [97] from rfl, name_a, Bool.true_and] at HC
  obtain ⟨res, hres⟩ : ∃ b, b = valB ⟨[], tx, n, ss.data.toList⟩ := ⟨_, rfl⟩
  rw [← hres] at HC ⊢
  have HW := Lib.hid hw1
  clear hres hw1
  go_enter Tryz.func35, Tryz.ntmps35
  go_wp2_with fail
  rw [← HW.out]
  refine Calls.mono HC.out ?_
  rintro e w2 ⟨rfl, hb⟩
  have HB2 := Lib.hid (HB.out.trans (hb.mono HB.out.size))
  clear hb
  go_wp2_with fail
  go_ret
  exact ⟨rfl, HB2.out⟩
end Go.Proofs.YtmfkpoojfpepaaaGreatDoor.Ck
/-
  Contract of the document's answer Name: is a text a name? Memory that was there is left as it was.
-/
namespace Go.Proofs.YtmfkpoojfpepaaaGreatDoor.Fl
open Go.RowKit Go.Proofs.YtmfkpoojfpepaaaGreatDoor.Tk
set_option linter.unusedVariables false
set_option linter.unusedSimpArgs false

theorem name_nil : nameB [] = false := rfl
set_option maxHeartbeats 1000000 in
set_option maxRecDepth 100000 in
theorem refName_any (s : ByteArray) (w : World) : Calls Tryz.prog 45 #[.string s] w fun e w' => e = .returned (.bool (nameB s.data.toList)) ∧ Below w.heap.size w w' := by
  have HS := Lib.hid (Lib.size_eq s)
  obtain ⟨res, hres⟩ : ∃ b, nameB s.data.toList = b := ⟨_, rfl⟩
  rw [hres]
  have HR := Lib.hid hres
  clear hres
  by_cases h0 : s.size = 0
  · have h0z : (s.size : Int) = 0 := by omega
    have HF := Lib.hid (show res = false by
      rw [← HR.out, List.eq_nil_of_length_eq_zero (show s.data.toList.length = 0 by have := HS.out; omega)]; rfl)
    go_enter Tryz.func45, Tryz.ntmps45
    go_wp2_with fail
    go_ret
    exact ⟨by rw [HF.out]; rfl, Below.refl _ _⟩
  have h0z : ¬ (s.size : Int) = 0 := by omega
  by_cases h20 : 20 < s.size
  · have h20z : (20 : Int) < (s.size : Int) := by omega
    have HF := Lib.hid (show res = false by
      cases h : res with
      | false => rfl
      | true => rw [h] at HR; have := (name_short HR.out).1; have := HS.out; omega)
    go_enter Tryz.func45, Tryz.ntmps45
    go_wp2_with fail
    go_ret
    exact ⟨by rw [HF.out]; rfl, Below.refl _ _⟩
  have h20z : ¬ (20 : Int) < (s.size : Int) := by omega
  obtain ⟨c, r, hcr⟩ : ∃ c r, s.data.toList = c :: r := by
    cases h : s.data.toList with
    | nil => rw [h] at HS; have := HS.out; rw [List.length_nil] at this; omega
    | cons c r => exact ⟨c, r, rfl⟩
  have HC := Lib.hid (fun W => refOne_any s (by omega) 0 c r hcr W)
  have HL := Lib.hid hcr
  clear hcr
  go_enter Tryz.func45, Tryz.ntmps45
  go_wp2_with fail
  refine (HC.out _).mono ?_
  rintro e w1 ⟨ho, hb⟩
  have HB := Lib.hid hb
  clear hb
  cases hx : lex (c :: r) with
  | none =>
    rw [hx] at ho
    obtain ⟨k, p, n, str, z, rfl⟩ := ho
    have HF := Lib.hid (show res = false by rw [← HR.out, HL.out, nameB, hx])
    clear hx
    go_wp2_with fail
    go_ret
    exact ⟨by rw [HF.out]; rfl, HB.out.alloc HB.out.size _⟩
  | some x =>
    rw [hx] at ho
    simp only [OneEnd] at ho
    subst ho
    have HF := Lib.hid (show res = (x.kind == 1 && x.size == s.size) by
      rw [← HR.out, HL.out, nameB, hx, HS.out, HL.out])
    obtain ⟨k, hk⟩ : ∃ y, y = x.kind := ⟨_, rfl⟩
    obtain ⟨n, hn⟩ : ∃ y, y = x.num := ⟨_, rfl⟩
    obtain ⟨z, hz⟩ : ∃ y, y = x.size := ⟨_, rfl⟩
    obtain ⟨str, hs⟩ : ∃ y : ByteArray, y = ⟨x.str.toArray⟩ := ⟨_, rfl⟩
    rw [← hk, ← hz] at HF
    rw [← hk, ← hn, ← hz, ← hs, Nat.zero_add]
    clear hk hn hz hs hx
    by_cases h1 : z = s.size
    · subst h1
      have HG := Lib.hid (show res = (k == 1) by rw [HF.out]; simp)
      go_wp2_with fail
      go_ret
      exact ⟨by rw [HG.out]; first | rfl | simp, HB.out.alloc HB.out.size _⟩
    · have h1z : ¬ (z : Int) = (s.size : Int) := by omega
      have HG := Lib.hid (show res = false by rw [HF.out]; simp [h1])
      go_wp2_with fail
      go_ret
      exact ⟨by rw [HG.out]; rfl, HB.out.alloc HB.out.size _⟩
end Go.Proofs.YtmfkpoojfpepaaaGreatDoor.Fl
/-
  Contracts: may a schema be (isSchema of package check, the document's Schema). Memory that was there is left as it was.
-/
namespace Go.Proofs.YtmfkpoojfpepaaaGreatDoor.Ck
open Go.RowKit Go.Proofs.YtmfkpoojfpepaaaGreatDoor.Fl Go.Proofs.YtmfkpoojfpepaaaGreatDoor.Tk
set_option linter.unusedVariables false
set_option linter.unusedSimpArgs false

def ScR (l : List Nm) (w : World) (vi : Value) (wr : World) : Prop :=
  ∃ k : Nat, k ≤ l.length ∧ vi = .int .i64 k ∧ Hid (anyTo (badN l) k = false) ∧ Below w.heap.size w wr
theorem bad_yes {l : List Nm} {t : List Bool} {k : Nat} (hk : k < l.length) (h : badN l k = true) : schB l t = false := by
  unfold schB
  rw [anyTo_yes hk h]
  simp
theorem bad_none {l : List Nm} {t : List Bool} {k : Nat} (hk : k = l.length) (h : anyTo (badN l) k = false) : schB l t = decide (l.length = t.length) := by
  unfold schB
  rw [← hk, h]
  simp
theorem bad_at {l : List Nm} {k : Nat} {U : Nm} (h : l[k]? = some U) : badN l k = (!(nameB U) || (decide (0 < k) && !decide (l.getD (k - 1) [] < U))) := by
  unfold badN
  rw [List.getD_eq_getElem?_getD, h]
  rfl
theorem bytes_lt {x y : ByteArray} {X Y : Nm} (hx : x.data.toList = X) (hy : y.data.toList = Y) : Op.bytesLess x.toList y.toList = decide (X < Y) := by
  rw [bytesLess_eq, Lib.toList_data, Lib.toList_data, hx, hy]

set_option maxHeartbeats 4000000 in
set_option maxRecDepth 100000 in
theorem isSchema_any (l : List Nm) (t : List Bool) (a : Option Addr) (c : Nat) (b : Option Addr) (d : Nat) (w : World) (hE : LaidE w) (hS : SchAt w l t a b) :
    Calls Tryz.prog 23 #[.agg #[.slice a l.length c, .slice b t.length d]] w fun e w' => e = .returned (.bool (schB l t)) ∧ Below w.heap.size w w' := by
  have CN := Lib.hid (fun s hs W h => ckName_any s hs W h)
  have HS := Lib.hid hS
  obtain ⟨n, hn⟩ : ∃ n, n = l.length := ⟨_, rfl⟩
  obtain ⟨m, hm⟩ : ∃ n, n = t.length := ⟨_, rfl⟩
  have h100 : n ≤ 100 := by rw [hn]; exact hS.1
  have hbt : m ≤ 9223372036854775807 := by have := hS.2.2.1; unfold maxLen at this; omega
  have HN := Lib.hid hn
  have HM := Lib.hid hm
  obtain ⟨res, hres⟩ : ∃ r, r = schB l t := ⟨_, rfl⟩
  have HR := Lib.hid hres
  rw [← hres, ← hn, ← hm]
  have HE := Lib.hid hE
  clear hn hm hS hres hE
  obtain ⟨w1, hw1⟩ : ∃ v, v = w.alloc (.cells #[.slice a n c, .slice b m d] 37) := ⟨_, rfl⟩
  have X1 := Lib.hid (show Two w1 w.heap.size (.slice a n c) (.slice b m d) by rw [hw1]; exact Two.new ..)
  have HB := Lib.hid (show Below w.heap.size w w1 by rw [hw1]; exact (Below.refl _ _).alloc (Nat.le_refl _) _)
  have HW := Lib.hid hw1
  clear hw1
  by_cases hnm : n = m
  · have hnmz : ((n : Nat) : Int) = (m : Nat) := by omega
    subst hnm
    go_enter Tryz.func23, Tryz.ntmps23
    go_wp2_with fail
    rw [← HW.out]
    go_loopw [15] (fun vi wr => ScR l w1 vi wr) (fun vi _ => n - (intOf vi).toNat)
    case atStart => exact ⟨0, Nat.zero_le _, rfl, Lib.hid rfl, Below.refl _ _⟩
    case round =>
      obtain ⟨k, hk, rfl, hall, hBB⟩ := hrel
      have HK := Lib.hid hk
      have HBB := Lib.hid hBB
      have HBW := Lib.hid (HB.out.trans (hBB.mono HB.out.size))
      have HALL := Lib.hid hall.out
      obtain ⟨p0, p1⟩ := X1.out.later HBB.out
      clear hk hBB hall
      by_cases hlt : k < n
      · have hlz : (k : Int) < (n : Int) := by omega
        have hkl : k < l.length := by rw [← HN.out]; exact hlt
        obtain ⟨g, o, hg, hgl, hc⟩ := (HS.out.fit HBW.out).2.1.2.2 (by omega)
        have e0 := hc k hkl
        obtain ⟨U, hU⟩ : ∃ V, V = l[k] := ⟨_, rfl⟩
        rw [← hU] at e0
        have HU := Lib.hid (show l[k]? = some U by rw [hU]; exact List.getElem?_eq_getElem hkl)
        have HSL := Lib.hid (HS.out.2.1.2.1 U (List.mem_of_getElem? HU.out))
        obtain ⟨s1, q1, f1⟩ := bs_bytes U
        rw [q1] at e0
        have HSX := Lib.hid f1
        have HSZ := Lib.hid (show s1.size ≤ maxLen by rw [← size_list, f1]; exact HSL.out)
        subst hg
        by_cases hk0 : k = 0
        · subst hk0
          rw [Nat.add_zero] at e0
          clear hc hU q1 f1 hgl
          by_cases hnb : nameB U = true
          · have HBAD := Lib.hid (show badN l 0 = false by rw [bad_at HU.out, hnb]; simp)
            have CX := Lib.hid (CN.out s1 HSZ.out _ (HE.out.later HBW.out))
            rw [HSX.out, hnb] at CX
            clear hnb
            go_wp2_with (go_at_call 42; refine Calls.mono CX.out ?_; rintro e w2 ⟨rfl, hb⟩; have HB2 := Lib.hid (HBB.out.trans (hb.mono HBB.out.size)); clear hb)
            go_roundw
            case rel => exact ⟨1, by have := HN.out; omega, by go_num, Lib.hid (anyTo_next HALL.out HBAD.out), HB2.out⟩
            case measure => simp [intOf]; omega
          · have HF := Lib.hid (show res = false by rw [HR.out]; exact bad_yes (by have := HN.out; omega) (by rw [bad_at HU.out]; simp [hnb]))
            have CX := Lib.hid (CN.out s1 HSZ.out _ (HE.out.later HBW.out))
            rw [HSX.out, Bool.eq_false_iff.2 hnb] at CX
            clear hnb
            go_wp2_with (go_at_call 42; refine Calls.mono CX.out ?_; rintro e w2 ⟨rfl, hb⟩; have HB2 := Lib.hid (HBB.out.trans (hb.mono HBB.out.size)); clear hb)
            go_ret
            exact ⟨by rw [HF.out]; rfl, HB.out.trans (HB2.out.mono HB.out.size)⟩
        · have hk0z : (0 : Int) < (k : Int) := by omega
          have hk0b : decide ((0 : Int) < (k : Int)) = true := decide_eq_true hk0z
          have hk0n : 0 < k := by omega
          have hk0d : decide (0 < k) = true := decide_eq_true hk0n
          have e9 := hc (k - 1) (by omega)
          obtain ⟨V, hV⟩ : ∃ V, V = l[k - 1] := ⟨_, rfl⟩
          rw [← hV] at e9
          have HV := Lib.hid (show l.getD (k - 1) [] = V by rw [hV, List.getD_eq_getElem?_getD, List.getElem?_eq_getElem (by omega)]; rfl)
          obtain ⟨s2, q2, f2⟩ := bs_bytes V
          rw [q2] at e9
          have hbl := bytes_lt f2 f1
          obtain ⟨j, hj⟩ : ∃ j, k = j + 1 := ⟨k - 1, by omega⟩
          have hj1 : (k : Int) - 1 = (j : Int) := by omega
          have hjn : (j : Int) < (n : Int) := by omega
          have hjm : j < n := by omega
          rw [show k - 1 = j by omega] at e9 HV
          have HJ := Lib.hid (show k - 1 = j by omega)
          clear hj hk0
          clear hc hU q1 f1 hgl hV q2 f2
          by_cases hvu : V < U
          · rw [decide_eq_true hvu] at hbl
            have HVU := Lib.hid hvu
            clear hvu
            by_cases hnb : nameB U = true
            · have HBAD := Lib.hid (show badN l k = false by rw [bad_at HU.out, hnb]; rw [HJ.out, HV.out, decide_eq_true HVU.out]; simp)
              have CX := Lib.hid (CN.out s1 HSZ.out _ (HE.out.later HBW.out))
              rw [HSX.out, hnb] at CX
              clear hnb
              go_wp2_with (go_at_call 42; refine Calls.mono CX.out ?_; rintro e w2 ⟨rfl, hb⟩; have HB2 := Lib.hid (HBB.out.trans (hb.mono HBB.out.size)); clear hb)
              go_roundw
              case rel => exact ⟨k + 1, by have := HN.out; omega, by go_num, Lib.hid (anyTo_next HALL.out HBAD.out), HB2.out⟩
              case measure => simp [intOf]; omega
            · have HF := Lib.hid (show res = false by rw [HR.out]; exact bad_yes (by have := HN.out; omega) (by rw [bad_at HU.out]; simp [hnb]))
              have CX := Lib.hid (CN.out s1 HSZ.out _ (HE.out.later HBW.out))
              rw [HSX.out, Bool.eq_false_iff.2 hnb] at CX
              clear hnb
              go_wp2_with (go_at_call 42; refine Calls.mono CX.out ?_; rintro e w2 ⟨rfl, hb⟩; have HB2 := Lib.hid (HBB.out.trans (hb.mono HBB.out.size)); clear hb)
              go_ret
              exact ⟨by rw [HF.out]; rfl, HB.out.trans (HB2.out.mono HB.out.size)⟩
          · rw [decide_eq_false hvu] at hbl
            have HF := Lib.hid (show res = false by rw [HR.out]; exact bad_yes (by have := HN.out; omega) (by rw [bad_at HU.out, HJ.out, HV.out, decide_eq_true (show 0 < k by omega)]; simp [hvu]))
            clear hvu
            go_wp2_with fail
            go_ret
            exact ⟨by rw [HF.out]; rfl, HBW.out⟩
      · have hlz : ¬ (k : Int) < (n : Int) := by omega
        have HF := Lib.hid (show res = true by rw [HR.out, bad_none (by have := HN.out; have := HK.out; omega) HALL.out, ← HN.out, ← HM.out]; exact decide_eq_true rfl)
        go_wp2_with fail
        go_ret
        exact ⟨by rw [HF.out]; rfl, HBW.out⟩

  · have hnmz : ¬ ((n : Nat) : Int) = (m : Nat) := by omega
    have HF := Lib.hid (show res = false by rw [HR.out]; unfold schB; rw [← HN.out, ← HM.out]; simp [hnm])
    go_enter Tryz.func23, Tryz.ntmps23
    go_wp2_with fail
    go_ret
    exact ⟨by rw [HF.out]; rfl, by rw [← HW.out]; exact HB.out⟩
end Go.Proofs.YtmfkpoojfpepaaaGreatDoor.Ck
namespace Go.Proofs.YtmfkpoojfpepaaaGreatDoor.Ck
open Go.RowKit Go.Proofs.YtmfkpoojfpepaaaGreatDoor.Fl Go.Proofs.YtmfkpoojfpepaaaGreatDoor.Tk
set_option linter.unusedVariables false
set_option linter.unusedSimpArgs false

def TyV (r : Bool) (vs : List Att) (w : World) (vi : Value) (wr : World) : Prop :=
  ∃ j : Nat, j ≤ vs.length ∧ vi = .int .i64 j ∧ Hid (∀ v ∈ vs.take j, v.text = r) ∧ Below w.heap.size w wr
def TyP (l : List Nm) (t : List Bool) (ps : List Flt) (w : World) (vi : Value) (wr : World) : Prop :=
  ∃ j : Nat, j ≤ ps.length ∧ vi = .int .i64 j ∧ Hid (∀ p ∈ ps.take j, typB l t p = true) ∧ Below w.heap.size w wr
theorem take_all {α : Type} {P : α → Prop} {vs : List α} {k : Nat} {v : α} (h : ∀ v ∈ vs.take k, P v) (hk : vs[k]? = some v) (hv : P v) : ∀ v ∈ vs.take (k + 1), P v := by
  rw [List.take_add_one, hk]
  intro u hu
  rcases List.mem_append.1 hu with hu | hu
  · exact h u hu
  · simp at hu
    rw [hu]
    exact hv
theorem typ_val {l : List Nm} {t : List Bool} {k : Int} {nm o : List UInt8} {vs : List Att} {ps : List Flt} {v : Att} (h : v ∈ vs) (hn : ¬ v.text = isT l t nm) : typB l t (.mk k nm o vs ps) = false := by
  rw [typB, Bool.and_eq_false_iff]
  left
  rw [List.all_eq_false]
  exact ⟨v, h, by simpa using hn⟩
theorem typ_sub {l : List Nm} {t : List Bool} {k : Int} {nm o : List UInt8} {vs : List Att} {ps : List Flt} {p : Flt} (h : p ∈ ps) (hn : typB l t p = false) : typB l t (.mk k nm o vs ps) = false := by
  rw [typB, Bool.and_eq_false_iff]
  right
  rw [typL_all, List.all_eq_false]
  exact ⟨p, h, by simpa using hn⟩
theorem typ_all {l : List Nm} {t : List Bool} {k : Int} {nm o : List UInt8} {vs : List Att} {ps : List Flt} (h : ∀ v ∈ vs, v.text = isT l t nm) (hp : ∀ p ∈ ps, typB l t p = true) : typB l t (.mk k nm o vs ps) = true := by
  rw [typB, Bool.and_eq_true, typL_all, List.all_eq_true, List.all_eq_true]
  exact ⟨fun v hv => by simpa using h v hv, hp⟩
def TypOk (ns : List Nm) (ts : List Bool) (a0 : Option Addr) (c0 : Nat) (b0 : Option Addr) (d0 : Nat) (f : Flt) : Prop := ∀ (a : Option Addr) (c : Nat) (b : Option Addr) (d : Nat) (w : World), FltAt w (Old w.heap.size) f a b → SchAt w ns ts a0 b0 →
  Calls Tryz.prog 26 #[.agg #[.slice a0 ns.length c0, .slice b0 ts.length d0], .agg #[.int .i64 f.kind, bs f.name, bs f.op, .slice a f.vals.length c, .slice b f.parts.length d]] w fun e w' => e = .returned (.bool (typB ns ts f)) ∧ Below w.heap.size w w'
set_option maxHeartbeats 8000000 in
set_option maxRecDepth 100000 in
theorem typ_ok (ns : List Nm) (ts : List Bool) (a0 : Option Addr) (c0 : Nat) (b0 : Option Addr) (d0 : Nat) (hR : Rising ns) (hlen0 : ns.length = ts.length) (f : Flt) (ih : ∀ q ∈ f.parts, TypOk ns ts a0 c0 b0 d0 q) : TypOk ns ts a0 c0 b0 d0 f := by
  obtain ⟨k, nm, o, vs, ps⟩ := f
  intro a c b d w hF hS
  simp only [Flt.kind, Flt.name, Flt.op, Flt.vals, Flt.parts] at ih ⊢
  obtain ⟨sn, en, hsn⟩ := bs_bytes nm
  obtain ⟨so, eo, hso⟩ := bs_bytes o
  rw [en, eo]
  have IH := Lib.hid ih
  have HA := Lib.hid hF.atts
  have HP := Lib.hid hF.parts
  simp only [Flt.vals] at HA
  simp only [Flt.parts] at HP
  have HSN := Lib.hid hsn
  have HS := Lib.hid hS
  have hlen : ps.length ≤ 9223372036854775807 := by have := hF.small.2.2.2.2; simp only [Flt.parts] at this; unfold maxLen at this; omega
  have hvl : vs.length ≤ 9223372036854775807 := by have := hF.atts.1; simp only [Flt.vals] at this; unfold maxLen at this; omega
  obtain ⟨n, hn⟩ : ∃ n, n = vs.length := ⟨_, rfl⟩
  obtain ⟨l, hl⟩ : ∃ n, n = ps.length := ⟨_, rfl⟩
  obtain ⟨nn, hnn⟩ : ∃ n, n = ns.length := ⟨_, rfl⟩
  obtain ⟨nt, hnt⟩ : ∃ n, n = ts.length := ⟨_, rfl⟩
  have HN := Lib.hid hn
  have HL := Lib.hid hl
  have HNN := Lib.hid hnn
  have HNT := Lib.hid hnt
  rw [← hn] at hvl
  rw [← hl] at hlen
  obtain ⟨res, hres⟩ : ∃ x, x = typB ns ts (.mk k nm o vs ps) := ⟨_, rfl⟩
  have HR := Lib.hid hres
  obtain ⟨r, hr⟩ : ∃ x, x = isT ns ts nm := ⟨_, rfl⟩
  have HRR := Lib.hid hr
  have CT := Lib.hid (fun W h => isText_any ns ts sn a0 c0 b0 d0 W hR hlen0 h)
  rw [hsn, ← hr] at CT
  rw [← hres, ← hn, ← hl, ← hnn, ← hnt]
  rw [← hnn, ← hnt] at CT
  clear ih hF en eo hsn hso hres hn hl hnn hnt hS hr
  obtain ⟨w1, hw1⟩ : ∃ v, v = (w.alloc (.cells #[.slice a0 nn c0, .slice b0 nt d0] 37)).alloc (.cells #[.int .i64 k, .string sn, .string so, .slice a n c, .slice b l d] 27) := ⟨_, rfl⟩
  have hs1 : (w.alloc (.cells #[.slice a0 nn c0, .slice b0 nt d0] 37)).heap.size = w.heap.size + 1 := by simp
  have X1 := Lib.hid (show Two w1 w.heap.size (.slice a0 nn c0) (.slice b0 nt d0) by rw [hw1]; exact (Two.new ..).later ((Below.refl _ _).alloc (Nat.le_refl _) _))
  have Y1 := Lib.hid (show Box w1 (w.heap.size + 1) (.int .i64 k) (.string sn) (.string so) (.slice a n c) (.slice b l d) by rw [hw1, ← hs1]; exact Box.new ..)
  have HB := Lib.hid (show Below w.heap.size w w1 by rw [hw1]; exact ((Below.refl _ _).alloc (Nat.le_refl _) _).alloc (by rw [hs1]; omega) _)
  have HW := Lib.hid hw1
  clear hw1 hs1
  go_enter Tryz.func26, Tryz.ntmps26
  go_wp2_with fail
  rw [← HW.out]
  go_loopw [12] (fun vi wr => TyV r vs w1 vi wr) (fun vi _ => n - (intOf vi).toNat)
  case atStart => exact ⟨0, Nat.zero_le _, rfl, Lib.hid (by simp), Below.refl _ _⟩
  case round =>
    obtain ⟨j, hk, rfl, hall, hBB⟩ := hrel
    have HK := Lib.hid hk
    have HBB := Lib.hid hBB
    have HBW := Lib.hid (HB.out.trans (hBB.mono HB.out.size))
    have HALL := Lib.hid hall.out
    have X3 := Lib.hid (X1.out.later hBB)
    have Y3 := Lib.hid (Y1.out.later hBB)
    obtain ⟨p0, p1, p2, p3, p4⟩ := Y3.out
    clear hk hBB hall
    by_cases hlt : j < n
    · have hlz : (j : Int) < (n : Int) := by omega
      have hku : j < vs.length := by rw [← HN.out]; exact hlt
      obtain ⟨g, o', hg, hgl, hc⟩ := (HA.out.later HBW.out).2.2 (by omega)
      obtain ⟨e0, e1, e2, e3⟩ := hc j hku
      obtain ⟨U, hU⟩ : ∃ V, V = vs[j] := ⟨_, rfl⟩
      rw [← hU] at e0 e1 e2 e3
      have HUK := Lib.hid (show vs[j]? = some U by rw [hU]; exact List.getElem?_eq_getElem hku)
      obtain ⟨s1, q1, f1⟩ := bs_bytes U.name
      obtain ⟨t1, q2, f2⟩ := bs_bytes U.str
      obtain ⟨tx, htx⟩ : ∃ x, x = U.text := ⟨_, rfl⟩
      obtain ⟨nu, hnu⟩ : ∃ x, x = U.num := ⟨_, rfl⟩
      have HTX := Lib.hid htx
      rw [q1] at e0
      rw [← htx] at e1
      rw [← hnu] at e2
      rw [q2] at e3
      subst hg
      clear hc hU q1 q2 f1 f2 hgl htx hnu
      obtain ⟨w3, hw3⟩ : ∃ v, v = wr.alloc (.cells #[.string s1, .bool tx, .int .i64 nu, .string t1] 46) := ⟨_, rfl⟩
      have HB3 := Lib.hid (show Below wr.heap.size wr w3 by rw [hw3]; exact (Below.refl _ _).alloc (Nat.le_refl _) _)
      have Z3 := Lib.hid (show Blk w3 wr.heap.size (.string s1) (.bool tx) (.int .i64 nu) (.string t1) by rw [hw3]; exact Blk.new ..)
      have HW3 := Lib.hid hw3
      have X4 := Lib.hid (X3.out.later HB3.out)
      have Y4 := Lib.hid (Y3.out.later HB3.out)
      have HBX := Lib.hid (HBW.out.trans (HB3.out.mono HBW.out.size))
      have HBY := Lib.hid (HBB.out.trans (HB3.out.mono HBB.out.size))
      clear hw3
      have HQ := Lib.hid (show ∀ W, Below w3.heap.size w3 W → (fun W => W.cell? ⟨w.heap.size, 0, none⟩ = some (.slice a0 nn c0) ∧ W.cell? ⟨w.heap.size, 1, none⟩ = some (.slice b0 nt d0) ∧ W.cell? ⟨w.heap.size + 1, 1, none⟩ = some (.string sn) ∧ W.cell? ⟨wr.heap.size, 1, none⟩ = some (.bool tx) ∧ Below w3.heap.size w3 W) W from fun W hW => by
        obtain ⟨x0, x1⟩ := X4.out.later hW
        obtain ⟨y0, y1, y2, y3, y4⟩ := Y4.out.later hW
        obtain ⟨z0, z1, z2, z3, -, -⟩ := Z3.out.later hW
        exact ⟨x0, x1, y1, z1, hW⟩)
      by_cases htr : tx = r
      · have HTR := Lib.hid (show U.text = r by rw [← HTX.out]; exact htr)
        subst htr
        go_wp2_with fail
        rw [← HW3.out]
        refine wp_region_held_drew (S := (fun W => W.cell? ⟨w.heap.size, 0, none⟩ = some (.slice a0 nn c0) ∧ W.cell? ⟨w.heap.size, 1, none⟩ = some (.slice b0 nt d0) ∧ W.cell? ⟨w.heap.size + 1, 1, none⟩ = some (.string sn) ∧ W.cell? ⟨wr.heap.size, 1, none⟩ = some (.bool tx) ∧ Below w3.heap.size w3 W)) (by kernel_rfl) (HQ.out _ (Below.refl _ _).drew) (fun hHeld => ?_)
        refine wpAnyH_take (i := 0) (v := ?vA0) rfl (by kernel_rfl) (by kernel_rfl) (by kernel_rfl) (fun _ _ _ h => h) (Or.inl ⟨by rfl, ?yA0⟩) hHeld ?rA0
        case yA0 => (intro W hSw; simp only [List.getElem_toArray, List.getElem_cons_zero]; go_simp; try (with_reducible rfl))
        simp only [List.getElem_toArray, List.getElem_cons_zero, Act.put, List.setIfInBounds_toArray, List.set_cons_zero, List.set_cons_succ]
        refine wpAnyH_take (i := 1) (v := ?vA1) rfl (by kernel_rfl) (by kernel_rfl) (by kernel_rfl) (fun _ _ _ h => h) (Or.inl ⟨by rfl, ?yA1⟩) hHeld ?rA1
        case yA1 => (intro W hSw; simp only [List.getElem_toArray, List.getElem_cons_succ, List.getElem_cons_zero]; go_simp; try (with_reducible rfl))
        simp only [List.getElem_toArray, List.getElem_cons_succ, List.getElem_cons_zero, Act.put, List.setIfInBounds_toArray, List.set_cons_zero, List.set_cons_succ]
        refine wpAnyH_take (i := 2) (v := ?vA2) rfl (by kernel_rfl) (by kernel_rfl) (by kernel_rfl) (fun _ _ _ h => h) (Or.inl ⟨by rfl, ?yA2⟩) hHeld ?rA2
        case yA2 => (intro W hSw; simp only [List.getElem_toArray, List.getElem_cons_succ, List.getElem_cons_zero]; go_simp; try (with_reducible rfl))
        simp only [List.getElem_toArray, List.getElem_cons_succ, List.getElem_cons_zero, Act.put, List.setIfInBounds_toArray, List.set_cons_zero, List.set_cons_succ]
        refine wpAnyH_take (i := 3) (v := ?vA3) rfl (by kernel_rfl) (by kernel_rfl) (by kernel_rfl) (fun _ _ _ h => h) (Or.inl ⟨by rfl, ?yA3⟩) hHeld ?rA3
        case yA3 => (intro W hSw; simp only [List.getElem_toArray, List.getElem_cons_succ, List.getElem_cons_zero]; go_simp; try (with_reducible rfl))
        simp only [List.getElem_toArray, List.getElem_cons_succ, List.getElem_cons_zero, Act.put, List.setIfInBounds_toArray, List.set_cons_zero, List.set_cons_succ]
        refine wpAnyH_take (i := 4) (v := ?vA4) rfl (by kernel_rfl) (by kernel_rfl) (by kernel_rfl) (fun _ _ _ h => h) (Or.inl ⟨by rfl, ?yA4⟩) hHeld ?rA4
        case yA4 => (intro W hSw; simp only [List.getElem_toArray, List.getElem_cons_succ, List.getElem_cons_zero]; go_simp; try (with_reducible rfl))
        simp only [List.getElem_toArray, List.getElem_cons_succ, List.getElem_cons_zero, Act.put, List.setIfInBounds_toArray, List.set_cons_zero, List.set_cons_succ]
        refine wpAnyH_ready (rs := [5]) (by kernel_rfl) (by simp) (AllReadyH.cons rfl (fun K hK => ?_) AllReadyH.nil)
        simp only [List.getElem_toArray, List.getElem_cons_succ, List.getElem_cons_zero]
        go_simp
        go_at_call 34; refine (CT.out _ ((HS.out.fit HBX.out).fit hHeld.2.2.2.2)).mono ?_; rintro e wq ⟨rfl, hb1⟩
        try go_wp2_with fail
        refine hK.out _ _ (HQ.out _ (hHeld.2.2.2.2.trans (hb1.mono hHeld.2.2.2.2.size))) (fun hHeld1 => ?_)
        clear hK K hHeld
        have hHeld := hHeld1; clear hHeld1
        try simp only [List.getElem_toArray, List.getElem_cons_succ, List.getElem_cons_zero, Act.put, List.setIfInBounds_toArray, List.set_cons_zero, List.set_cons_succ]
        refine wpAnyH_take (i := 6) (v := ?vA6) rfl (by kernel_rfl) (by kernel_rfl) (by kernel_rfl) (fun _ _ _ h => h) (Or.inl ⟨by rfl, ?yA6⟩) hHeld ?rA6
        case yA6 => (intro W hSw; simp only [List.getElem_toArray, List.getElem_cons_succ, List.getElem_cons_zero]; go_simp; try (with_reducible rfl))
        simp only [List.getElem_toArray, List.getElem_cons_succ, List.getElem_cons_zero, Act.put, List.setIfInBounds_toArray, List.set_cons_zero, List.set_cons_succ]
        refine wpAnyH_done (by kernel_rfl) ?_ _
        have B7 := Lib.hid (HBY.out.trans (hHeld.2.2.2.2.mono HBY.out.size))
        clear hHeld
        go_wp2_with fail
        go_roundw
        case rel => exact ⟨j + 1, by have := HN.out; omega, by go_num, Lib.hid (take_all HALL.out HUK.out HTR.out), B7.out⟩
        case measure => simp [intOf]; omega
      · have HF := Lib.hid (show res = false by rw [HR.out]; exact typ_val (List.mem_of_getElem? HUK.out) (by rw [← HTX.out, ← HRR.out]; exact htr))
        have hq : (tx == r) = false := by simpa using htr
        go_wp2_with fail
        rw [← HW3.out]
        refine wp_region_held_drew (S := (fun W => W.cell? ⟨w.heap.size, 0, none⟩ = some (.slice a0 nn c0) ∧ W.cell? ⟨w.heap.size, 1, none⟩ = some (.slice b0 nt d0) ∧ W.cell? ⟨w.heap.size + 1, 1, none⟩ = some (.string sn) ∧ W.cell? ⟨wr.heap.size, 1, none⟩ = some (.bool tx) ∧ Below w3.heap.size w3 W)) (by kernel_rfl) (HQ.out _ (Below.refl _ _).drew) (fun hHeld => ?_)
        refine wpAnyH_take (i := 0) (v := ?vB0) rfl (by kernel_rfl) (by kernel_rfl) (by kernel_rfl) (fun _ _ _ h => h) (Or.inl ⟨by rfl, ?yB0⟩) hHeld ?rB0
        case yB0 => (intro W hSw; simp only [List.getElem_toArray, List.getElem_cons_zero]; go_simp; try (with_reducible rfl))
        simp only [List.getElem_toArray, List.getElem_cons_zero, Act.put, List.setIfInBounds_toArray, List.set_cons_zero, List.set_cons_succ]
        refine wpAnyH_take (i := 1) (v := ?vB1) rfl (by kernel_rfl) (by kernel_rfl) (by kernel_rfl) (fun _ _ _ h => h) (Or.inl ⟨by rfl, ?yB1⟩) hHeld ?rB1
        case yB1 => (intro W hSw; simp only [List.getElem_toArray, List.getElem_cons_succ, List.getElem_cons_zero]; go_simp; try (with_reducible rfl))
        simp only [List.getElem_toArray, List.getElem_cons_succ, List.getElem_cons_zero, Act.put, List.setIfInBounds_toArray, List.set_cons_zero, List.set_cons_succ]
        refine wpAnyH_take (i := 2) (v := ?vB2) rfl (by kernel_rfl) (by kernel_rfl) (by kernel_rfl) (fun _ _ _ h => h) (Or.inl ⟨by rfl, ?yB2⟩) hHeld ?rB2
        case yB2 => (intro W hSw; simp only [List.getElem_toArray, List.getElem_cons_succ, List.getElem_cons_zero]; go_simp; try (with_reducible rfl))
        simp only [List.getElem_toArray, List.getElem_cons_succ, List.getElem_cons_zero, Act.put, List.setIfInBounds_toArray, List.set_cons_zero, List.set_cons_succ]
        refine wpAnyH_take (i := 3) (v := ?vB3) rfl (by kernel_rfl) (by kernel_rfl) (by kernel_rfl) (fun _ _ _ h => h) (Or.inl ⟨by rfl, ?yB3⟩) hHeld ?rB3
        case yB3 => (intro W hSw; simp only [List.getElem_toArray, List.getElem_cons_succ, List.getElem_cons_zero]; go_simp; try (with_reducible rfl))
        simp only [List.getElem_toArray, List.getElem_cons_succ, List.getElem_cons_zero, Act.put, List.setIfInBounds_toArray, List.set_cons_zero, List.set_cons_succ]
        refine wpAnyH_take (i := 4) (v := ?vB4) rfl (by kernel_rfl) (by kernel_rfl) (by kernel_rfl) (fun _ _ _ h => h) (Or.inl ⟨by rfl, ?yB4⟩) hHeld ?rB4
        case yB4 => (intro W hSw; simp only [List.getElem_toArray, List.getElem_cons_succ, List.getElem_cons_zero]; go_simp; try (with_reducible rfl))
        simp only [List.getElem_toArray, List.getElem_cons_succ, List.getElem_cons_zero, Act.put, List.setIfInBounds_toArray, List.set_cons_zero, List.set_cons_succ]
        refine wpAnyH_ready (rs := [5]) (by kernel_rfl) (by simp) (AllReadyH.cons rfl (fun K hK => ?_) AllReadyH.nil)
        simp only [List.getElem_toArray, List.getElem_cons_succ, List.getElem_cons_zero]
        go_simp
        go_at_call 34; refine (CT.out _ ((HS.out.fit HBX.out).fit hHeld.2.2.2.2)).mono ?_; rintro e wq ⟨rfl, hb1⟩
        try go_wp2_with fail
        refine hK.out _ _ (HQ.out _ (hHeld.2.2.2.2.trans (hb1.mono hHeld.2.2.2.2.size))) (fun hHeld1 => ?_)
        clear hK K hHeld
        have hHeld := hHeld1; clear hHeld1
        try simp only [List.getElem_toArray, List.getElem_cons_succ, List.getElem_cons_zero, Act.put, List.setIfInBounds_toArray, List.set_cons_zero, List.set_cons_succ]
        refine wpAnyH_take (i := 6) (v := ?vB6) rfl (by kernel_rfl) (by kernel_rfl) (by kernel_rfl) (fun _ _ _ h => h) (Or.inl ⟨by rfl, ?yB6⟩) hHeld ?rB6
        case yB6 => (intro W hSw; simp only [List.getElem_toArray, List.getElem_cons_succ, List.getElem_cons_zero]; go_simp; try (with_reducible rfl))
        simp only [List.getElem_toArray, List.getElem_cons_succ, List.getElem_cons_zero, Act.put, List.setIfInBounds_toArray, List.set_cons_zero, List.set_cons_succ]
        refine wpAnyH_done (by kernel_rfl) ?_ _
        have B7 := Lib.hid (HBY.out.trans (hHeld.2.2.2.2.mono HBY.out.size))
        clear hHeld
        go_wp2_with fail
        go_ret
        exact ⟨by rw [HF.out]; rfl, HB.out.trans (B7.out.mono HB.out.size)⟩
    · have hlz : ¬ (j : Int) < (n : Int) := by omega
      have HVA := Lib.hid (show ∀ v ∈ vs, v.text = isT ns ts nm by
        have h := HALL.out
        rw [show j = vs.length by have := HN.out; have := HK.out; omega, List.take_length] at h
        rw [← HRR.out]; exact h)
      obtain ⟨wb, hwb⟩ : ∃ v, v = wr := ⟨_, rfl⟩
      rw [← hwb] at HBB HBW p0 p1 p2 p3 p4 ⊢
      clear hwb HK
      go_wp2_with fail
      go_loopw [27] (fun vi wr => TyP ns ts ps w1 vi wr) (fun vi _ => l - (intOf vi).toNat)
      case atStart => exact ⟨0, Nat.zero_le _, rfl, Lib.hid (by simp), HBB.out⟩
      case round =>
        obtain ⟨j, hk, rfl, hall, hBB⟩ := hrel
        have HK := Lib.hid hk
        have HBC := Lib.hid hBB
        have HBW := Lib.hid (HB.out.trans (hBB.mono HB.out.size))
        have HALL := Lib.hid hall.out
        have X3 := Lib.hid (X1.out.later hBB)
        have Y3 := Lib.hid (Y1.out.later hBB)
        clear hk hBB hall hlt hlz p0 p1 p2 p3 p4
        obtain ⟨p0, p1, p2, p3, p4⟩ := Y3.out
        by_cases hlt : j < l
        · have hlz : (j : Int) < (l : Int) := by omega
          have hku : j < ps.length := by rw [← HL.out]; exact hlt
          obtain ⟨g, o', a1, c1, b1, d1, hg, hgl, h5, hf⟩ := (HP.out.later HBW.out).get j hku
          obtain ⟨U, hU⟩ : ∃ V, V = ps[j] := ⟨_, rfl⟩
          rw [← hU] at h5 hf
          have HUK := Lib.hid (show ps[j]? = some U by rw [hU]; exact List.getElem?_eq_getElem hku)
          have CI := Lib.hid (fun W h1 h2 => IH.out U (List.mem_of_getElem? HUK.out) a1 c1 b1 d1 W h1 h2)
          have HFU := Lib.hid hf
          have HGL := Lib.hid (show g < wr.heap.size from Nat.lt_of_lt_of_le hgl HBW.out.size)
          have hgw : g < wr.heap.size := HGL.out
          have hbw : w.heap.size + 1 < wr.heap.size := Y3.out.lt
          have hbw0 : w.heap.size < wr.heap.size := X3.out.lt
          subst hg
          obtain ⟨e0, e1, e2, e3, e4⟩ := h5
          rw [Nat.zero_add] at e0 e1 e2 e3 e4
          obtain ⟨un, hun, _⟩ := bs_bytes U.name
          obtain ⟨uo, huo, _⟩ := bs_bytes U.op
          rw [hun] at e1 CI
          rw [huo] at e2 CI
          obtain ⟨uk, huk⟩ : ∃ x, x = U.kind := ⟨_, rfl⟩
          obtain ⟨uv, huv⟩ : ∃ x, x = U.vals.length := ⟨_, rfl⟩
          obtain ⟨up, hup⟩ : ∃ x, x = U.parts.length := ⟨_, rfl⟩
          rw [← huk] at e0 CI
          rw [← huv] at e3 CI
          rw [← hup, ← HNN.out, ← HNT.out] at CI
          rw [← hup] at e4
          clear hU hf hgl hun huo huk huv hup
          obtain ⟨w4, hw4⟩ : ∃ v, v = wr.alloc (.cells #[.int .i64 uk, .string un, .string uo, .slice a1 uv c1, .slice b1 up d1] 27) := ⟨_, rfl⟩
          have HB4 := Lib.hid (show Below wr.heap.size wr w4 by rw [hw4]; exact (Below.refl _ _).alloc (Nat.le_refl _) _)
          have HW4 := Lib.hid hw4
          have HFU4 := Lib.hid ((HFU.out.later (HB4.out.mono HBW.out.size)).wide (Nat.le_trans HBW.out.size HB4.out.size))
          have HS4 := Lib.hid ((HS.out.fit HBW.out).fit HB4.out)
          obtain ⟨r0, r1⟩ := X3.out
          obtain ⟨x, hx⟩ : ∃ x, x = typB ns ts U := ⟨_, rfl⟩
          have HX := Lib.hid hx
          rw [← hx] at CI
          clear hw4 hx
          cases x with
          | true =>
            go_wp2_with fail
            rw [← HW4.out]
            refine Calls.mono (CI.out _ HFU4.out HS4.out) ?_
            rintro e w5 ⟨rfl, hb⟩
            have HB5 := Lib.hid (HBC.out.trans ((HB4.out.trans (hb.mono HB4.out.size)).mono HBC.out.size))
            clear hb
            go_wp2_with fail
            go_roundw
            case rel => exact ⟨j + 1, by have := HL.out; omega, by go_num, Lib.hid (take_all HALL.out HUK.out HX.out.symm), HB5.out⟩
            case measure => simp [intOf]; omega
          | false =>
            have HF := Lib.hid (show res = false by rw [HR.out]; exact typ_sub (List.mem_of_getElem? HUK.out) HX.out.symm)
            go_wp2_with fail
            rw [← HW4.out]
            refine Calls.mono (CI.out _ HFU4.out HS4.out) ?_
            rintro e w5 ⟨rfl, hb⟩
            have HB5 := Lib.hid (HBC.out.trans ((HB4.out.trans (hb.mono HB4.out.size)).mono HBC.out.size))
            clear hb
            go_wp2_with fail
            go_ret
            exact ⟨by rw [HF.out]; rfl, HB.out.trans (HB5.out.mono HB.out.size)⟩
        · have hlz : ¬ (j : Int) < (l : Int) := by omega
          have HF := Lib.hid (show res = true by
            rw [HR.out]
            refine typ_all HVA.out ?_
            have h := HALL.out
            rw [show j = ps.length by have := HL.out; have := HK.out; omega, List.take_length] at h
            exact h)
          go_wp2_with fail
          go_ret
          exact ⟨by rw [HF.out]; rfl, HBW.out⟩
theorem typ_every (ns : List Nm) (ts : List Bool) (a0 : Option Addr) (c0 : Nat) (b0 : Option Addr) (d0 : Nat) (hR : Rising ns) (hlen0 : ns.length = ts.length) : ∀ (N : Nat) (f : Flt), sz f ≤ N → TypOk ns ts a0 c0 b0 d0 f
  | 0, f, h => by have := sz_pos f; omega
  | N + 1, f, h => typ_ok ns ts a0 c0 b0 d0 hR hlen0 f fun q hq => typ_every ns ts a0 c0 b0 d0 hR hlen0 N q (by
      cases f
      simp only [Flt.parts] at hq
      have := sz_mem hq
      rw [sz] at h
      omega)
end Go.Proofs.YtmfkpoojfpepaaaGreatDoor.Ck
