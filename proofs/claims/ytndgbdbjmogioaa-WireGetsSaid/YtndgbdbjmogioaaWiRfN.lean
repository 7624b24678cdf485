/-
  A reader of the document's answer for layer 10; contracts of its number, few and signed. All else is left as it was.
-/
import Derived.Test.YtndgbdbjmogioaaWiRow
namespace Go.Proofs.Ytndgbdbjmogioaa.Wi
open Go.RowKit Go.Proofs.Ytndgbdbjmogioaa.Fl
set_option linter.unusedVariables false
set_option linter.unusedSimpArgs false

/-- The document's reader in block p: its bytes L, how far they were read, an error's number. -/
def RfW (W : World) (p z : Nat) (L : List UInt8) (s : St) : Prop :=
  ∃ (a : Option Addr) (c k : Nat), Bq W p 71 #[.slice a L.length c, .int .i64 (k : Nat), .int .i64 (s.1 : Nat)] ∧ L.length ≤ c ∧ BytesAt W (Old z) a L ∧ z ≤ p ∧ k ≤ L.length ∧ (s.1 = 0 → s.2 = L.drop k)
theorem RfW.lt {W : World} {p z : Nat} {L : List UInt8} {s : St} (h : RfW W p z L s) : p < W.heap.size := by
  obtain ⟨a, c, k, h1, _⟩ := h
  exact h1.lt
theorem RfW.zp {W : World} {p z : Nat} {L : List UInt8} {s : St} (h : RfW W p z L s) : z ≤ p := by
  obtain ⟨a, c, k, _, _, _, h4, _⟩ := h
  exact h4
theorem RfW.keep {W V : World} {p z : Nat} {L : List UInt8} {s : St} (h : RfW W p z L s) (hp : V.heap[p]? = W.heap[p]?) (hz : ∀ g, g < z → V.heap[g]? = W.heap[g]?) : RfW V p z L s := by
  obtain ⟨a, c, k, h1, h2, h3, h4, h5⟩ := h
  exact ⟨a, c, k, hp.trans h1, h2, h3.far fun g hg => ⟨hg, hz g hg⟩, h4, h5⟩
theorem RfW.alloc {W : World} {p z : Nat} {L : List UInt8} {s : St} (h : RfW W p z L s) (o : Obj) : RfW (W.alloc o) p z L s := by
  have hl := h.lt
  have hz := h.zp
  exact h.keep (Below.heap_alloc _ _ _ hl) fun g hg => Below.heap_alloc _ _ _ (by omega)
theorem RfW.later {W V : World} {p z : Nat} {L : List UInt8} {s : St} (h : RfW W p z L s) (hb : Below W.heap.size W V) : RfW V p z L s := h.keep (hb.block p h.lt) fun g hg => hb.block g (by have := h.lt; have := h.zp; omega)
theorem RfW.set {W : World} {p z q : Nat} {L : List UInt8} {s : St} (h : RfW W p z L s) (hq : q ≠ p) (hz : z ≤ q) (j : Nat) (v : Value) : RfW (W.setCell ⟨q, j, none⟩ v) p z L s :=
  h.keep (Below.heap_setCell _ _ _ _ (fun e => hq e.symm)) fun g hg => Below.heap_setCell _ _ _ _ (show g ≠ q by omega)
theorem RfW.row {W : World} {p z q : Nat} {L : List UInt8} {s : St} (h : RfW W p z L s) (hq : q ≠ p) (hz : z ≤ q) (cs : Array Value) : RfW (W.setRow q cs) p z L s :=
  h.keep (setRow_other W q p cs (fun e => hq e.symm)) fun g hg => setRow_other W q g cs (by omega)
/-- What a call tells that reads so. -/
def RfE (p z : Nat) (L : List UInt8) (v : Value) (s : St) (w w' : World) (e : Ending) : Prop := e = .returned v ∧ RfW w' p z L s ∧ w.grownBy w' (some p)
theorem st_more {most i u : Nat} {x : UInt8} {r : List UInt8} (h9 : ¬ (i = 9 ∧ 1 < x.toNat)) (hx : 127 < x.toNat) : rdN most i u (x :: r) = rdN most (i + 1) (u + 128 ^ i * (x.toNat % 128)) r := by
  rw [rdN, if_neg h9, if_pos hx]
theorem st_bad9 {most i u : Nat} {x : UInt8} {r : List UInt8} (h9 : i = 9 ∧ 1 < x.toNat) : rdN most i u (x :: r) = .bad 7 := by
  rw [rdN, if_pos h9]
theorem st_bad {most i u : Nat} {x : UInt8} {r : List UInt8} (h9 : ¬ (i = 9 ∧ 1 < x.toNat)) (hx : ¬ 127 < x.toNat) (h : x.toNat = 0 ∧ 0 < i ∨ most < u + 128 ^ i * (x.toNat % 128)) : rdN most i u (x :: r) = .bad 7 := by
  rw [rdN, if_neg h9, if_neg hx, if_pos h]
theorem st_got {most i u : Nat} {x : UInt8} {r : List UInt8} (h9 : ¬ (i = 9 ∧ 1 < x.toNat)) (hx : ¬ 127 < x.toNat) (h : ¬ (x.toNat = 0 ∧ 0 < i ∨ most < u + 128 ^ i * (x.toNat % 128))) : rdN most i u (x :: r) = .got (u + 128 ^ i * (x.toNat % 128)) r := by
  rw [rdN, if_neg h9, if_neg hx, if_neg h]
theorem st_fits {i u x : Nat} (hi : i ≤ 9) (hu : u < 128 ^ i) (h9 : ¬ (i = 9 ∧ 1 < x)) (hx : x < 256) : 128 ^ i * (x % 128) < 18446744073709551616 ∧ u + 128 ^ i * (x % 128) < 18446744073709551616 ∧ (127 < x → i + 1 ≤ 9 ∧ u + 128 ^ i * (x % 128) < 128 ^ (i + 1) ∧ 128 ^ i * 128 < 18446744073709551616) := by
  rw [Nat.pow_succ]
  rcases pow_cases hi with ⟨rfl, e⟩ | ⟨rfl, e⟩ | ⟨rfl, e⟩ | ⟨rfl, e⟩ | ⟨rfl, e⟩ | ⟨rfl, e⟩ | ⟨rfl, e⟩ | ⟨rfl, e⟩ | ⟨rfl, e⟩ | ⟨rfl, e⟩ <;> rw [e] at hu ⊢ <;> omega
/-- So far this was read. -/
def RfR (p z : Nat) (L l0 : List UInt8) (most : Nat) (w : World) (v5 v6 v7 : Value) (wr : World) : Prop :=
  ∃ (i u k : Nat) (a : Option Addr) (c : Nat), v5 = .int .u64 (u : Nat) ∧ v6 = .int .u64 ((128 ^ i : Nat) : Int) ∧ v7 = .int .i64 (i : Nat) ∧ i ≤ 9 ∧ Hid (u < 128 ^ i ∧ rdN most 0 0 l0 = rdN most i u (L.drop k)) ∧ k ≤ L.length ∧
    Bq wr p 71 #[.slice a L.length c, .int .i64 (k : Nat), .int .i64 0] ∧ L.length ≤ c ∧ BytesAt wr (Old z) a L ∧ w.grownBy wr (some p)
theorem gr_as {w X Y : World} {r : Option Nat} (h : w.grownBy X r) (e1 : Y.os = X.os) (e2 : Y.tape = X.tape) (e3 : Y.output = X.output) (e4 : Y.heap = X.heap) : w.grownBy Y r :=
  ⟨e1.trans h.os, e2.trans h.tape, e3.trans h.output, by rw [e4]; exact h.size, fun k hk hne => by rw [e4]; exact h.block k hk hne⟩
theorem RfW.as {X Y : World} {p z : Nat} {L : List UInt8} {s : St} (h : RfW X p z L s) (e : Y.heap = X.heap) : RfW Y p z L s := h.keep (by rw [e]) fun g _ => by rw [e]
/-- One byte further, with an error or without one. -/
theorem rf_next {W : World} {p z k c : Nat} {a : Option Addr} {L : List UInt8} {e : Int} (h : Bq W p 71 #[.slice a L.length c, .int .i64 (k : Nat), .int .i64 e]) (hc : L.length ≤ c) (hb : BytesAt W (Old z) a L) (hz : z ≤ p) (hk : k < L.length) (he : e = 0) :
    RfW (W.setCell ⟨p, 1, none⟩ (.int .i64 ((k : Int) + 1))) p z L (0, L.drop (k + 1)) := by
  subst he
  exact ⟨a, c, k + 1, h.set 1 _, hc, hb.far fun g hg => ⟨hg, Below.heap_setCell _ _ _ _ (by have : g < z := hg; show g ≠ p; omega)⟩, hz, hk, fun _ => rfl⟩
theorem rf_bad {W : World} {p z k c n : Nat} {a : Option Addr} {L l : List UInt8} {e : Int} (h : Bq W p 71 #[.slice a L.length c, .int .i64 (k : Nat), .int .i64 e]) (hc : L.length ≤ c) (hb : BytesAt W (Old z) a L) (hz : z ≤ p) (hk : k ≤ L.length) (hn : n ≠ 0) :
    RfW (W.setCell ⟨p, 2, none⟩ (.int .i64 (n : Nat))) p z L (n, l) :=
  ⟨a, c, k, h.set 2 _, hc, hb.far fun g hg => ⟨hg, Below.heap_setCell _ _ _ _ (by have : g < z := hg; show g ≠ p; omega)⟩, hz, hk, fun h0 => absurd h0 hn⟩
theorem rf_bad2 {W : World} {p z k c n : Nat} {a : Option Addr} {L l : List UInt8} {e : Int} (h : Bq W p 71 #[.slice a L.length c, .int .i64 (k : Nat), .int .i64 e]) (hc : L.length ≤ c) (hb : BytesAt W (Old z) a L) (hz : z ≤ p) (hk : k < L.length) (hn : n ≠ 0) :
    RfW ((W.setCell ⟨p, 1, none⟩ (.int .i64 ((k : Int) + 1))).setCell ⟨p, 2, none⟩ (.int .i64 (n : Nat))) p z L (n, l) :=
  rf_bad (k := k + 1) (h.set 1 (.int .i64 ((k + 1 : Nat) : Int))) hc (hb.far fun g hg => ⟨hg, Below.heap_setCell _ _ _ _ (by have : g < z := hg; show g ≠ p; omega)⟩) hz hk hn
theorem wrapM {x : Int} {n : Nat} (h : x = (n : Int)) : IntKind.u64.wrap x = ((n % 18446744073709551616 : Nat) : Int) := by
  rw [h, IntKind.wrap_u64]; omega
set_option maxHeartbeats 8000000
set_option maxRecDepth 100000
theorem number_rf (p z most : Nat) (hmost : most ≤ mx) (L : List UInt8) (s : St) (w : World) (hR : RfW w p z L s) :
    Calls Try.prog 33 #[.pointer (some ⟨p, 0, none⟩), .int .u64 (most : Nat)] w fun e w' => RfE p z L (.int .u64 ((numS most s).1 : Nat)) (numS most s).2 w w' e := by
  obtain ⟨e, l⟩ := s
  have HR := Lib.hid hR
  obtain ⟨a, c, k, h1, h2, h3, h4, h5, h6⟩ := hR
  simp only at h1 h6
  obtain ⟨c0, c1, c2⟩ := h1.c3
  have hf := h1.fr
  have H1 := Lib.hid h1
  have H3 := Lib.hid h3
  have HM := Lib.hid hmost
  have HLT := Lib.hid h1.lt
  have H2 := Lib.hid h2
  have H4 := Lib.hid h4
  have H5 := Lib.hid h5
  clear h1 h2 h3 hmost h5
  by_cases he : e = 0
  · subst he
    obtain rfl := h6 rfl
    obtain ⟨n, hn⟩ : ∃ n, n = L.length := ⟨_, rfl⟩
    have hm : n ≤ 9223372036854775807 := by have := H3.out.1; unfold maxLen at this; omega
    have HN := Lib.hid hn
    obtain ⟨res, hres⟩ : ∃ r, r = numS most (0, L.drop k) := ⟨_, rfl⟩
    have HRES := Lib.hid hres
    rw [← hres]
    have HNUM := Lib.hid (show res = match rdN most 0 0 (L.drop k) with | .bad n => (0, (n, L.drop k)) | .got v r => (v, (0, r)) by rw [hres]; rfl)
    clear hn hres h4 h6
    go_enter Try.func33, Try.ntmps33
    go_wp2_with fail
    go_loopw [5, 6, 7] (fun v5 v6 v7 wr => RfR p z L (L.drop k) most w v5 v6 v7 wr) (fun _ _ v7 _ => 20 - (intOf v7).toNat)
    case atStart => exact ⟨0, 0, k, a, c, rfl, rfl, rfl, by omega, Lib.hid ⟨by simp, rfl⟩, H5.out, H1.out, H2.out, H3.out, gr_refl _ _⟩
    case round =>
      obtain ⟨i, u, k', a', c', rfl, rfl, rfl, hi9, hrd, hk', hB, hc', hBy, hG⟩ := hrel
      clear c0 c1 c2 hf
      obtain ⟨c0, c1, c2⟩ := hB.c3
      have hf := hB.fr
      have BB := Lib.hid hB
      have BY := Lib.hid hBy
      have GG := Lib.hid hG
      have HC' := Lib.hid hc'
      have HK' := Lib.hid hk'
      rw [← HN.out] at c0 hk'
      obtain ⟨pw, hpw⟩ : ∃ pw, pw = 128 ^ i := ⟨_, rfl⟩
      have HPW := Lib.hid hpw
      rw [← hpw]
      clear hB hBy hG hc' hpw
      by_cases hlt : k' = n
      · subst hlt
        have HRS := Lib.hid (show res = (0, (6, L.drop k)) by rw [HNUM.out, hrd.out.2, HN.out, List.drop_length]; rfl)
        go_wp2_with fail
        go_region
        all_goals
          go_wp2_with fail
          go_ret
          rw [HRS.out]
          exact ⟨rfl, (rf_bad (n := 6) BB.out HC'.out BY.out H4.out HK'.out (by decide)).as rfl, gr_as (gr_set GG.out 2 (.int .i64 ((6 : Nat) : Int))) rfl rfl rfl rfl⟩
      · have hne : ((k' : Int) == (n : Int)) = false := by rw [beq_eq_false_iff_ne]; omega
        have hkl : (k' : Int) < (n : Int) := by omega
        have hkL : k' < L.length := by rw [← HN.out]; omega
        obtain ⟨g, o, hg, hgz, hcc⟩ := BY.out.2 (by omega)
        have d0 := hcc k' hkL
        have HD := Lib.hid (show L.drop k' = L[k']'hkL :: L.drop (k' + 1) from (List.getElem_cons_drop hkL).symm)
        have HKL := Lib.hid hkL
        obtain ⟨x, hx⟩ : ∃ x, x = L[k']'hkL := ⟨_, rfl⟩
        rw [← hx] at d0 HD
        obtain ⟨y, hy⟩ : ∃ y : Nat, y = x.toNat := ⟨_, rfl⟩
        have hy256 : y < 256 := by rw [hy]; exact x.toNat_lt
        have HY := Lib.hid hy
        rw [← hy] at d0
        obtain ⟨v1, hv1⟩ : ∃ v, v = 128 ^ i * (y % 128) := ⟨_, rfl⟩
        obtain ⟨v2, hv2⟩ : ∃ v, v = u + v1 := ⟨_, rfl⟩
        obtain ⟨p2, hp2⟩ : ∃ v, v = (128 ^ i * 128) % 18446744073709551616 := ⟨_, rfl⟩
        have HV1 := Lib.hid hv1
        have HV2 := Lib.hid hv2
        have HP2 := Lib.hid hp2
        have HWP := Lib.hid (show IntKind.u64.wrap ((pw : Int) * 128) = (p2 : Int) by rw [hp2, HPW.out]; exact wrapM (by simp))
        subst hg
        clear hcc hx hy hv1 hv2 hp2 hgz hkL hlt
        by_cases hA : i = 9 ∧ 1 < y
        · have HRS := Lib.hid (show res = (0, (7, L.drop k)) by rw [HNUM.out, hrd.out.2, HD.out, st_bad9 (by rw [← HY.out]; exact hA)])
          obtain ⟨hi99, hy1⟩ := hA
          have hi9z : ((i : Int) == 9) = true := by rw [beq_iff_eq]; omega
          have hy1z : (1 : Int) < (y : Int) := by omega
          clear hy1 hi99
          go_wp2_with fail
          go_region
          all_goals
            go_wp2_with fail
            go_region
            all_goals
              go_wp2_with fail
              go_ret
              rw [HRS.out]
              exact ⟨rfl, (rf_bad2 (n := 7) BB.out HC'.out BY.out H4.out HKL.out (by decide)).as rfl, gr_as (gr_set (gr_set GG.out 1 (.int .i64 ((k' : Int) + 1))) 2 (.int .i64 ((7 : Nat) : Int))) rfl rfl rfl rfl⟩
        · have HFIT := Lib.hid (st_fits hi9 hrd.out.1 hA hy256)
          have h9x : ¬ (i = 9 ∧ 1 < x.toNat) := by rw [← HY.out]; exact hA
          have H9X := Lib.hid h9x
          have HMUL := Lib.hid (show IntKind.u64.wrap ((pw : Int) * ((y : Int) % 128)) = (v1 : Int) from wrapU (by rw [HV1.out, HPW.out]; simp) (by rw [HV1.out]; exact HFIT.out.1))
          have HADD := Lib.hid (show IntKind.u64.wrap ((u : Int) + (v1 : Int)) = (v2 : Int) from wrapU (by rw [HV2.out]; simp) (by rw [HV2.out, HV1.out]; exact HFIT.out.2.1))
          obtain ⟨t9, ht9⟩ : ∃ b : Bool, ((i : Int) == 9) = b := ⟨_, rfl⟩
          have hy1 : t9 = true → ¬ (1 : Int) < (y : Int) := by
            intro h
            rw [h, beq_iff_eq] at ht9
            omega
          clear h9x
          by_cases h127 : 127 < y
          · have hz127 : (127 : Int) < (y : Int) := by omega
            have HI1 := Lib.hid (HFIT.out.2.2 h127).1
            have HRD2 := Lib.hid (show Hid (v2 < 128 ^ (i + 1) ∧ rdN most 0 0 (L.drop k) = rdN most (i + 1) v2 (L.drop (k' + 1))) from Lib.hid ⟨by rw [HV2.out, HV1.out]; exact (HFIT.out.2.2 h127).2.1, by rw [hrd.out.2, HD.out, st_more H9X.out (by rw [← HY.out]; exact h127), HV2.out, HV1.out, HY.out]⟩)
            have HP3 := Lib.hid (show (p2 : Int) = ((128 ^ (i + 1) : Nat) : Int) by rw [HP2.out, Nat.mod_eq_of_lt (HFIT.out.2.2 h127).2.2, Nat.pow_succ])
            cases t9
            · clear hy1 hA h127
              have hmul := HMUL.out
              have hadd := HADD.out
              have hwp := HWP.out
              go_wp2_with fail
              go_region
              all_goals
                go_wp2_with fail
                go_region
                all_goals
                  go_wp2_with fail
                  go_roundw
                  case rel => exact ⟨i + 1, v2, k' + 1, some ⟨g, o, none⟩, c', rfl, congrArg (Value.int .u64) HP3.out, by go_num, HI1.out, HRD2.out, HKL.out, (BB.out.set 1 (.int .i64 ((k' : Int) + 1))), HC'.out, BY.out.far fun g' hg' => ⟨hg', Below.heap_setCell wr ⟨p, 1, none⟩ (.int .i64 ((k' : Int) + 1)) _ (by have : g' < z := hg'; have := H4.out; show g' ≠ p; omega)⟩, gr_as (gr_set GG.out 1 (.int .i64 ((k' : Int) + 1))) rfl rfl rfl rfl⟩
                  case measure => have := HI1.out; simp [intOf]; omega
            · exact absurd hz127 (by have := hy1 rfl; omega)
          · have hz127 : ¬ (127 : Int) < (y : Int) := by omega
            have HX127 := Lib.hid (show ¬ 127 < x.toNat by rw [← HY.out]; exact h127)
            by_cases hbad : y = 0 ∧ 0 < i ∨ most < v2
            · have HRS := Lib.hid (show res = (0, (7, L.drop k)) by rw [HNUM.out, hrd.out.2, HD.out, st_bad H9X.out HX127.out (by rw [← HY.out, ← HV1.out, ← HV2.out]; exact hbad)])
              by_cases hy0 : y = 0 ∧ 0 < i
              · obtain ⟨rfl, hi0⟩ := hy0
                have hiz : (0 : Int) < (i : Int) := by omega
                clear hbad hA h127
                cases t9
                · clear hy1
                  have hmul := HMUL.out
                  have hadd := HADD.out
                  have hwp := HWP.out
                  go_wp2_with fail
                  go_region
                  all_goals
                    go_wp2_with fail
                    go_region
                    all_goals
                      go_wp2_with fail
                      go_ret
                      rw [HRS.out]
                      exact ⟨rfl, (rf_bad2 (n := 7) BB.out HC'.out BY.out H4.out HKL.out (by decide)).as rfl, gr_as (gr_set (gr_set GG.out 1 (.int .i64 ((k' : Int) + 1))) 2 (.int .i64 ((7 : Nat) : Int))) rfl rfl rfl rfl⟩
                · have hy2 := hy1 rfl
                  clear hy1
                  have hmul := HMUL.out
                  have hadd := HADD.out
                  have hwp := HWP.out
                  go_wp2_with fail
                  go_region
                  all_goals
                    go_wp2_with fail
                    go_region
                    all_goals
                      go_wp2_with fail
                      go_ret
                      rw [HRS.out]
                      exact ⟨rfl, (rf_bad2 (n := 7) BB.out HC'.out BY.out H4.out HKL.out (by decide)).as rfl, gr_as (gr_set (gr_set GG.out 1 (.int .i64 ((k' : Int) + 1))) 2 (.int .i64 ((7 : Nat) : Int))) rfl rfl rfl rfl⟩
              · have hmz : (most : Int) < (v2 : Int) := by omega
                obtain ⟨ty, hty⟩ : ∃ b : Bool, ((y : Int) == 0) = b := ⟨_, rfl⟩
                have hi0 : ty = true → ¬ (0 : Int) < (i : Int) := by
                  intro h
                  rw [h, beq_iff_eq] at hty
                  omega
                clear hbad hA h127 hy0
                cases t9
                · clear hy1
                  cases ty
                  · clear hi0
                    have hmul := HMUL.out
                    have hadd := HADD.out
                    have hwp := HWP.out
                    go_wp2_with fail
                    go_region
                    all_goals
                      go_wp2_with fail
                      go_region
                      all_goals
                        go_wp2_with fail
                        go_ret
                        rw [HRS.out]
                        exact ⟨rfl, (rf_bad2 (n := 7) BB.out HC'.out BY.out H4.out HKL.out (by decide)).as rfl, gr_as (gr_set (gr_set GG.out 1 (.int .i64 ((k' : Int) + 1))) 2 (.int .i64 ((7 : Nat) : Int))) rfl rfl rfl rfl⟩
                  · have hi2 := hi0 rfl
                    clear hi0
                    have hmul := HMUL.out
                    have hadd := HADD.out
                    have hwp := HWP.out
                    go_wp2_with fail
                    go_region
                    all_goals
                      go_wp2_with fail
                      go_region
                      all_goals
                        go_wp2_with fail
                        go_ret
                        rw [HRS.out]
                        exact ⟨rfl, (rf_bad2 (n := 7) BB.out HC'.out BY.out H4.out HKL.out (by decide)).as rfl, gr_as (gr_set (gr_set GG.out 1 (.int .i64 ((k' : Int) + 1))) 2 (.int .i64 ((7 : Nat) : Int))) rfl rfl rfl rfl⟩
                · have hy2 := hy1 rfl
                  clear hy1
                  cases ty
                  · clear hi0
                    have hmul := HMUL.out
                    have hadd := HADD.out
                    have hwp := HWP.out
                    go_wp2_with fail
                    go_region
                    all_goals
                      go_wp2_with fail
                      go_region
                      all_goals
                        go_wp2_with fail
                        go_ret
                        rw [HRS.out]
                        exact ⟨rfl, (rf_bad2 (n := 7) BB.out HC'.out BY.out H4.out HKL.out (by decide)).as rfl, gr_as (gr_set (gr_set GG.out 1 (.int .i64 ((k' : Int) + 1))) 2 (.int .i64 ((7 : Nat) : Int))) rfl rfl rfl rfl⟩
                  · have hi2 := hi0 rfl
                    clear hi0
                    have hmul := HMUL.out
                    have hadd := HADD.out
                    have hwp := HWP.out
                    go_wp2_with fail
                    go_region
                    all_goals
                      go_wp2_with fail
                      go_region
                      all_goals
                        go_wp2_with fail
                        go_ret
                        rw [HRS.out]
                        exact ⟨rfl, (rf_bad2 (n := 7) BB.out HC'.out BY.out H4.out HKL.out (by decide)).as rfl, gr_as (gr_set (gr_set GG.out 1 (.int .i64 ((k' : Int) + 1))) 2 (.int .i64 ((7 : Nat) : Int))) rfl rfl rfl rfl⟩
            · have hmz : ¬ (most : Int) < (v2 : Int) := by omega
              have HRS := Lib.hid (show res = (v2, (0, L.drop (k' + 1))) by rw [HNUM.out, hrd.out.2, HD.out, st_got H9X.out HX127.out (by rw [← HY.out, ← HV1.out, ← HV2.out]; exact hbad)]; simp only; rw [← HY.out, ← HV1.out, ← HV2.out])
              obtain ⟨ty, hty⟩ : ∃ b : Bool, ((y : Int) == 0) = b := ⟨_, rfl⟩
              have hi0 : ty = true → ¬ (0 : Int) < (i : Int) := by
                intro h
                rw [h, beq_iff_eq] at hty
                omega
              clear hbad hA h127
              cases t9
              · clear hy1
                cases ty
                · clear hi0
                  have hmul := HMUL.out
                  have hadd := HADD.out
                  have hwp := HWP.out
                  go_wp2_with fail
                  go_region
                  all_goals
                    go_wp2_with fail
                    go_region
                    all_goals
                      go_wp2_with fail
                      go_ret
                      rw [HRS.out]
                      exact ⟨rfl, (rf_next BB.out HC'.out BY.out H4.out HKL.out rfl).as rfl, gr_as (gr_set GG.out 1 (.int .i64 ((k' : Int) + 1))) rfl rfl rfl rfl⟩
                · have hi2 := hi0 rfl
                  clear hi0
                  have hmul := HMUL.out
                  have hadd := HADD.out
                  have hwp := HWP.out
                  go_wp2_with fail
                  go_region
                  all_goals
                    go_wp2_with fail
                    go_region
                    all_goals
                      go_wp2_with fail
                      go_ret
                      rw [HRS.out]
                      exact ⟨rfl, (rf_next BB.out HC'.out BY.out H4.out HKL.out rfl).as rfl, gr_as (gr_set GG.out 1 (.int .i64 ((k' : Int) + 1))) rfl rfl rfl rfl⟩
              · have hy2 := hy1 rfl
                clear hy1
                cases ty
                · clear hi0
                  have hmul := HMUL.out
                  have hadd := HADD.out
                  have hwp := HWP.out
                  go_wp2_with fail
                  go_region
                  all_goals
                    go_wp2_with fail
                    go_region
                    all_goals
                      go_wp2_with fail
                      go_ret
                      rw [HRS.out]
                      exact ⟨rfl, (rf_next BB.out HC'.out BY.out H4.out HKL.out rfl).as rfl, gr_as (gr_set GG.out 1 (.int .i64 ((k' : Int) + 1))) rfl rfl rfl rfl⟩
                · have hi2 := hi0 rfl
                  clear hi0
                  have hmul := HMUL.out
                  have hadd := HADD.out
                  have hwp := HWP.out
                  go_wp2_with fail
                  go_region
                  all_goals
                    go_wp2_with fail
                    go_region
                    all_goals
                      go_wp2_with fail
                      go_ret
                      rw [HRS.out]
                      exact ⟨rfl, (rf_next BB.out HC'.out BY.out H4.out HKL.out rfl).as rfl, gr_as (gr_set GG.out 1 (.int .i64 ((k' : Int) + 1))) rfl rfl rfl rfl⟩
  · have HN := Lib.hid (show numS most (e, l) = (0, (e, l)) by unfold numS; rw [if_neg he])
    have hez : ((e : Int) == 0) = false := by rw [beq_eq_false_iff_ne]; omega
    rw [HN.out]
    clear he h4 h6
    go_enter Try.func33, Try.ntmps33
    go_wp2_with fail
    go_loopw [5, 6, 7] (fun v5 v6 v7 wr => w = wr) (fun _ _ v7 _ => 20 - (intOf v7).toNat)
    case atStart => rfl
    case round =>
      subst hrel
      go_wp2_with fail
      go_ret
      exact ⟨rfl, HR.out, gr_refl _ _⟩
end Go.Proofs.Ytndgbdbjmogioaa.Wi
