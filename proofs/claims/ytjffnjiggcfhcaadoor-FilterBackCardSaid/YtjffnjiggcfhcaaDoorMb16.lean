/-
  Contracts of the document's answers Deep, Nodes, May: how deep a filter is, how many nodes it has, whether it may be. Memory that was there is left as it was.
-/
import Derived.Test.YtjffnjiggcfhcaaDoorMb15
import Derived.Test.YtjffnjiggcfhcaaDoorMb11
import Derived.Test.YtjffnjiggcfhcaaDoorMb09
import Derived.Deep.RegionHeld3
import Derived.Test.YtjffnjiggcfhcaaDoorMb06
import Derived.Test.YtjffnjiggcfhcaaDoorMb08
import Derived.BigQuiet
/-
  Contract of May of package filter: may a filter be? Memory that was there is left as it was.
-/
namespace Go.Proofs.YtjffnjiggcfhcaaDoor.Fl
open Go.RowKit Go.Proofs.YtjffnjiggcfhcaaDoor.Tk
set_option linter.unusedVariables false
set_option linter.unusedSimpArgs false

theorem LeftAt.new (w : World) (m : Int) (t : TypeId) : LeftAt (w.alloc (.cells #[.int .i64 m] t)) w.heap.size m := by
  constructor <;> simp [go_sem]
theorem filterMay_any (f : Flt) (a : Option Addr) (c : Nat) (b : Option Addr) (d : Nat) (w : World) (hE : LaidE w) (hF : FltAt w (Old w.heap.size) f a b) :
    Calls Tryd.prog 9 #[.agg #[.int .i64 f.kind, bs f.name, bs f.op, .slice a f.vals.length c, .slice b f.parts.length d]] w fun e w' => e = .returned (.bool (mayB f 10 60)) ∧ Below w.heap.size w w' := by
  have HC := Lib.hid (fun W p h1 h2 h3 h4 h5 => may_all (sz f) f (Nat.le_refl _) a c b d 10 60 w.heap.size p W (by omega) (by omega) h1 h2 h3 h4 h5)
  obtain ⟨sn, en, _⟩ := bs_bytes f.name
  obtain ⟨so, eo, _⟩ := bs_bytes f.op
  rw [en, eo] at HC ⊢
  have HE := Lib.hid (laidZ_of hE)
  have HF := Lib.hid hF
  obtain ⟨res, hres⟩ : ∃ x, x = mayB f 10 60 := ⟨_, rfl⟩
  have HR := Lib.hid hres
  rw [← hres]
  obtain ⟨qk, hqk⟩ : ∃ x, x = f.kind := ⟨_, rfl⟩
  obtain ⟨qv, hqv⟩ : ∃ x, x = f.vals.length := ⟨_, rfl⟩
  obtain ⟨qp, hqp⟩ : ∃ x, x = f.parts.length := ⟨_, rfl⟩
  rw [← hqk, ← hqv, ← hqp] at HC ⊢
  clear en eo hE hF hres hqk hqv hqp
  obtain ⟨w1, hw1⟩ : ∃ v, v = (w.alloc (.cells #[.int .i64 qk, .string sn, .string so, .slice a qv c, .slice b qp d] 25)).alloc (.cells #[.int .i64 60] 3) := ⟨_, rfl⟩
  have hs1 : (w.alloc (.cells #[.int .i64 qk, .string sn, .string so, .slice a qv c, .slice b qp d] 25)).heap.size = w.heap.size + 1 := by simp
  have HL := Lib.hid (show LeftAt w1 (w.heap.size + 1) ((60 : Nat) : Int) by rw [hw1, ← hs1]; exact LeftAt.new _ _ _)
  have HB := Lib.hid (show Below w.heap.size w w1 by rw [hw1]; exact ((Below.refl _ _).alloc (Nat.le_refl _) _).alloc (by rw [hs1]; omega) _)
  have HW := Lib.hid hw1
  clear hw1 hs1
  go_enter Tryd.func9, Tryd.ntmps9
  go_wp2_with fail
  rw [← HW.out]
  refine Calls.mono (HC.out w1 (w.heap.size + 1) (HE.out.later HB.out) (by omega) HB.out.size (HF.out.later HB.out) HL.out) ?_
  rintro e w2 ⟨rfl, hg, _, _⟩
  rw [← HR.out]
  have HB2 := Lib.hid (HB.out.trans (gr_below hg (by omega) HB.out.size))
  clear hg
  go_wp2_with fail
  go_ret
  exact ⟨rfl, HB2.out⟩
end Go.Proofs.YtjffnjiggcfhcaaDoor.Fl
/-
  Contract of Read of package filter: a text is read as a filter, or not. Memory that was there is left as it was.
-/
namespace Go.Proofs.YtjffnjiggcfhcaaDoor.Fl
open Go.RowKit Go.Proofs.YtjffnjiggcfhcaaDoor.Tk
set_option linter.unusedVariables false
set_option linter.unusedSimpArgs false

/-- Why s is no filter, as the code counts its errors. -/
def NoFlt (l : List UInt8) (n : Int) : Prop :=
  (500 < l.length ∧ n = 5) ∨ (l.length ≤ 500 ∧ n = 2 ∧ cutAt 0 l = none) ∨ (l.length ≤ 500 ∧ n = 3 ∧ (∃ ks, cutAt 0 l = some ks) ∧ readL l = none) ∨ (l.length ≤ 500 ∧ n = 5 ∧ ∃ f, readL l = some f ∧ mayB f 10 60 = false)
def ReadEnd (l : List UInt8) (w w' : World) (e : Ending) : Prop :=
  Below w.heap.size w w' ∧ ((∃ n : Int, e = .returned (.tuple #[.agg #[.int .i64 0, .string ⟨#[]⟩, .string ⟨#[]⟩, .slice none 0 0, .slice none 0 0], .iface 35 (.int .i64 n)]) ∧ NoFlt l n) ∨
    (∃ f a c b d, readL l = some f ∧ mayB f 10 60 = true ∧ l.length ≤ 500 ∧ e = .returned (.tuple #[.agg #[.int .i64 f.kind, bs f.name, bs f.op, .slice a f.vals.length c, .slice b f.parts.length d], .nilIface]) ∧ FltAt w' (fun g => w.heap.size ≤ g ∧ g < w'.heap.size) f a b))
theorem cut_count : ∀ (n a : Nat) (l : List UInt8) (ts : List Tok), l.length ≤ n → cutAt a l = some ts → ts.length ≤ l.length
  | n, a, [], ts, _, h => by
    rw [cutAt_nil] at h
    cases h
    simp
  | 0, a, c :: r, ts, hn, _ => by simp at hn
  | n + 1, a, c :: r, ts, hn, h => by
    simp only [List.length_cons] at hn
    by_cases hc : c.toNat = 32
    · rw [cutAt_space hc] at h
      have := cut_count n (a + 1) r ts (by omega) h
      simp only [List.length_cons]
      omega
    · cases hx : lex (c :: r) with
      | none => rw [cutAt_none hc a r hx] at h; cases h
      | some x =>
        have hz := lex_size hx
        rw [cutAt_some hc a r hx] at h
        obtain ⟨us, hu, rfl⟩ := Option.map_eq_some_iff.1 h
        have hl : ((c :: r).drop x.size).length = (c :: r).length - x.size := by simp
        have := cut_count n (a + x.size) _ us (by rw [hl]; simp only [List.length_cons]; omega) hu
        simp only [List.length_cons] at *
        omega
theorem toks_of {W : World} {z : Nat} {a : Option Addr} {ts : List Tok} (h : TksAt W z a ts) : Toks W (Old z) a ts := by
  intro h0
  obtain ⟨g, e, hg, hc⟩ := h.2 h0
  refine ⟨g, 0, e, hg, fun k hk => ?_⟩
  simp only [Nat.zero_add]
  exact hc k hk
/-- All tokens are read. -/
def topF : Option (Flt × List Tc) → Option Flt
  | some (f, []) => some f
  | _ => none
theorem readL_cut {l : List UInt8} {ts : List Tok} (h : cutAt 0 l = some ts) : readL l = topF (orP (ts.length + 1) (ts.map core)) := by
  unfold readL
  rw [h]
  simp only
  cases orP (ts.length + 1) (ts.map core) with
  | none => rfl
  | some x =>
    obtain ⟨f, r⟩ := x
    cases r <;> rfl
set_option maxHeartbeats 8000000 in
set_option maxRecDepth 100000 in
theorem read_any (s : ByteArray) (w : World) (hE : LaidE w) : Calls Tryd.prog 7 #[.string s] w fun e w' => ReadEnd s.data.toList w w' e := by
  have HSZ := Lib.hid (show s.size = s.data.toList.length by rw [Array.length_toList]; rfl)
  have q1 := neqE 5
  have q2 := neqE 2
  have q3 := neqN
  obtain ⟨w1, hw1⟩ : ∃ v, v = w.alloc (.cells #[.int .i64 0, .string ⟨#[]⟩, .string ⟨#[]⟩, .slice none 0 0, .slice none 0 0] 25) := ⟨_, rfl⟩
  have HW := Lib.hid hw1
  have B1 := Lib.hid (show Below w.heap.size w w1 by rw [hw1]; exact (Below.refl _ _).alloc (Nat.le_refl _) _)
  have X1 := Lib.hid (show Rw w1 w.heap.size #[.int .i64 0, .string ⟨#[]⟩, .string ⟨#[]⟩, .slice none 0 0, .slice none 0 0] by rw [hw1]; exact Rw.new ..)
  have HE := Lib.hid hE
  have CC := Lib.hid (cut_all_any s w1 (hE.later B1.out))
  clear hw1 hE
  go_enter Tryd.func7, Tryd.ntmps7
  go_wp2_with fail
  rw [← HW.out]
  refine Calls.mono CC.out ?_
  rintro e w2 ⟨⟨n, rfl, hno⟩ | ⟨ts, a, cap, rfl, h500, hcut, htk, hcap⟩, hb2⟩
  · have B2 := Lib.hid (B1.out.trans (hb2.mono B1.out.size))
    have X2 := Lib.hid (X1.out.later hb2)
    have HN := Lib.hid (show NoFlt s.data.toList n by
      rcases hno with ⟨h1, h2⟩ | ⟨h1, h2, h3⟩
      · exact Or.inl ⟨by rw [← HSZ.out]; exact h1, h2⟩
      · exact Or.inr (Or.inl ⟨by rw [← HSZ.out]; exact h1, h2, h3⟩))
    have q4 := neqE n
    clear hb2 hno
    go_wp2_with (skip; (refine wpList_store_rowTo rfl _ _ _ rfl rfl w.heap.size _ rfl rfl _ #[.int .i64 0, .string ⟨#[]⟩, .string ⟨#[]⟩, .slice none 0 0, .slice none 0 0] (by first | exact X2.out | exact Rw.alloc X2.out _ | exact Rw.alloc2 X2.out _ _ | exact Rw.alloc3 X2.out _ _ _) (by kernel_rfl) rfl (by simp [Value.oneCell']) ?_))
    refine ret5 Tryd.results7 rfl rfl (X2.out.set _).box rfl ?_
    exact ⟨gr_below (p := w.heap.size) (gr_row (gr_of_below B2.out) (Nat.le_refl _) _) (Nat.le_refl _) (Nat.le_refl _), Or.inl ⟨n, rfl, HN.out⟩⟩
  · obtain ⟨w3, hw3⟩ : ∃ v, v = w2.alloc (.cells #[.slice a ts.length cap] 44) := ⟨_, rfl⟩
    have HW3 := Lib.hid hw3
    have HL5 := Lib.hid (show s.data.toList.length ≤ 500 by rw [← HSZ.out]; exact h500)
    have HTL := Lib.hid (show ts.length ≤ 600 by have := cut_count _ _ _ _ (Nat.le_refl _) hcut; have := HL5.out; omega)
    have HRL := Lib.hid (readL_cut hcut)
    have HCT := Lib.hid hcut
    have X2 := Lib.hid (X1.out.later hb2)
    have X3 := Lib.hid (show Rw w3 w.heap.size #[.int .i64 0, .string ⟨#[]⟩, .string ⟨#[]⟩, .slice none 0 0, .slice none 0 0] by rw [hw3]; exact X2.out.alloc _)
    have G3 := Lib.hid (show w.grownBy w3 (some w2.heap.size) by rw [hw3]; exact gr_alloc (gr_of_below (B1.out.trans (hb2.mono B1.out.size))) _)
    have E3 := Lib.hid (HE.out.later (gr_below G3.out (by have := X2.out.lt; omega) (Nat.le_refl _)))
    have HP := Lib.hid (show w.heap.size < w2.heap.size ∧ w3.heap.size = w2.heap.size + 1 from ⟨X2.out.lt, by rw [hw3]; simp⟩)
    have R3 := Lib.hid (show RdAt w3 w2.heap.size w2.heap.size ts by
      rw [hw3]
      exact ⟨a, cap, by simp [go_sem], by simp [go_sem], hcap, (toks_of htk).far fun g hg => ⟨hg, Below.heap_alloc _ _ _ hg⟩⟩)
    have CR := Lib.hid (or_all w2.heap.size w2.heap.size (Nat.le_refl _) (ts.length + 1) ts (cut_TG HL5.out hcut) HTL.out (Nat.lt_succ_self _) w3 R3.out)
    obtain ⟨nt, hnt⟩ : ∃ x, x = ts.length := ⟨_, rfl⟩
    rw [← hnt] at HW3 ⊢
    have hwp : ¬ w.heap.size = w2.heap.size := by have := HP.out; omega
    clear hw3 h500 hcut htk hcap hb2 hnt
    go_wp2_with fail
    rw [← HW3.out]
    refine Calls.mono CR.out ?_
    rintro e w4 hEnd
    have G4 := Lib.hid (hEnd.up G3.out)
    have X4 := Lib.hid (X3.out.gr hEnd.1 hwp)
    obtain ⟨hg4, ⟨hn, k0, s0, o0, a0, n0, c0, b0, m0, d0, rfl⟩ | ⟨f, r, a', c', b', d', hy, rfl, hr4, hm4, ho4⟩⟩ := hEnd
    · have HN := Lib.hid (show NoFlt s.data.toList 3 from Or.inr (Or.inr (Or.inl ⟨HL5.out, rfl, ⟨_, HCT.out⟩, by rw [HRL.out, hn]; rfl⟩)))
      clear hg4 hn
      go_wp2_with (skip; (refine wpList_store_rowTo rfl _ _ _ rfl rfl w.heap.size _ rfl rfl _ #[.int .i64 0, .string ⟨#[]⟩, .string ⟨#[]⟩, .slice none 0 0, .slice none 0 0] (by first | exact X4.out | exact Rw.alloc X4.out _ | exact Rw.alloc2 X4.out _ _ | exact Rw.alloc3 X4.out _ _ _) (by kernel_rfl) rfl (by simp [Value.oneCell']) ?_))
      refine ret5 Tryd.results7 rfl rfl ((X4.out.alloc _).set _).box rfl ?_
      exact ⟨gr_below (gr_row (gr_alloc G4.out _) (Nat.le_refl _) _) (by have := HP.out; omega) (Nat.le_refl _), Or.inl ⟨3, rfl, HN.out⟩⟩
    · have HY := Lib.hid hy
      have O4 := Lib.hid ho4
      obtain ⟨sn, esn, _⟩ := bs_bytes f.name
      obtain ⟨so, eso, _⟩ := bs_bytes f.op
      obtain ⟨fk, hfk⟩ : ∃ x, x = f.kind := ⟨_, rfl⟩
      obtain ⟨n1, hn1⟩ : ∃ x, x = f.vals.length := ⟨_, rfl⟩
      obtain ⟨n2, hn2⟩ : ∃ x, x = f.parts.length := ⟨_, rfl⟩
      have HFV := Lib.hid (And.intro hfk (And.intro esn (And.intro eso (And.intro hn1 hn2))))
      rw [esn, eso, ← hfk, ← hn1, ← hn2]
      have hg4s : w3.heap.size ≤ w4.heap.size := hg4.size
      clear hy ho4 esn eso hfk hn1 hn2 hm4 hg4
      obtain ⟨ra, rc, hc, _, _, _⟩ := hr4
      have hp4 : w2.heap.size < w4.heap.size := by have := HP.out; omega
      cases r with
      | cons t r =>
        have HN := Lib.hid (show NoFlt s.data.toList 3 from Or.inr (Or.inr (Or.inl ⟨HL5.out, rfl, ⟨_, HCT.out⟩, by rw [HRL.out, HY.out]; rfl⟩)))
        obtain ⟨nr, hnr, hnr0⟩ : ∃ x : Nat, x = (t :: r).length ∧ 0 < x := ⟨_, rfl, by simp⟩
        rw [← hnr] at hc
        have hd : decide ((nr : Int) > 0) = true := decide_eq_true (by omega)
        clear hnr
        go_wp2_with (skip; (refine wpList_store_rowTo rfl _ _ _ rfl rfl w.heap.size _ rfl rfl _ #[.int .i64 0, .string ⟨#[]⟩, .string ⟨#[]⟩, .slice none 0 0, .slice none 0 0] (by first | exact X4.out | exact Rw.alloc X4.out _ | exact Rw.alloc2 X4.out _ _ | exact Rw.alloc3 X4.out _ _ _) (by kernel_rfl) rfl (by simp [Value.oneCell']) ?_))
        refine ret5 Tryd.results7 rfl rfl ((X4.out.alloc _).set _).box rfl ?_
        exact ⟨gr_below (gr_row (gr_alloc G4.out _) (Nat.le_refl _) _) (by have := HP.out; omega) (Nat.le_refl _), Or.inl ⟨3, rfl, HN.out⟩⟩
      | nil =>
        have HRD := Lib.hid (show readL s.data.toList = some f by rw [HRL.out, HY.out]; rfl)
        simp only [List.length_nil] at hc
        obtain ⟨w5, hw5⟩ : ∃ v, v = w4.alloc (.cells #[.int .i64 fk, .string sn, .string so, .slice a' n1 c', .slice b' n2 d'] 25) := ⟨_, rfl⟩
        have HW5 := Lib.hid hw5
        have X5 := Lib.hid (show Rw w5 w.heap.size #[.int .i64 0, .string ⟨#[]⟩, .string ⟨#[]⟩, .slice none 0 0, .slice none 0 0] by rw [hw5]; exact X4.out.alloc _)
        have Y5 := Lib.hid (show Rw w5 w4.heap.size #[.int .i64 fk, .string sn, .string so, .slice a' n1 c', .slice b' n2 d'] by rw [hw5]; exact Rw.new ..)
        have G5 := Lib.hid (show w.grownBy w5 (some w2.heap.size) by rw [hw5]; exact gr_alloc G4.out _)
        have F5 := Lib.hid (show FltAt w5 (fun g => w3.heap.size ≤ g ∧ g < w5.heap.size) f a' b' by rw [hw5]; exact (O4.out.later ((Below.refl _ _).alloc (Nat.le_refl _) _)).flt.far fun g h => ⟨⟨h.1, h.2.1⟩, rfl⟩)
        have CM := Lib.hid (filterMay_any f a' c' b' d' w5 (HE.out.later (gr_below G5.out (by have := HP.out; omega) (Nat.le_refl _))) (F5.out.far fun g h => ⟨h.2, rfl⟩))
        rw [HFV.out.2.1, HFV.out.2.2.1, ← HFV.out.1, ← HFV.out.2.2.2.1, ← HFV.out.2.2.2.2] at CM
        obtain ⟨mb, hmb⟩ : ∃ x, x = mayB f 10 60 := ⟨_, rfl⟩
        rw [← hmb] at CM
        have HMB := Lib.hid hmb
        clear hw5 hmb
        go_wp2_with fail
        rw [← HW5.out]
        refine Calls.mono CM.out ?_
        rintro e w6 ⟨rfl, hb6⟩
        have X6 := Lib.hid (X5.out.later hb6)
        have Y6 := Lib.hid (Y5.out.later hb6)
        have G6 := Lib.hid (gr_trans G5.out (gr_of_below hb6))
        have F6 := Lib.hid (show FltAt w6 (fun g => w3.heap.size ≤ g ∧ g < w6.heap.size) f a' b' from F5.out.far fun g h => ⟨⟨h.1, Nat.lt_of_lt_of_le h.2 hb6.size⟩, hb6.block g h.2⟩)
        obtain ⟨y0, y1, y2, y3, y4⟩ := Y6.out.box
        have hy6 : w4.heap.size < w6.heap.size := Y6.out.lt
        clear hb6 hc
        cases mb with
        | false =>
          have HN := Lib.hid (show NoFlt s.data.toList 5 from Or.inr (Or.inr (Or.inr ⟨HL5.out, rfl, f, HRD.out, HMB.out.symm⟩)))
          go_wp2_with (skip; (refine wpList_store_rowTo rfl _ _ _ rfl rfl w.heap.size _ rfl rfl _ #[.int .i64 0, .string ⟨#[]⟩, .string ⟨#[]⟩, .slice none 0 0, .slice none 0 0] (by first | exact X6.out | exact Rw.alloc X6.out _ | exact Rw.alloc2 X6.out _ _ | exact Rw.alloc3 X6.out _ _ _) (by kernel_rfl) rfl (by simp [Value.oneCell']) ?_))
          refine ret5 Tryd.results7 rfl rfl (X6.out.set _).box rfl ?_
          exact ⟨gr_below (gr_row G6.out (Nat.le_refl _) _) (by have := HP.out; omega) (Nat.le_refl _), Or.inl ⟨5, rfl, HN.out⟩⟩
        | true =>
          go_wp2_with (skip; (refine wpList_store_rowTo rfl _ _ _ rfl rfl w.heap.size _ rfl rfl _ #[.int .i64 0, .string ⟨#[]⟩, .string ⟨#[]⟩, .slice none 0 0, .slice none 0 0] (by first | exact X6.out | exact Rw.alloc X6.out _ | exact Rw.alloc2 X6.out _ _ | exact Rw.alloc3 X6.out _ _ _) (by kernel_rfl) rfl (by simp [Value.oneCell']) ?_))
          refine ret5 Tryd.results7 rfl rfl (X6.out.set _).box rfl ?_
          exact ⟨gr_below (gr_row G6.out (Nat.le_refl _) _) (by have := HP.out; omega) (Nat.le_refl _), Or.inr ⟨f, a', c', b', d', HRD.out, HMB.out.symm, HL5.out, by rw [HFV.out.2.1, HFV.out.2.2.1, ← HFV.out.1, ← HFV.out.2.2.2.1, ← HFV.out.2.2.2.2]; rfl, F6.out.far fun g h => ⟨⟨by have := HP.out; omega, by simpa using h.2⟩, setRow_other _ _ _ _ (by have := HP.out; omega)⟩⟩⟩
end Go.Proofs.YtjffnjiggcfhcaaDoor.Fl
/-
  Contracts of text, partText, joinedText of package filter: a filter's text. Memory that was there is left as it was.
-/
namespace Go.Proofs.YtjffnjiggcfhcaaDoor.Fl
open Go.RowKit Go.Proofs.YtjffnjiggcfhcaaDoor.Tk
set_option linter.unusedVariables false
set_option linter.unusedSimpArgs false

def TextOk (f : Flt) : Prop := ∀ (a : Option Addr) (c : Nat) (b : Option Addr) (d : Nat) (w : World), LaidT w → FltAt w (Old w.heap.size) f a b → fine f = true → sz f ≤ 100 →
  Calls Tryd.prog 11 #[.agg #[.int .i64 f.kind, bs f.name, bs f.op, .slice a f.vals.length c, .slice b f.parts.length d]] w fun e w' => e = .returned (.string ⟨(showF f).toArray⟩) ∧ Below w.heap.size w w'
/-- A part's text within that of a filter of kind kk. -/
def partS (kk : Int) (p : Flt) : List UInt8 := if kk = 3 then showN [p] else showP p
theorem partS_eq (kk : Int) (p : Flt) : partS kk p = if joinedB p.kind = true ∨ (kk = 3 ∧ ¬ p.kind = 3 ∧ ¬ p.kind = 7) then 40 :: (showF p ++ [41]) else showF p := by
  obtain ⟨k, n, o, vs, l⟩ := p
  unfold partS joinedB
  simp only [Flt.kind, showN, showP]
  by_cases h1 : k = 1
  · subst h1; simp
  by_cases h2 : k = 2
  · subst h2; simp
  by_cases hk : kk = 3
  · subst hk
    by_cases h3 : k = 3
    · subst h3; simp
    by_cases h7 : k = 7
    · subst h7; simp
    simp [h1, h2, h3, h7]
  · simp [h1, h2, hk]
theorem show_size {f : Flt} (hf : fine f = true) (hr : rng f) (h : sz f ≤ 100) : (showF f).length ≤ 501000 := by
  have := show_len (sz f) f (Nat.le_refl _) hf hr
  omega
theorem partS_size {f : Flt} (kk : Int) (hf : fine f = true) (hr : rng f) (h : sz f ≤ 100) : (partS kk f).length ≤ 501002 := by
  have := show_size hf hr h
  rw [partS_eq]
  split
  · simp; omega
  · omega
set_option maxHeartbeats 4000000 in
set_option maxRecDepth 100000 in
theorem partText_any (kk : Int) (f : Flt) (ih : TextOk f) (a : Option Addr) (c : Nat) (b : Option Addr) (d : Nat) (w : World) (hT : LaidT w) (hF : FltAt w (Old w.heap.size) f a b) (hf : fine f = true) (h5 : sz f ≤ 100) :
    Calls Tryd.prog 18 #[.int .i64 kk, .agg #[.int .i64 f.kind, bs f.name, bs f.op, .slice a f.vals.length c, .slice b f.parts.length d]] w fun e w' => e = .returned (.string ⟨(partS kk f).toArray⟩) ∧ Below w.heap.size w w' := by
  have CT := Lib.hid (fun W h1 h2 => ih a c b d W h1 h2 hf h5)
  obtain ⟨st, hst⟩ : ∃ x : ByteArray, x = ⟨(showF f).toArray⟩ := ⟨_, rfl⟩
  have hsz : st.size ≤ 501000 := by rw [hst]; have := show_size hf hF.rng h5; rw [bytes_size]; exact this
  have HST := Lib.hid (show st.data.toList = showF f by rw [hst])
  obtain ⟨res, hres⟩ : ∃ x : ByteArray, x = ⟨(partS kk f).toArray⟩ := ⟨_, rfl⟩
  have HR := Lib.hid (show res.data.toList = if joinedB f.kind = true ∨ (kk = 3 ∧ ¬ f.kind = 3 ∧ ¬ f.kind = 7) then 40 :: (showF f ++ [41]) else showF f by rw [hres, ← partS_eq])
  rw [← hres]
  rw [← hst] at CT
  obtain ⟨sn, en, _⟩ := bs_bytes f.name
  obtain ⟨so, eo, _⟩ := bs_bytes f.op
  rw [en, eo] at CT ⊢
  have HF := Lib.hid hF
  have HT := Lib.hid hT
  obtain ⟨k, hqk⟩ : ∃ x, x = f.kind := ⟨_, rfl⟩
  obtain ⟨n, hqv⟩ : ∃ x, x = f.vals.length := ⟨_, rfl⟩
  obtain ⟨l, hqp⟩ : ∃ x, x = f.parts.length := ⟨_, rfl⟩
  rw [← hqk, ← hqv, ← hqp] at CT ⊢
  rw [← hqk] at HR
  clear en eo hF hqk hqv hqp hst hres hT ih
  obtain ⟨w1, hw1⟩ : ∃ v, v = w.alloc (.cells #[.int .i64 k, .string sn, .string so, .slice a n c, .slice b l d] 25) := ⟨_, rfl⟩
  have X1 := Lib.hid (show Box w1 w.heap.size (.int .i64 k) (.string sn) (.string so) (.slice a n c) (.slice b l d) by rw [hw1]; exact Box.new ..)
  have HB := Lib.hid (show Below w.heap.size w w1 by rw [hw1]; exact (Below.refl _ _).alloc (Nat.le_refl _) _)
  have HW := Lib.hid hw1
  clear hw1
  have CJ := Lib.hid (fun W => isJoined_any k W)
  obtain ⟨jo, hjo⟩ : ∃ x, x = joinedB k := ⟨_, rfl⟩
  rw [← hjo] at CJ HR
  clear hjo
  have HBR := Lib.hid (show ∀ y : ByteArray, y.data.toList = 40 :: (st.data.toList ++ [41]) → (jo = true ∨ (kk = 3 ∧ ¬ k = 3 ∧ ¬ k = 7)) → y = res from fun y hy h => by rw [bs_of hy, bs_of HR.out, if_pos h, HST.out])
  have HNB := Lib.hid (show ¬ (jo = true ∨ (kk = 3 ∧ ¬ k = 3 ∧ ¬ k = 7)) → st = res from fun h => by rw [bs_of HR.out, if_neg h, ← HST.out])
  cases jo
  case true =>
    go_enter Tryd.func18, Tryd.ntmps18
    go_wp2_with (first | (go_at_call 11; rw [← HW.out]; refine Calls.mono (CT.out _ (HT.out.later HB.out) (HF.out.fit HB.out)) ?_; rintro e w2 ⟨rfl, hb⟩; have HB2 := Lib.hid (HB.out.trans (hb.mono HB.out.size)); have X2 := Lib.hid (X1.out.later hb); obtain ⟨c0, c1, c2, c3, c4⟩ := X2.out; clear hb) | (go_at_call 26; refine Calls.mono (CJ.out _) ?_; rintro e w3 ⟨rfl, rfl⟩))
    go_ret
    exact ⟨congrArg (fun y => Ending.returned (.string y)) (HBR.out _ (by simp) (Or.inl (by first | rfl | trivial))), HB2.out⟩
  by_cases h3 : kk = 3
  case neg =>
    have h3b : (kk == 3) = false := by rw [beq_eq_false_iff_ne]; exact h3
    have h3d : decide (kk = 3) = false := decide_eq_false h3
    have HG := Lib.hid (HNB.out (fun h => h.elim (fun h => by cases h) fun h => h3 h.1))
    go_enter Tryd.func18, Tryd.ntmps18
    go_wp2_with (first | (go_at_call 11; rw [← HW.out]; refine Calls.mono (CT.out _ (HT.out.later HB.out) (HF.out.fit HB.out)) ?_; rintro e w2 ⟨rfl, hb⟩; have HB2 := Lib.hid (HB.out.trans (hb.mono HB.out.size)); have X2 := Lib.hid (X1.out.later hb); obtain ⟨c0, c1, c2, c3, c4⟩ := X2.out; clear hb) | (go_at_call 26; refine Calls.mono (CJ.out _) ?_; rintro e w3 ⟨rfl, rfl⟩))
    go_ret
    exact ⟨by rw [← HG.out]; rfl, HB2.out⟩
  subst h3
  by_cases hk3 : k = 3
  case pos =>
    subst hk3
    have HG := Lib.hid (HNB.out (fun h => h.elim (fun h => by cases h) fun h => h.2.1 rfl))
    go_enter Tryd.func18, Tryd.ntmps18
    go_wp2_with (first | (go_at_call 11; rw [← HW.out]; refine Calls.mono (CT.out _ (HT.out.later HB.out) (HF.out.fit HB.out)) ?_; rintro e w2 ⟨rfl, hb⟩; have HB2 := Lib.hid (HB.out.trans (hb.mono HB.out.size)); have X2 := Lib.hid (X1.out.later hb); obtain ⟨c0, c1, c2, c3, c4⟩ := X2.out; clear hb) | (go_at_call 26; refine Calls.mono (CJ.out _) ?_; rintro e w3 ⟨rfl, rfl⟩))
    go_ret
    exact ⟨by rw [← HG.out]; rfl, HB2.out⟩
  have hk3b : (k == 3) = false := by rw [beq_eq_false_iff_ne]; exact hk3
  have hk3d : decide (k = 3) = false := decide_eq_false hk3
  have hk3e : (k != 3) = true := by rw [bne, hk3b]; rfl
  by_cases hk7 : k = 7
  case pos =>
    subst hk7
    have HG := Lib.hid (HNB.out (fun h => h.elim (fun h => by cases h) fun h => h.2.2 rfl))
    go_enter Tryd.func18, Tryd.ntmps18
    go_wp2_with (first | (go_at_call 11; rw [← HW.out]; refine Calls.mono (CT.out _ (HT.out.later HB.out) (HF.out.fit HB.out)) ?_; rintro e w2 ⟨rfl, hb⟩; have HB2 := Lib.hid (HB.out.trans (hb.mono HB.out.size)); have X2 := Lib.hid (X1.out.later hb); obtain ⟨c0, c1, c2, c3, c4⟩ := X2.out; clear hb) | (go_at_call 26; refine Calls.mono (CJ.out _) ?_; rintro e w3 ⟨rfl, rfl⟩))
    go_ret
    exact ⟨by rw [← HG.out]; rfl, HB2.out⟩
  have hk7b : (k == 7) = false := by rw [beq_eq_false_iff_ne]; exact hk7
  have hk7d : decide (k = 7) = false := decide_eq_false hk7
  have hk7e : (k != 7) = true := by rw [bne, hk7b]; rfl
  go_enter Tryd.func18, Tryd.ntmps18
  go_wp2_with (first | (go_at_call 11; rw [← HW.out]; refine Calls.mono (CT.out _ (HT.out.later HB.out) (HF.out.fit HB.out)) ?_; rintro e w2 ⟨rfl, hb⟩; have HB2 := Lib.hid (HB.out.trans (hb.mono HB.out.size)); have X2 := Lib.hid (X1.out.later hb); obtain ⟨c0, c1, c2, c3, c4⟩ := X2.out; clear hb) | (go_at_call 26; refine Calls.mono (CJ.out _) ?_; rintro e w3 ⟨rfl, rfl⟩))
  go_ret
  exact ⟨congrArg (fun y => Ending.returned (.string y)) (HBR.out _ (by simp) (Or.inr ⟨by first | rfl | trivial, hk3, hk7⟩)), HB2.out⟩
end Go.Proofs.YtjffnjiggcfhcaaDoor.Fl
/-
  Contract of the document's answer Name: is a text a name? Memory that was there is left as it was.
-/
namespace Go.Proofs.YtjffnjiggcfhcaaDoor.Fl
open Go.RowKit Go.Proofs.YtjffnjiggcfhcaaDoor.Tk
set_option linter.unusedVariables false
set_option linter.unusedSimpArgs false

theorem name_nil : nameB [] = false := rfl
end Go.Proofs.YtjffnjiggcfhcaaDoor.Fl
/-
  Contract of the document's answer leaf: may a filter without parts be? Memory that was there is left as it was.
-/
namespace Go.Proofs.YtjffnjiggcfhcaaDoor.Fl
open Go.RowKit Go.Proofs.YtjffnjiggcfhcaaDoor.Tk
set_option linter.unusedVariables false
set_option linter.unusedSimpArgs false

/-- Is it a value, and of that sort? -/
def valT0 (t : Bool) (v : Att) : Bool := valB v && v.text == t
def LfR (p : Att → Bool) (vs : List Att) (w : World) (vi : Value) (wr : World) : Prop :=
  ∃ k : Nat, k ≤ vs.length ∧ vi = .int .i64 k ∧ Hid (∀ v ∈ vs.take k, p v = true) ∧ Below w.heap.size w wr
theorem val_cases (sn : ByteArray) (t t0 : Bool) (n : Int) (ss : ByteArray) (pl : Bool) (hp : plainB ss.data.toList = pl) (V : Att) (h1 : sn.data.toList = V.name) (h2 : t = V.text) (h3 : n = V.num) (h4 : ss.data.toList = V.str) :
    (¬ sn = ⟨#[]⟩ ∧ valT0 t0 V = false) ∨ (sn = ⟨#[]⟩ ∧ t = true ∧ t0 = false ∧ valT0 t0 V = false) ∨ (sn = ⟨#[]⟩ ∧ t = false ∧ t0 = true ∧ valT0 t0 V = false) ∨
    (sn = ⟨#[]⟩ ∧ t = true ∧ t0 = true ∧ ¬ n = 0 ∧ valT0 t0 V = false) ∨ (sn = ⟨#[]⟩ ∧ t = true ∧ t0 = true ∧ n = 0 ∧ pl = false ∧ valT0 t0 V = false) ∨ (sn = ⟨#[]⟩ ∧ t = true ∧ t0 = true ∧ n = 0 ∧ pl = true ∧ valT0 t0 V = true) ∨
    (sn = ⟨#[]⟩ ∧ t = false ∧ t0 = false ∧ ¬ ss = ⟨#[]⟩ ∧ valT0 t0 V = false) ∨ (sn = ⟨#[]⟩ ∧ t = false ∧ t0 = false ∧ ss = ⟨#[]⟩ ∧ valT0 t0 V = true) := by
  have hn : sn = ⟨#[]⟩ ↔ V.name = [] := by rw [← h1]; obtain ⟨⟨l⟩⟩ := sn; simp
  have hs : ss = ⟨#[]⟩ ↔ V.str = [] := by rw [← h4]; obtain ⟨⟨l⟩⟩ := ss; simp
  rw [h4] at hp
  subst h2 h3
  by_cases e1 : V.name = []
  · cases ht : V.text <;> cases t0
    · by_cases e2 : V.str = []
      · exact Or.inr (Or.inr (Or.inr (Or.inr (Or.inr (Or.inr (Or.inr ⟨hn.2 e1, rfl, rfl, hs.2 e2, by simp [valT0, valB, e1, e2, ht]⟩))))))
      · exact Or.inr (Or.inr (Or.inr (Or.inr (Or.inr (Or.inr (Or.inl ⟨hn.2 e1, rfl, rfl, fun h => e2 (hs.1 h), by simp [valT0, valB, e1, e2, ht]⟩))))))
    · exact Or.inr (Or.inr (Or.inl ⟨hn.2 e1, rfl, rfl, by simp [valT0, ht]⟩))
    · exact Or.inr (Or.inl ⟨hn.2 e1, rfl, rfl, by simp [valT0, ht]⟩)
    · by_cases e2 : V.num = 0
      · cases hq : pl
        · exact Or.inr (Or.inr (Or.inr (Or.inr (Or.inl ⟨hn.2 e1, rfl, rfl, e2, rfl, by rw [hq] at hp; simp [valT0, valB, e1, e2, ht, hp]⟩))))
        · exact Or.inr (Or.inr (Or.inr (Or.inr (Or.inr (Or.inl ⟨hn.2 e1, rfl, rfl, e2, rfl, by rw [hq] at hp; simp [valT0, valB, e1, e2, ht, hp]⟩)))))
      · exact Or.inr (Or.inr (Or.inr (Or.inl ⟨hn.2 e1, rfl, rfl, e2, by simp [valT0, valB, e1, e2, ht]⟩)))
  · exact Or.inl ⟨fun h => e1 (hn.1 h), by simp [valT0, valB, e1]⟩
/-- What is asked of a filter without parts, behind the values. -/
def tailB (k : Int) (o : List UInt8) (vs : List Att) : Bool := if k = 6 then o == [] else if k = 5 then decide (vs.length = 1) && firstText vs && o == [] else decide (vs.length = 1) && opB o
theorem leafB_eq {k : Int} (n o : List UInt8) (v : Att) (r : List Att) (lp : Nat) : (leafB k n o (v :: r) && decide (lp = 0)) = (nameB n && decide (lp = 0) && decide ((v :: r).length ≤ 20) && (v :: r).all (valT0 v.text) && tailB k o (v :: r)) := by
  have e1 : decide ((v :: r).length ≤ 20) = decide (r.length < 20) := decide_eq_decide.2 (by simp only [List.length_cons]; omega)
  have e2 : (v :: r).all (valT0 v.text) = (valB v && r.all fun u => valB u && u.text == v.text) := by
    simp only [List.all_cons, valT0, beq_self_eq_true, Bool.and_true]
    rfl
  have e3 : decide ((v :: r).length = 1) = r.isEmpty := by cases r <;> simp
  rw [leafB, tailB, e1, e2, e3, firstText]
  by_cases h6 : k = 6
  · simp only [h6, if_true]
    cases nameB n <;> cases decide (lp = 0) <;> cases decide (r.length < 20) <;> cases valB v <;> cases (r.all fun u => valB u && u.text == v.text) <;> simp
  · by_cases h5 : k = 5
    · simp only [h5, if_true]
      cases nameB n <;> cases decide (lp = 0) <;> cases decide (r.length < 20) <;> cases valB v <;> cases (r.all fun u => valB u && u.text == v.text) <;> simp
    · rw [if_neg h6, if_neg h5]
      cases nameB n <;> cases decide (lp = 0) <;> cases decide (r.length < 20) <;> cases valB v <;> cases (r.all fun u => valB u && u.text == v.text) <;> simp
theorem beq_bytes' (s r : ByteArray) : (s.toList == r.toList) = decide (s = r) := by
  by_cases h : s = r
  · rw [decide_eq_true h, h]; simp
  · rw [decide_eq_false h, beq_eq_false_iff_ne]
    intro e
    rw [Lib.toList_data, Lib.toList_data] at e
    exact h (by obtain ⟨⟨a⟩⟩ := s; obtain ⟨⟨b⟩⟩ := r; simpa using e)
theorem ne_bytes' {s : ByteArray} (h : ¬ s = ⟨#[]⟩) : ¬ s.toList = [] := by
  have := beq_bytes' s ⟨#[]⟩
  rw [decide_eq_false h, beq_eq_false_iff_ne, Lib.toList_data ⟨#[]⟩] at this
  exact this
end Go.Proofs.YtjffnjiggcfhcaaDoor.Fl
/-
  Contract of the document's answer fine: may a filter be, but for its depth, and its nodes? Memory that was there is left as it was.
-/
namespace Go.Proofs.YtjffnjiggcfhcaaDoor.Fl
open Go.RowKit Go.Proofs.YtjffnjiggcfhcaaDoor.Tk
set_option linter.unusedVariables false
set_option linter.unusedSimpArgs false

def partP (k : Int) (q : Flt) : Bool := fine q && (decide (k = 3) || !decide (q.kind = k))
def FnR (k : Int) (ps : List Flt) (w : World) (vi : Value) (wr : World) : Prop :=
  ∃ j : Nat, j ≤ ps.length ∧ vi = .int .i64 j ∧ Hid (∀ q ∈ ps.take j, partP k q = true) ∧ Below w.heap.size w wr
theorem take_more_flt {ps : List Flt} {j : Nat} {q : Flt} {p : Flt → Bool} (h : ∀ v ∈ ps.take j, p v = true) (hk : ps[j]? = some q) (hv : p q = true) : ∀ v ∈ ps.take (j + 1), p v = true := by
  rw [List.take_add_one, hk]
  intro u hu
  rcases List.mem_append.1 hu with hu | hu
  · exact h u hu
  · simp at hu
    rw [hu]
    exact hv
end Go.Proofs.YtjffnjiggcfhcaaDoor.Fl
namespace Go.Proofs.YtjffnjiggcfhcaaDoor.Fl
open Go.RowKit Go.Proofs.YtjffnjiggcfhcaaDoor.Tk
set_option linter.unusedVariables false
set_option linter.unusedSimpArgs false

mutual
theorem dep_sz : ∀ f : Flt, dep f ≤ sz f
  | .mk _ _ _ _ l => by have := depL_szL l; rw [dep, sz]; omega
theorem depL_szL : ∀ l : List Flt, depL l ≤ szL l
  | [] => by rw [depL, szL]; omega
  | p :: r => by have := dep_sz p; have := depL_szL r; rw [depL, szL]; omega
end
def DpR (ps : List Flt) (w : World) (vn vi : Value) (wr : World) : Prop :=
  ∃ j : Nat, j ≤ ps.length ∧ vi = .int .i64 j ∧ vn = .int .i64 (depL (ps.take j) : Nat) ∧ Below w.heap.size w wr
def NdR (ps : List Flt) (w : World) (vn vi : Value) (wr : World) : Prop :=
  ∃ j : Nat, j ≤ ps.length ∧ vi = .int .i64 j ∧ vn = .int .i64 (1 + szL (ps.take j) : Nat) ∧ Below w.heap.size w wr
theorem depL_step {j : Nat} {ps : List Flt} {q : Flt} (hq : ps[j]? = some q) : depL (ps.take (j + 1)) = max (depL (ps.take j)) (dep q) := by
  rw [List.take_add_one, hq, depL_app]
  simp [depL]
theorem szL_take : ∀ (ps : List Flt) (j : Nat), szL (ps.take j) ≤ szL ps
  | [], j => by simp
  | p :: r, 0 => by simp [szL]
  | p :: r, j + 1 => by have := szL_take r j; rw [List.take_succ_cons, szL, szL]; omega
theorem depL_take (ps : List Flt) (j : Nat) : depL (ps.take j) ≤ szL ps := Nat.le_trans (depL_szL _) (szL_take ps j)
theorem szL_one {ps : List Flt} {q : Flt} {j : Nat} (h : ps[j]? = some q) : sz q ≤ szL ps := sz_mem (List.mem_of_getElem? h)
end Go.Proofs.YtjffnjiggcfhcaaDoor.Fl
