/-
  Contracts of and, or of package filter's reader. Memory that was there is left as it was, but for what the reader has left.
-/
import Derived.Test.YtjffnjiggcfhcaaGreatDoorMt11
import Derived.Great.BuildSlice
import Derived.Deep.AppendLies
/-
  Contract of parts of package filter's reader; plain facts on chains as the code goes along them.
-/
namespace Go.Proofs.YtjffnjiggcfhcaaGreatDoor.Fl
open Go.RowKit Go.Proofs.YtjffnjiggcfhcaaGreatDoor.Tk
set_option linter.unusedVariables false
set_option linter.unusedSimpArgs false

set_option maxHeartbeats 1000000 in
theorem parts_any (k : Int) (f : Flt) (a : Option Addr) (c : Nat) (b : Option Addr) (d : Nat) (z : Nat) (q : Nat → Prop) (w : World) (h : OwnF w z q f a c b d) (hz : z ≤ w.heap.size) (hq : ∀ g, w.heap.size ≤ g → ¬ q g) :
    Calls Tryz.prog 62 #[.int .i64 k, .agg #[.int .i64 f.kind, bs f.name, bs f.op, .slice a f.vals.length c, .slice b f.parts.length d]] w fun e w' =>
      Below w.heap.size w w' ∧ ∃ b' d', e = .returned (.slice b' (partsOf k f).length d') ∧ OwnL w' z q (.slice b' (partsOf k f).length d') (partsOf k f) ∧
        (∀ g, (Value.slice b' (partsOf k f).length d').ownBlock = some g → (Value.slice b f.parts.length d).ownBlock = some g ∨ w.heap.size ≤ g) := by
  obtain ⟨sn, esn, hsn⟩ := bs_bytes f.name
  obtain ⟨so, eso, hso⟩ := bs_bytes f.op
  have HC := Lib.hid (show fltC f a c b d = [.int .i64 f.kind, .string sn, .string so, .slice a f.vals.length c, .slice b f.parts.length d] by unfold fltC; rw [esn, eso])
  have H := Lib.hid h
  have HQ := Lib.hid hq
  obtain ⟨n1, hn1⟩ : ∃ x, x = f.vals.length := ⟨_, rfl⟩
  obtain ⟨n2, hn2⟩ : ∃ x, x = f.parts.length := ⟨_, rfl⟩
  have HN := Lib.hid (And.intro hn1 hn2)
  rw [esn, eso, ← hn1, ← hn2]
  rw [← hn1, ← hn2] at HC
  obtain ⟨fk, hfk⟩ : ∃ x, x = f.kind := ⟨_, rfl⟩
  have HK := Lib.hid hfk
  rw [← hfk]
  rw [← hfk] at HC
  clear h hq esn eso hsn hso hn1 hn2 hfk
  by_cases hk : fk = k
  · have HP := Lib.hid (show partsOf k f = f.parts from if_pos (HK.out.symm.trans hk))
    go_enter Tryz.func62, Tryz.ntmps62
    go_wp2_with fail
    go_ret
    refine ⟨(Below.refl _ _).alloc (Nat.le_refl _) _, b, d, by rw [HP.out, ← HN.out.2]; rfl, ?_, fun g hg => ?_⟩
    · rw [HP.out]
      exact (H.out.later ((Below.refl _ _).alloc (Nat.le_refl _) _)).2.2
    · rw [HP.out, ← HN.out.2] at hg
      exact Or.inl hg
  · have HP := Lib.hid (show partsOf k f = [f] from if_neg (fun e => hk (HK.out.trans e)))
    go_enter Tryz.func62, Tryz.ntmps62
    go_wp2_with fail
    go_ret
    have ho := own_one (c := c) (d := d) (H.out.later ((Below.refl _ _).alloc (Nat.le_refl _) (.cells #[.int .i64 fk, .string sn, .string so, .slice a n1 c, .slice b n2 d] 25))).flt (by simp; omega) (HQ.out _ (by simp))
    rw [HC.out] at ho
    rw [HP.out]
    refine ⟨((Below.refl _ _).alloc (Nat.le_refl _) _).alloc (by simp) _, some ⟨w.heap.size + 1, 0, none⟩, 1, rfl, ?_, fun g hg => ?_⟩
    · have e : (w.alloc (.cells #[.int .i64 fk, .string sn, .string so, .slice a n1 c, .slice b n2 d] 25)).heap.size = w.heap.size + 1 := by simp
      rw [e] at ho
      exact ho
    · simp [Value.ownBlock] at hg
      right
      omega
/-! ### Chains as the code goes along them -/
theorem partsOf_szL (k : Int) (f : Flt) : szL (partsOf k f) ≤ sz f := by
  unfold partsOf
  cases f with
  | mk kk n o vs l =>
    split
    · simp only [sz, Flt.parts]; omega
    · simp [szL]
theorem len_szL : ∀ l : List Flt, l.length ≤ szL l
  | [] => Nat.le_refl _
  | p :: l => by have := len_szL l; have := sz_pos p; simp only [List.length_cons, szL]; omega
def wrapC (k : Int) (f : Flt) : Flt := .mk k [] [] [] (partsOf k f)
def joinC (k : Int) (f y : Flt) : Flt := .mk k [] [] [] (partsOf k f ++ partsOf k y)
theorem add_wrap (k : Int) (f y : Flt) : add (wrapC k f) y = joinC k f y := by
  unfold add wrapC joinC
  show (if y.kind = k then _ else _) = _
  by_cases h : y.kind = k
  · rw [if_pos h]
    show Flt.mk k [] [] [] (partsOf k f ++ y.parts) = _
    rw [show partsOf k y = y.parts from if_pos h]
  · rw [if_neg h]
    show Flt.mk k [] [] [] (partsOf k f ++ [y]) = _
    rw [show partsOf k y = [y] from if_neg h]
theorem wrap_join (k : Int) (f y : Flt) : wrapC k (joinC k f y) = joinC k f y := by
  unfold wrapC
  rw [show partsOf k (joinC k f y) = (joinC k f y).parts from if_pos rfl]
  rfl
theorem wrap_one (k : Int) (f : Flt) : add (.mk k [] [] [] []) f = wrapC k f := by
  unfold add wrapC partsOf
  show (if f.kind = k then _ else _) = _
  by_cases h : f.kind = k
  · rw [if_pos h, if_pos h]; rfl
  · rw [if_neg h, if_neg h]; rfl
/-- f was read; a word may follow. -/
def nextC (w : List UInt8) (k : Int) (sub : List Tc → Option (Flt × List Tc)) (f : Flt) (ts : List Tc) : Option (Flt × List Tc) :=
  match takes w ts with
  | none => some (f, ts)
  | some _ => tailP w sub (ts.length + 1) (wrapC k f) ts
theorem chain_next (w : List UInt8) (k : Int) (sub : List Tc → Option (Flt × List Tc)) (ts : List Tc) : chainP w k sub ts = match sub ts with | none => none | some (x, r) => nextC w k sub x r := by
  rw [chainP]
  cases h : sub ts with
  | none => rfl
  | some x =>
    obtain ⟨x, r⟩ := x
    simp only [nextC, wrap_one]
    cases takes w r <;> rfl
theorem next_none {w : List UInt8} {k : Int} {sub : List Tc → Option (Flt × List Tc)} {f : Flt} {ts : List Tc} (h : takes w ts = none) : nextC w k sub f ts = some (f, ts) := by
  rw [nextC, h]
theorem next_bad {w : List UInt8} {k : Int} {sub : List Tc → Option (Flt × List Tc)} {f : Flt} {ts r : List Tc} (h : takes w ts = some r) (hs : sub r = none) : nextC w k sub f ts = none := by
  rw [nextC, h]
  simp only
  rw [tailP, h]
  simp only [hs]
theorem next_more {w : List UInt8} {k : Int} {sub : List Tc → Option (Flt × List Tc)} (hsub : Con sub) {f y : Flt} {ts r r2 : List Tc} (h : takes w ts = some r) (hs : sub r = some (y, r2)) : nextC w k sub f ts = nextC w k sub (joinC k f y) r2 := by
  have l1 := (takes_left h).2
  have l2 := (hsub _ _ _ hs).2
  have l3 := sz_pos y
  rw [nextC, h]
  simp only
  rw [tailP, h]
  simp only [hs]
  rw [add_wrap, nextC]
  cases h2 : takes w r2 with
  | none =>
    obtain ⟨m, hm⟩ : ∃ m, ts.length = m + 1 := ⟨ts.length - 1, by omega⟩
    rw [hm, tailP, h2]
  | some r3 =>
    simp only
    rw [wrap_join]
    exact tail_fuel hsub _ _ _ _ (by omega) (by omega)
end Go.Proofs.YtjffnjiggcfhcaaGreatDoor.Fl
/-
  Contract of joined of package filter's reader. Memory that was there is left as it was, but for what the reader has left.
-/
namespace Go.Proofs.YtjffnjiggcfhcaaGreatDoor.Fl
open Go.RowKit Go.Proofs.YtjffnjiggcfhcaaGreatDoor.Tk
set_option linter.unusedVariables false
set_option linter.unusedSimpArgs false

theorem infoFlt : (Tryz.prog.info? 25).map (fun i => (i.zero, i.size, i.bytes)) = some (some (.agg #[.int .i64 0, .string ⟨#[]⟩, .string ⟨#[]⟩, .slice none 0 0, .slice none 0 0]), 5, 88) := by kernel_rfl
theorem own_row {W : World} {z q : Nat} {f : Flt} {a : Option Addr} {c : Nat} {b : Option Addr} {d : Nat} (h : OwnF W z noX f a c b d) (hq : q < z) (cs : Array Value) : OwnF (W.setRow q cs) q noX f a c b d :=
  (h.keep (by simp) (fun g h1 h2 _ => setRow_other W q g cs (by omega))).weaken (by omega) (fun g _ _ h => h)
/-- A part of a kind that joins has parts itself. -/
def PN (k : Int) (f : Flt) : Prop := f.kind = k → f.parts ≠ []
theorem partsOf_pos {k : Int} {f : Flt} (h : PN k f) : 0 < (partsOf k f).length := by
  unfold partsOf
  split
  · rename_i hk
    exact List.length_pos_iff.2 (h hk)
  · simp
/-- So far f was read; it lies in block q. -/
def JnR (w w1 : World) (p z q : Nat) (k : Int) (s : List UInt8) (sub : List Tc → Option (Flt × List Tc)) (ts0 : List Tok) (wr : World) : Prop :=
  ∃ (f : Flt) (ts : List Tok) (a : Option Addr) (c : Nat) (b : Option Addr) (d : Nat), Hid (chainP s k sub (ts0.map core) = nextC s k sub f (ts.map core)) ∧ RdAt wr p z ts ∧ w.grownBy wr (some p) ∧ (∀ t ∈ ts, t ∈ ts0) ∧ sz f + ts.length ≤ ts0.length ∧
    Rw wr q #[.int .i64 f.kind, bs f.name, bs f.op, .slice a f.vals.length c, .slice b f.parts.length d] ∧ Rw wr w.heap.size #[.int .i64 0, .string ⟨#[]⟩, .string ⟨#[]⟩, .slice none 0 0, .slice none 0 0] ∧ OwnF wr w1.heap.size (fun g => g = q) f a c b d
set_option maxHeartbeats 8000000 in
set_option maxRecDepth 100000 in
theorem joined_any (N : Nat) (hfn : ∀ (xs : Array Value) (W : World), Sem.run Tryz.prog (callFunc N xs) W = .ok (.enter N xs) W) (k : Int) (s : ByteArray) (hkd : ∀ t, TG t → ((t.kind = 2 ∨ t.kind = 5) ∧ t.str = s.data.toList ↔ t.kind = 2 ∧ t.str = s.data.toList)) (hk64 : -9223372036854775808 ≤ k ∧ k ≤ 9223372036854775807)
    (sub : List Tc → Option (Flt × List Tc)) (hcon : Con sub) (hpn : ∀ l x r, sub l = some (x, r) → PN k x) (p z : Nat) (hz : z ≤ p) (n : Nat)
    (hsub : ∀ ts : List Tok, (∀ t ∈ ts, TG t) → ts.length ≤ 600 → ts.length < n → ∀ W, RdAt W p z ts → Calls Tryz.prog N #[.pointer (some ⟨p, 0, none⟩)] W fun e w' => RdEnd (sub (ts.map core)) ts p z W w' e)
    (ts : List Tok) (hg : ∀ t ∈ ts, TG t) (hl : ts.length ≤ 600) (hn : ts.length < n) (w : World) (hR : RdAt w p z ts) :
    Calls Tryz.prog 39 #[.pointer (some ⟨p, 0, none⟩), .int .i64 k, .string s, .func (.func N) #[.pointer (some ⟨p, 0, none⟩)] #[]] w fun e w' => RdEnd (chainP s.data.toList k sub (ts.map core)) ts p z w w' e := by
  have hp : p < w.heap.size := hR.lt
  have hpne : ¬ w.heap.size = p := by omega
  obtain ⟨w1, hw1⟩ : ∃ v, v = w.alloc (.cells #[.int .i64 0, .string ⟨#[]⟩, .string ⟨#[]⟩, .slice none 0 0, .slice none 0 0] 25) := ⟨_, rfl⟩
  have HW := Lib.hid hw1
  have HW1 := Lib.hid (show w1.heap.size = w.heap.size + 1 by rw [hw1]; simp)
  have G1 := Lib.hid (show w.grownBy w1 (some p) by rw [hw1]; exact gr_alloc (gr_refl _ _) _)
  have X1 := Lib.hid (show Rw w1 w.heap.size #[.int .i64 0, .string ⟨#[]⟩, .string ⟨#[]⟩, .slice none 0 0, .slice none 0 0] by rw [hw1]; exact Rw.new ..)
  have CN := Lib.hid (hsub ts hg hl hn w1 (by rw [hw1]; exact hR.alloc hz _))
  have HCH := Lib.hid (chain_next s.data.toList k sub (ts.map core))
  have HCON := Lib.hid hcon
  have HPN := Lib.hid hpn
  have HKD := Lib.hid hkd
  have HSUB := Lib.hid hsub
  have HG := Lib.hid hg
  have HLN := Lib.hid (And.intro hl hn)
  have HK64 := Lib.hid hk64
  have HP := Lib.hid hp
  obtain ⟨i0, hi, hz0, hz1, hz2⟩ := info_cut' infoFlt
  clear hw1 hR hg hl hn hcon hpn hkd hsub hk64
  go_enter Tryz.func39, Tryz.ntmps39
  go_wp2_with fail
  rw [← HW.out]
  refine Calls.mono CN.out ?_
  rintro e w2 ⟨hg2, ⟨hn, k0, s0, o0, a0, n0, c0, b0, m0, d0, rfl⟩ | ⟨f, r, a, c, b, d, hy, rfl, hr2, hm2, ho2⟩⟩
  · have G2 := Lib.hid (G1.out.trans hg2)
    have HN := Lib.hid (show chainP s.data.toList k sub (ts.map core) = none by rw [HCH.out, hn])
    have X2 := Lib.hid (X1.out.gr hg2 hpne)
    clear hg2 hn
    go_wp2_with (skip; (refine wpList_store_rowTo rfl _ _ _ rfl rfl w.heap.size _ rfl rfl _ #[.int .i64 0, .string ⟨#[]⟩, .string ⟨#[]⟩, .slice none 0 0, .slice none 0 0] (by first | exact X2.out | exact Rw.alloc X2.out _ | exact Rw.alloc2 X2.out _ _ | exact Rw.alloc3 X2.out _ _ _) (by kernel_rfl) rfl (by simp [Value.oneCell']) ?_))
    refine ret5 Tryz.results39 rfl rfl ((X2.out.alloc _).set _).box rfl ?_
    exact ⟨gr_row (gr_alloc G2.out _) (Nat.le_refl _) _, Or.inl ⟨HN.out, _, _, _, _, _, _, _, _, _, rfl⟩⟩
  · obtain ⟨w3, hw3⟩ : ∃ v, v = w2.alloc (.cells #[.int .i64 f.kind, bs f.name, bs f.op, .slice a f.vals.length c, .slice b f.parts.length d] 25) := ⟨_, rfl⟩
    have HW3 := Lib.hid hw3
    have HQ := Lib.hid (show w1.heap.size ≤ w2.heap.size from hg2.size)
    have hqw : ¬ w2.heap.size = w.heap.size := by have := HW1.out; have := HQ.out; omega
    have hqp : ¬ w2.heap.size = p := by have := HW1.out; have := HQ.out; omega
    have HST := Lib.hid (show JnR w w1 p z w2.heap.size k s.data.toList sub ts w3 from ⟨f, r, a, c, b, d, Lib.hid (by rw [HCH.out, hy]), by rw [hw3]; exact hr2.alloc hz _, by rw [hw3]; exact gr_alloc (G1.out.trans hg2) _, hm2, by have := (HCON.out _ _ _ hy).2; simpa using this, by rw [hw3]; exact Rw.new .., by rw [hw3]; exact (X1.out.gr hg2 hpne).alloc _, by rw [hw3]; exact (ho2.weaken (Nat.le_refl _) (fun g _ h _ e => by omega)).later ((Below.refl _ _).alloc (Nat.le_refl _) _)⟩)
    obtain ⟨sn, esn, _⟩ := bs_bytes f.name
    obtain ⟨so, eso, _⟩ := bs_bytes f.op
    obtain ⟨fk, hfk⟩ : ∃ x, x = f.kind := ⟨_, rfl⟩
    obtain ⟨n1, hn1⟩ : ∃ x, x = f.vals.length := ⟨_, rfl⟩
    obtain ⟨n2, hn2⟩ : ∃ x, x = f.parts.length := ⟨_, rfl⟩
    rw [esn, eso, ← hfk, ← hn1, ← hn2] at HW3 ⊢
    clear hw3 hg2 hy hr2 hm2 ho2 esn eso hfk hn1 hn2
    go_wp2_with fail
    rw [← HW3.out]
    go_loopw [] (fun wr => JnR w w1 p z w2.heap.size k s.data.toList sub ts wr) (fun wr => lenAt wr p)
    case atStart => exact HST.out
    case round =>
      obtain ⟨f, us, a, c, b, d, hch, hr, hgr, hmem, hlen, hrow, hrow0, hown⟩ := hrel
      have HLE := Lib.hid hr.len
      have HLEN := Lib.hid hlen
      have HMEM := Lib.hid hmem
      have HGR := Lib.hid hgr
      have HOWN := Lib.hid hown
      have HU600 := Lib.hid (show us.length ≤ 600 ∧ us.length < n from by have := HLN.out; omega)
      have CT := Lib.hid (take_any s 2 HKD.out us (fun t ht => HG.out t (hmem t ht)) HU600.out.1 p z hz wr hr)
      have X0 := Lib.hid hrow0
      have HR := Lib.hid hr
      have HFS := Lib.hid (show f.vals.length ≤ maxLen from hown.2.1.1)
      obtain ⟨sn, esn, _⟩ := bs_bytes f.name
      obtain ⟨so, eso, _⟩ := bs_bytes f.op
      obtain ⟨fk, hfk⟩ : ∃ x, x = f.kind := ⟨_, rfl⟩
      obtain ⟨n1, hn1⟩ : ∃ x, x = f.vals.length := ⟨_, rfl⟩
      obtain ⟨n2, hn2⟩ : ∃ x, x = f.parts.length := ⟨_, rfl⟩
      have HFV := Lib.hid (And.intro hfk (And.intro esn (And.intro eso (And.intro hn1 hn2))))
      rw [esn, eso, ← hfk, ← hn1, ← hn2] at hrow
      have XQ := Lib.hid hrow
      have hqlt : w2.heap.size < wr.heap.size := hrow.lt
      have PF := Lib.hid (fun W (h : OwnF W w1.heap.size (fun g => g = w2.heap.size) f a c b d) h1 h2 => parts_any k f a c b d w1.heap.size (fun g => g = w2.heap.size) W h h1 h2)
      rw [esn, eso, ← hfk, ← hn1, ← hn2] at PF
      clear hr hgr hmem hlen hrow0 hown esn eso hfk hn1 hn2
      obtain ⟨q0, q1, q2, q3, q4⟩ := hrow.box
      clear hrow
      go_wp2_with fail
      refine Calls.mono CT.out ?_
      rintro e wa (⟨hn, rfl, rfl⟩ | ⟨t1, r1, hr1, hy, rfl, hga, hra⟩)
      · have HN := Lib.hid (show chainP s.data.toList k sub (ts.map core) = some (f, us.map core) by rw [hch.out]; exact next_none hn)
        clear hn
        go_wp2_with (skip; (refine wpList_store_rowTo rfl _ _ _ rfl rfl w.heap.size _ rfl rfl _ #[.int .i64 0, .string ⟨#[]⟩, .string ⟨#[]⟩, .slice none 0 0, .slice none 0 0] (by first | exact X0.out | exact Rw.alloc X0.out _ | exact Rw.alloc2 X0.out _ _ | exact Rw.alloc3 X0.out _ _ _) (by kernel_rfl) rfl (by simp [Value.oneCell']) ?_))
        refine ret5 Tryz.results39 rfl rfl (X0.out.set _).box rfl ?_
        exact ⟨gr_row HGR.out (Nat.le_refl _) _, Or.inr ⟨f, us, a, c, b, d, HN.out, by rw [HFV.out.2.1, HFV.out.2.2.1, ← HFV.out.1, ← HFV.out.2.2.2.1, ← HFV.out.2.2.2.2]; rfl, rd_row HR.out (fun e => hpne e) (by omega) _, HMEM.out, own_row (HOWN.out.weaken (Nat.le_refl _) (fun g _ _ _ h => h)) (by have := HW1.out; omega) _⟩⟩
      · have HTK := Lib.hid (show takes s.data.toList (us.map core) = some (r1.map core) from hy)
        have HM1 := Lib.hid (show ∀ x ∈ r1, x ∈ ts from fun x hx => HMEM.out x (by rw [hr1]; exact List.mem_cons_of_mem _ hx))
        have HL1 := Lib.hid (show r1.length + 1 = us.length by rw [hr1]; rfl)
        have XA := Lib.hid (XQ.out.gr hga hqp)
        have X0A := Lib.hid (X0.out.gr hga hpne)
        have GA := Lib.hid (HGR.out.trans hga)
        have OA := Lib.hid (HOWN.out.gr hga (by have := HW1.out; omega))
        have CS := Lib.hid (HSUB.out r1 (fun x hx => HG.out x (HM1.out x hx)) (by have := HL1.out; have := HU600.out; omega) (by have := HL1.out; have := HU600.out; omega) wa hra)
        have hqa : w2.heap.size < wa.heap.size := XA.out.lt
        have HWA := Lib.hid (show w1.heap.size ≤ wa.heap.size by have := HQ.out; omega)
        clear hr1 hy hga hra q0 q1 q2 q3 q4
        go_wp2_with fail
        refine Calls.mono CS.out ?_
        rintro e wb ⟨hgb, ⟨hn, k0, s0, o0, a0, m0, c0, b0, l0, d0, rfl⟩ | ⟨y, r, a', c', b', d', hy, rfl, hrb, hmb, hob⟩⟩
        · have HN := Lib.hid (show chainP s.data.toList k sub (ts.map core) = none by rw [hch.out]; exact next_bad HTK.out hn)
          have X0B := Lib.hid (X0A.out.gr hgb hpne)
          have GB := Lib.hid (GA.out.trans hgb)
          clear hgb hn
          go_wp2_with (skip; (refine wpList_store_rowTo rfl _ _ _ rfl rfl w.heap.size _ rfl rfl _ #[.int .i64 0, .string ⟨#[]⟩, .string ⟨#[]⟩, .slice none 0 0, .slice none 0 0] (by first | exact X0B.out | exact Rw.alloc X0B.out _ | exact Rw.alloc2 X0B.out _ _ | exact Rw.alloc3 X0B.out _ _ _) (by kernel_rfl) rfl (by simp [Value.oneCell']) ?_))
          refine ret5 Tryz.results39 rfl rfl ((X0B.out.alloc _).set _).box rfl ?_
          exact ⟨gr_row (gr_alloc GB.out _) (Nat.le_refl _) _, Or.inl ⟨HN.out, _, _, _, _, _, _, _, _, _, rfl⟩⟩
        · have XB := Lib.hid (XA.out.gr hgb hqp)
          have X0B := Lib.hid (X0A.out.gr hgb hpne)
          have GB := Lib.hid (GA.out.trans hgb)
          have OB := Lib.hid (OA.out.gr hgb (by have := HW1.out; omega))
          have OA2 := Lib.hid OA.out
          have HRB := Lib.hid hrb
          have OYB := Lib.hid hob
          have HMB := Lib.hid (show ∀ x ∈ r, x ∈ ts from fun x hx => HM1.out x (hmb x hx))
          have HNX := Lib.hid (show chainP s.data.toList k sub (ts.map core) = nextC s.data.toList k sub (joinC k f y) (r.map core) by rw [hch.out]; exact next_more HCON.out HTK.out hy)
          have HSZ := Lib.hid (show sz y + r.length ≤ r1.length by have := (HCON.out _ _ _ hy).2; simpa using this)
          have HPY := Lib.hid (partsOf_pos (HPN.out _ _ _ hy))
          have hba : wa.heap.size ≤ wb.heap.size := hgb.size
          obtain ⟨yn, eyn, _⟩ := bs_bytes y.name
          obtain ⟨ys, eys, _⟩ := bs_bytes y.op
          obtain ⟨yk, hyk⟩ : ∃ x, x = y.kind := ⟨_, rfl⟩
          obtain ⟨m1, hm1⟩ : ∃ x, x = y.vals.length := ⟨_, rfl⟩
          obtain ⟨m2, hm2⟩ : ∃ x, x = y.parts.length := ⟨_, rfl⟩
          have PY := Lib.hid (fun W q2 (h : OwnF W wa.heap.size q2 y a' c' b' d') h1 h2 => parts_any k y a' c' b' d' wa.heap.size q2 W h h1 h2)
          rw [eyn, eys, ← hyk, ← hm1, ← hm2] at PY ⊢
          clear hgb hy hrb hmb hob eyn eys hyk hm1 hm2
          obtain ⟨wc, hwc⟩ : ∃ v, v = wb.alloc (.cells #[.int .i64 yk, .string yn, .string ys, .slice a' m1 c', .slice b' m2 d'] 25) := ⟨_, rfl⟩
          have HWC := Lib.hid hwc
          have HCS := Lib.hid (show wc.heap.size = wb.heap.size + 1 by rw [hwc]; simp)
          have XC := Lib.hid (show Rw wc.drew w2.heap.size #[.int .i64 fk, .string sn, .string so, .slice a n1 c, .slice b n2 d] by rw [hwc]; exact (XB.out.alloc _).same rfl)
          have YC := Lib.hid (show Rw wc.drew wb.heap.size #[.int .i64 yk, .string yn, .string ys, .slice a' m1 c', .slice b' m2 d'] by rw [hwc]; exact (Rw.new wb _).same rfl)
          have X0C := Lib.hid (show Rw wc.drew w.heap.size #[.int .i64 0, .string ⟨#[]⟩, .string ⟨#[]⟩, .slice none 0 0, .slice none 0 0] by rw [hwc]; exact (X0B.out.alloc _).same rfl)
          have GC := Lib.hid (show w.grownBy wc.drew (some p) by rw [hwc]; exact gr_drew (gr_alloc GB.out _))
          have RC := Lib.hid (show RdAt wc.drew p z r by rw [hwc]; exact (HRB.out.alloc hz _).keep rfl fun _ _ => rfl)
          have OC := Lib.hid (show OwnF wc.drew w1.heap.size (fun g => g = w2.heap.size) f a c b d by rw [hwc]; exact (OB.out.later ((Below.refl _ _).alloc (Nat.le_refl _) _)).keep (Nat.le_refl _) fun _ _ _ _ => rfl)
          have HBC := Lib.hid (show Below wb.heap.size wb wc.drew by rw [hwc]; exact ((Below.refl _ _).alloc (Nat.le_refl _) _).drew)
          have hcb : wc.drew.heap.size = wb.heap.size + 1 := HCS.out
          have hbq : ¬ wb.heap.size = w2.heap.size := by omega
          have hwa : w1.heap.size ≤ wa.heap.size := HWA.out
          have hq12 : w1.heap.size ≤ w2.heap.size := HQ.out
          have hw1l : w.heap.size < w1.heap.size := by have := HW1.out; omega
          clear hwc
          have HS : Hid (∀ W, Rw W wb.heap.size #[.int .i64 yk, .string yn, .string ys, .slice a' m1 c', .slice b' m2 d'] → (∃ cs, Rw W w2.heap.size cs) → W.cell? ⟨wb.heap.size, 0, none⟩ = some (.int .i64 yk) ∧ W.cell? ⟨wb.heap.size, 1, none⟩ = some (.string yn) ∧ W.cell? ⟨wb.heap.size, 2, none⟩ = some (.string ys) ∧ W.cell? ⟨wb.heap.size, 3, none⟩ = some (.slice a' m1 c') ∧ W.cell? ⟨wb.heap.size, 4, none⟩ = some (.slice b' m2 d') ∧ Rw W wb.heap.size #[.int .i64 yk, .string yn, .string ys, .slice a' m1 c', .slice b' m2 d'] ∧ ∃ cs, Rw W w2.heap.size cs) := Lib.hid (fun W h1 h2 => ⟨h1.box.1, h1.box.2.1, h1.box.2.2.1, h1.box.2.2.2.1, h1.box.2.2.2.2, h1, h2⟩)
          go_wp2_with fail
          rw [← HWC.out]
          refine wp_region_held_drew (S := (fun W => W.cell? ⟨wb.heap.size, 0, none⟩ = some (.int .i64 yk) ∧ W.cell? ⟨wb.heap.size, 1, none⟩ = some (.string yn) ∧ W.cell? ⟨wb.heap.size, 2, none⟩ = some (.string ys) ∧ W.cell? ⟨wb.heap.size, 3, none⟩ = some (.slice a' m1 c') ∧ W.cell? ⟨wb.heap.size, 4, none⟩ = some (.slice b' m2 d') ∧ Rw W wb.heap.size #[.int .i64 yk, .string yn, .string ys, .slice a' m1 c', .slice b' m2 d'] ∧ ∃ cs, Rw W w2.heap.size cs)) (by kernel_rfl) (HS.out _ YC.out ⟨_, XC.out⟩) (fun hHeld => ?_)
          refine wpAnyH_take (i := 0) (v := ?v0) rfl (by kernel_rfl) (by kernel_rfl) (by kernel_rfl) (fun _ _ _ h => h) (Or.inl ⟨by rfl, ?y0⟩) hHeld ?r0
          case y0 => (intro W hSw; simp only [List.getElem_toArray, List.getElem_cons_zero]; go_simp; try (with_reducible rfl))
          simp only [List.getElem_toArray, List.getElem_cons_zero, Act.put, List.setIfInBounds_toArray, List.set_cons_zero, List.set_cons_succ]
          refine wpAnyH_take (i := 1) (v := ?v1) rfl (by kernel_rfl) (by kernel_rfl) (by kernel_rfl) (fun _ _ _ h => h) (Or.inl ⟨by rfl, ?y1⟩) hHeld ?r1
          case y1 => (intro W hSw; simp only [List.getElem_toArray, List.getElem_cons_succ, List.getElem_cons_zero]; go_simp; try (with_reducible rfl))
          simp only [List.getElem_toArray, List.getElem_cons_succ, List.getElem_cons_zero, Act.put, List.setIfInBounds_toArray, List.set_cons_zero, List.set_cons_succ]
          refine wpAnyH_take (i := 4) (v := ?v4) rfl (by kernel_rfl) (by kernel_rfl) (by kernel_rfl) (fun _ _ _ h => h) (Or.inl ⟨by rfl, ?y4⟩) hHeld ?r4
          case y4 => (intro W hSw; simp only [List.getElem_toArray, List.getElem_cons_succ, List.getElem_cons_zero]; go_simp; try (with_reducible rfl))
          simp only [List.getElem_toArray, List.getElem_cons_succ, List.getElem_cons_zero, Act.put, List.setIfInBounds_toArray, List.set_cons_zero, List.set_cons_succ]
          refine wpAnyH_take (i := 5) (v := ?v5) rfl (by kernel_rfl) (by kernel_rfl) (by kernel_rfl) (fun _ _ _ h => h) (Or.inl ⟨by rfl, ?y5⟩) hHeld ?r5
          case y5 => (intro W hSw; simp only [List.getElem_toArray, List.getElem_cons_succ, List.getElem_cons_zero]; go_simp; try (with_reducible rfl))
          simp only [List.getElem_toArray, List.getElem_cons_succ, List.getElem_cons_zero, Act.put, List.setIfInBounds_toArray, List.set_cons_zero, List.set_cons_succ]
          refine wpAnyH_ready (rs := [2]) (by kernel_rfl) (by simp) (AllReadyH.cons rfl (fun K hK => ?_) AllReadyH.nil)
          simp only [List.getElem_toArray, List.getElem_cons_succ, List.getElem_cons_zero]
          obtain ⟨j0, j1, j2, j3, j4⟩ := XC.out.box
          go_simp
          clear j0 j1 j2 j3 j4
          refine hK.out _ _ (hHeld) (fun hHeld1 => ?_)
          clear hK K hHeld
          have hHeld := hHeld1; clear hHeld1
          try simp only [List.getElem_toArray, List.getElem_cons_succ, List.getElem_cons_zero, Act.put, List.setIfInBounds_toArray, List.set_cons_zero, List.set_cons_succ]
          refine wpAnyH_ready (rs := [3]) (by kernel_rfl) (by simp) (AllReadyH.cons rfl (fun K hK => ?_) AllReadyH.nil)
          simp only [List.getElem_toArray, List.getElem_cons_succ, List.getElem_cons_zero]
          go_simp
          go_at_call 62
          refine Calls.mono (PF.out _ OC.out (by omega) (by intro g h1 h2; omega)) ?_
          rintro e wd ⟨hbd, b1, d1, rfl, hol1, hb1⟩
          have hsd : wc.drew.heap.size ≤ wd.heap.size := hbd.size
          try go_wp2_with fail
          refine hK.out _ _ (HS.out _ (YC.out.later hbd) ⟨_, XC.out.later hbd⟩) (fun hHeld1 => ?_)
          clear hK K hHeld
          have hHeld := hHeld1; clear hHeld1
          try simp only [List.getElem_toArray, List.getElem_cons_succ, List.getElem_cons_zero, Act.put, List.setIfInBounds_toArray, List.set_cons_zero, List.set_cons_succ]
          have OY : OwnF wd wa.heap.size (fun g => g < wa.heap.size ∨ (wb.heap.size ≤ g ∧ g < wd.heap.size)) y a' c' b' d' := ((OYB.out.weaken (q' := fun g => g < wa.heap.size ∨ (wb.heap.size ≤ g ∧ g < wd.heap.size)) (Nat.le_refl _) (fun g h1 h2 _ h4 => by omega)).later HBC.out).later hbd
          refine wpAnyH_ready (rs := [6]) (by kernel_rfl) (by simp) (AllReadyH.cons rfl (fun K hK => ?_) AllReadyH.nil)
          simp only [List.getElem_toArray, List.getElem_cons_succ, List.getElem_cons_zero]
          go_simp
          go_at_call 62
          refine Calls.mono (PY.out _ _ OY (by omega) (by intro g h1 h2; omega)) ?_
          rintro e we ⟨hbe, b2, d2, rfl, hol2, hb2⟩
          have hse : wd.heap.size ≤ we.heap.size := hbe.size
          try go_wp2_with fail
          refine hK.out _ _ (HS.out _ ((YC.out.later hbd).later hbe) ⟨_, (XC.out.later hbd).later hbe⟩) (fun hHeld1 => ?_)
          clear hK K hHeld
          have hHeld := hHeld1; clear hHeld1
          try simp only [List.getElem_toArray, List.getElem_cons_succ, List.getElem_cons_zero, Act.put, List.setIfInBounds_toArray, List.set_cons_zero, List.set_cons_succ]
          have HV : ∀ g, (Value.slice b1 (partsOf k f).length d1).ownBlock = some g → w1.heap.size ≤ g ∧ g ≠ w2.heap.size ∧ g ≠ wb.heap.size ∧ (g < wa.heap.size ∨ (wb.heap.size ≤ g ∧ g < wd.heap.size)) := by
            intro g hg
            obtain ⟨xs0, ho0, hn0, _, _⟩ := hol1
            have h1 := own_lt'' ho0 hg
            refine ⟨h1.1, hn0 g hg, ?_, ?_⟩
            · rcases hb1 g hg with h | h
              · rw [HFV.out.2.2.2.2] at h
                obtain ⟨xs1, ho1, _⟩ := OA2.out.2.2
                have := (own_lt'' ho1 h).2
                omega
              · omega
            · rcases hb1 g hg with h | h
              · rw [HFV.out.2.2.2.2] at h
                obtain ⟨xs1, ho1, _⟩ := OA2.out.2.2
                exact Or.inl (own_lt'' ho1 h).2
              · right
                omega
          obtain ⟨xs, hX1⟩ := OwnL.later hol1 hbe
          obtain ⟨zs, hX2⟩ := hol2
          obtain ⟨g2, rfl, _, _, _, _⟩ := cell_of_own hX2.1 HPY.out
          have hlf : (partsOf k f).length ≤ 600 := by have := len_szL (partsOf k f); have := partsOf_szL k f; have := HLEN.out; have := HLN.out; omega
          have hly : (partsOf k y).length ≤ 600 := by have := len_szL (partsOf k y); have := partsOf_szL k y; have := HSZ.out; have := HL1.out; have := HU600.out; omega
          refine wpAnyH_ready (rs := [7]) (by kernel_rfl) (by simp) (AllReadyH.cons rfl (fun K hK => ?_) AllReadyH.nil)
          simp only [List.getElem_toArray, List.getElem_cons_succ, List.getElem_cons_zero]
          refine wp_append_lies we (.tmp 36) (.tmp 39) 23 rfl w1.heap.size 25 i0 (.agg #[.int .i64 0, .string ⟨#[]⟩, .string ⟨#[]⟩, .slice none 0 0, .slice none 0 0]) 5 88 Tryz.underlying23 hi hz0 hz1 hz2 rfl (by decide) (.slice b1 (partsOf k f).length d1) (partsOf k f).length xs rfl hX1.1 ⟨g2, 0, none⟩ (partsOf k y).length d2 zs rfl hX2.1.1 (fun j u hu => hX2.1.cells (g := g2) rfl j u hu) hX2.2.2.1 HPY.out (by unfold maxLen; omega) (by omega) (by omega) we.heap.size rfl ?_
          intro g cap wf hownF hgrow hat hglt
          refine hK.out _ _ (HS.out _ (((YC.out.later hbd).later hbe).same (hgrow.block _ ((YC.out.later hbd).later hbe).lt (fun e => (HV _ e.symm).2.2.1 rfl))) ⟨_, ((XC.out.later hbd).later hbe).same (hgrow.block _ ((XC.out.later hbd).later hbe).lt (fun e => (HV _ e.symm).2.1 rfl))⟩) (fun hHeld1 => ?_)
          clear hK K hHeld
          have hHeld := hHeld1; clear hHeld1
          try simp only [List.getElem_toArray, List.getElem_cons_succ, List.getElem_cons_zero, Act.put, List.setIfInBounds_toArray, List.set_cons_zero, List.set_cons_succ]
          refine wpAnyH_take (i := 8) (v := ?v8) rfl (by kernel_rfl) (by kernel_rfl) (by kernel_rfl) (fun _ _ _ h => h) (Or.inl ⟨by rfl, ?y8⟩) hHeld ?r8
          case y8 => (intro W hSw; simp only [List.getElem_toArray, List.getElem_cons_succ, List.getElem_cons_zero]; go_simp; try (with_reducible rfl))
          simp only [List.getElem_toArray, List.getElem_cons_succ, List.getElem_cons_zero, Act.put, List.setIfInBounds_toArray, List.set_cons_zero, List.set_cons_succ]
          have XF := ((XC.out.later hbd).later hbe).same (hgrow.block _ ((XC.out.later hbd).later hbe).lt (fun e => (HV _ e.symm).2.1 rfl))
          refine wpAnyH_ready (rs := [9]) (by kernel_rfl) (by simp) (AllReadyH.cons rfl (fun K hK => ?_) AllReadyH.nil)
          simp only [List.getElem_toArray, List.getElem_cons_succ, List.getElem_cons_zero]
          refine wp_store_row _ _ _ rfl w2.heap.size #[.int .i64 k, .string ⟨#[]⟩, .string ⟨#[]⟩, .slice none 0 0, .slice (some ⟨g, 0, none⟩) ((partsOf k f).length + (partsOf k y).length) cap] rfl rfl _ _ XF (by kernel_rfl) rfl (by simp [Value.oneCell']) ?_
          refine hK.out _ _ (HS.out _ (hHeld.2.2.2.2.2.1.same (setRow_other _ _ _ _ hbq)) ⟨_, XF.set _⟩) (fun hHeld1 => ?_)
          clear hK K hHeld
          have hHeld := hHeld1; clear hHeld1
          try simp only [List.getElem_toArray, List.getElem_cons_succ, List.getElem_cons_zero, Act.put, List.setIfInBounds_toArray, List.set_cons_zero, List.set_cons_succ]
          clear hHeld
          refine wpAnyH_done (by kernel_rfl) ?_ _
          have X0F := ((X0C.out.later hbd).later hbe).same (hgrow.block _ ((X0C.out.later hbd).later hbe).lt (fun e => by have := (HV _ e.symm).1; have := HW1.out; omega))
          have GE := gr_trans (gr_trans GC.out (gr_of_below hbd)) (gr_of_below hbe)
          have GF := gr_own GE hgrow (fun g h => by have := (HV g h).1; have := HW1.out; omega)
          have RE := (RC.out.later hz hbd).later hz hbe
          have RF := RE.keep (hgrow.block p RE.lt (fun e => by have := (HV _ e.symm).1; have := HW1.out; omega)) (fun g hgz => hgrow.block g (by have := RE.lt; omega) (fun e => by have := (HV _ e.symm).1; have := HW1.out; omega))
          have hLL : (joinC k f y).parts.length = (partsOf k f).length + (partsOf k y).length := List.length_append
          have OL := OwnX.app (v' := .slice (some ⟨g, 0, none⟩) ((partsOf k f).length + (partsOf k y).length) cap) hX1 hX2 (by omega) (fun g h => Or.inl (by omega)) (fun g h => (HV g h).2.2.2) (by omega) hownF hgrow (by rcases hat with h | h; exact Or.inl h.symm; exact Or.inr (by rw [h]; rfl))
          have HEND := Lib.hid (show JnR w w1 p z w2.heap.size k s.data.toList sub ts (wf.setRow w2.heap.size #[.int .i64 k, .string ⟨#[]⟩, .string ⟨#[]⟩, .slice none 0 0, .slice (some ⟨g, 0, none⟩) ((partsOf k f).length + (partsOf k y).length) cap]) from ⟨joinC k f y, r, none, 0, some ⟨g, 0, none⟩, cap, HNX, rd_row RF hqp (by have := HW1.out; omega) _, gr_row GF (by have := HW1.out; omega) _, HMB.out,
            by
              have h1 := partsOf_szL k f
              have h2 := partsOf_szL k y
              have h3 : sz (joinC k f y) = szL (partsOf k f) + szL (partsOf k y) + 1 := by show szL (partsOf k f ++ partsOf k y) + 1 = _; rw [szL_app]
              have := HSZ.out
              have := HL1.out
              have := HLEN.out
              omega,
            by rw [hLL]; exact XF.set _, X0F.same (setRow_other _ _ _ _ (fun e => hqw e.symm)),
            ⟨⟨by simp [joinC, Flt.name], by simp [joinC, Flt.op], HK64.out.1, HK64.out.2, by rw [hLL]; unfold maxLen; omega⟩, ⟨by simp [joinC, Flt.vals], fun v hv => by simp [joinC, Flt.vals] at hv, fun h => by simp [joinC, Flt.vals] at h⟩, by rw [hLL]; exact OL.keep (by simp) (fun g _ _ h => setRow_other _ _ _ _ h)⟩⟩)
          have HMS := Lib.hid (show lenAt (wf.setRow w2.heap.size #[.int .i64 k, .string ⟨#[]⟩, .string ⟨#[]⟩, .slice none 0 0, .slice (some ⟨g, 0, none⟩) ((partsOf k f).length + (partsOf k y).length) cap]) p < lenAt wr p by rw [HLE.out, (rd_row RF hqp (by have := HW1.out; omega) _).len]; have := HSZ.out; have := HL1.out; omega)
          clear hX1 hX2 hownF hgrow hat OL XF X0F GE GF RE RF HV hol1 hb1 hb2 OY hLL
          go_wp2
          go_roundw
          case rel => first | exact HEND.out | ((repeat apply Exists.intro); exact ⟨HEND.out, rfl⟩)
          case measure => exact HMS.out
end Go.Proofs.YtjffnjiggcfhcaaGreatDoor.Fl
namespace Go.Proofs.YtjffnjiggcfhcaaGreatDoor.Fl
open Go.RowKit Go.Proofs.YtjffnjiggcfhcaaGreatDoor.Tk
set_option linter.unusedVariables false
set_option linter.unusedSimpArgs false

def QN (f : Flt) : Prop := (f.kind = 1 ∨ f.kind = 2) → f.parts ≠ []
theorem leaf_kind {ts : List Tc} {f : Flt} {r : List Tc} (h : leafP ts = some (f, r)) : 4 ≤ f.kind := by
  match ts, h with
  | t :: l, h =>
    rw [show leafP (t :: l) = if t.kind = 1 then _ else none from rfl] at h
    repeat' split at h
    all_goals first | (cases h; done) | (cases h; exact (by decide : (4 : Int) ≤ 6)) | (cases h; exact (by decide : (4 : Int) ≤ 5)) | (cases h; exact (by decide : (4 : Int) ≤ 4))
theorem run_enter {f : FuncId} {fn : Func} {c : Code} (hf : Tryz.prog.funcs[f]? = some fn) (hname : (fn.name == "runtime.NumGoroutine") = false) (hb : fn.body = some c) (xs : Array Value) (w : World) : Sem.run Tryz.prog (callFunc f xs) w = .ok (.enter f xs) w := by
  have h1 : fn.name ≠ "runtime.NumGoroutine" := by simpa using hname
  simp [callFunc, hf, h1, hb]
theorem add_ne {f x : Flt} (h : f.parts ≠ []) : (add f x).parts ≠ [] := by
  unfold add
  split
  · intro e
    exact h (List.append_eq_nil_iff.1 e).1
  · intro e
    exact h (List.append_eq_nil_iff.1 e).1
theorem tail_ne {w : List UInt8} {sub : List Tc → Option (Flt × List Tc)} : ∀ (n : Nat) (acc f : Flt) (ts r : List Tc), acc.parts ≠ [] → tailP w sub n acc ts = some (f, r) → f.parts ≠ []
  | 0, _, _, _, _, _, h => by cases h
  | n + 1, acc, f, ts, r, ha, h => by
    rw [tailP] at h
    split at h
    · cases h; exact ha
    · split at h
      · cases h
      · exact tail_ne n _ f _ r (add_ne ha) h
theorem chain_QN {w : List UInt8} {k : Int} {sub : List Tc → Option (Flt × List Tc)} (hk : k = 1 ∨ k = 2) (hs : ∀ l x r, sub l = some (x, r) → QN x) (l : List Tc) (f : Flt) (r : List Tc) (h : chainP w k sub l = some (f, r)) : QN f := by
  rw [chainP] at h
  split at h
  · cases h
  · rename_i x r1 hx
    have hq := hs _ _ _ hx
    split at h
    · cases h; exact hq
    · refine fun _ => tail_ne _ _ f _ r ?_ h
      rw [wrap_one]
      intro e
      have hp : 0 < (partsOf k x).length := partsOf_pos (fun e2 => hq (by omega))
      rw [show partsOf k x = [] from e] at hp
      simp at hp
theorem not_QN : ∀ (n : Nat) (l : List Tc) (f : Flt) (r : List Tc), notP n l = some (f, r) → QN f
  | 0, _, _, _, h => by cases h
  | n + 1, l, f, r, h => by
    rw [notP] at h
    split at h
    · split at h
      · cases h
      · cases h
        exact fun h => by rcases h with h | h <;> cases h
    · split at h
      · split at h
        · cases h
        · rename_i f1 r2 hc
          split at h
          · cases h
          · cases h
            exact chain_QN (Or.inr rfl) (chain_QN (Or.inl rfl) (not_QN n)) _ _ _ hc
      · split at h
        · cases h
          exact fun h => by rcases h with h | h <;> cases h
        · have := leaf_kind h
          exact fun h => by omega
/-- What a part of the reader tells, told with the memory that the caller has made ahead. -/
theorem RdEnd.up {res : Option (Flt × List Tc)} {ts : List Tok} {p z : Nat} {w w1 w2 : World} {e : Ending} (h : RdEnd res ts p z w1 w2 e) (h1 : w.grownBy w1 (some p)) : w.grownBy w2 (some p) := h1.trans h.1
/-- Contract of a part of the reader at n: of fewer tokens than n. -/
def RdOk (F : Nat) (n p z : Nat) (sub : List Tc → Option (Flt × List Tc)) : Prop :=
  ∀ ts : List Tok, (∀ t ∈ ts, TG t) → ts.length ≤ 600 → ts.length < n → ∀ W, RdAt W p z ts → Calls Tryz.prog F #[.pointer (some ⟨p, 0, none⟩)] W fun e w' => RdEnd (sub (ts.map core)) ts p z W w' e
set_option maxHeartbeats 2000000 in
set_option maxRecDepth 100000 in
theorem and_of (n p z : Nat) (hz : z ≤ p) (hsub : RdOk 63 n p z (notP n)) : RdOk 40 n p z (chainP wAnd 1 (notP n)) := by
  intro ts hg hl hn w hR
  have hp : p < w.heap.size := hR.lt
  have hpne : ¬ w.heap.size = p := by omega
  obtain ⟨w1, hw1⟩ : ∃ v, v = w.alloc (.cells #[.int .i64 0, .string ⟨#[]⟩, .string ⟨#[]⟩, .slice none 0 0, .slice none 0 0] 25) := ⟨_, rfl⟩
  have HW := Lib.hid hw1
  have HW1 := Lib.hid (show w1.heap.size = w.heap.size + 1 by rw [hw1]; simp)
  have G1 := Lib.hid (show w.grownBy w1 (some p) by rw [hw1]; exact gr_alloc (gr_refl _ _) _)
  have X1 := Lib.hid (show Rw w1 w.heap.size #[.int .i64 0, .string ⟨#[]⟩, .string ⟨#[]⟩, .slice none 0 0, .slice none 0 0] by rw [hw1]; exact Rw.new ..)
  have CJ := Lib.hid (joined_any 63 (run_enter Tryz.func63 (by kernel_rfl) (by first | rfl | kernel_rfl)) 1 ⟨wAnd.toArray⟩ (fun t h => word_kd (s := wAnd) (by decide) (by decide) t h) (by decide) (notP n) (not_con n) (fun l x r h e => not_QN n l x r h (by omega)) p z hz n hsub ts hg hl hn w1 (by rw [hw1]; exact hR.alloc hz _))
  clear hw1 hR hsub hg hl hn
  go_enter Tryz.func40, Tryz.ntmps40
  go_wp2_with fail
  rw [← HW.out]
  refine Calls.mono CJ.out ?_
  rintro e w2 hE
  have G2 := Lib.hid (hE.up G1.out)
  have X2 := Lib.hid (X1.out.gr hE.1 hpne)
  obtain ⟨hg2, ⟨hn, k0, s0, o0, a0, n0, c0, b0, m0, d0, rfl⟩ | ⟨f, r, a, c, b, d, hy, rfl, hr2, hm2, ho2⟩⟩ := hE
  · have HN := Lib.hid hn
    clear hg2 hn
    go_wp2_with (skip; (refine wpList_store_rowTo rfl _ _ _ rfl rfl w.heap.size _ rfl rfl _ #[.int .i64 0, .string ⟨#[]⟩, .string ⟨#[]⟩, .slice none 0 0, .slice none 0 0] (by first | exact X2.out | exact Rw.alloc X2.out _ | exact Rw.alloc2 X2.out _ _ | exact Rw.alloc3 X2.out _ _ _) (by kernel_rfl) rfl (by simp [Value.oneCell']) ?_))
    refine ret5 Tryz.results40 rfl rfl (X2.out.set _).box rfl ?_
    exact ⟨gr_row G2.out (Nat.le_refl _) _, Or.inl ⟨HN.out, _, _, _, _, _, _, _, _, _, rfl⟩⟩
  · have HY := Lib.hid hy
    have HR2 := Lib.hid hr2
    have HM2 := Lib.hid hm2
    have HO2 := Lib.hid ho2
    obtain ⟨sn, esn, _⟩ := bs_bytes f.name
    obtain ⟨so, eso, _⟩ := bs_bytes f.op
    have HFV := Lib.hid (And.intro esn eso)
    rw [esn, eso]
    clear hg2 hy hr2 hm2 ho2 esn eso
    go_wp2_with (skip; (refine wpList_store_rowTo rfl _ _ _ rfl rfl w.heap.size _ rfl rfl _ #[.int .i64 0, .string ⟨#[]⟩, .string ⟨#[]⟩, .slice none 0 0, .slice none 0 0] (by first | exact X2.out | exact Rw.alloc X2.out _ | exact Rw.alloc2 X2.out _ _ | exact Rw.alloc3 X2.out _ _ _) (by kernel_rfl) rfl (by simp [Value.oneCell']) ?_))
    refine ret5 Tryz.results40 rfl rfl (X2.out.set _).box rfl ?_
    exact ⟨gr_row G2.out (Nat.le_refl _) _, Or.inr ⟨f, r, a, c, b, d, HY.out, by rw [HFV.out.1, HFV.out.2]; rfl, rd_row HR2.out (fun e => hpne e) (by omega) _, HM2.out, own_row HO2.out (by have := HW1.out; omega) _⟩⟩
set_option maxHeartbeats 2000000 in
set_option maxRecDepth 100000 in
theorem or_of (n p z : Nat) (hz : z ≤ p) (hsub : RdOk 40 n p z (chainP wAnd 1 (notP n))) : RdOk 26 n p z (chainP wOr 2 (chainP wAnd 1 (notP n))) := by
  intro ts hg hl hn w hR
  have hp : p < w.heap.size := hR.lt
  have hpne : ¬ w.heap.size = p := by omega
  obtain ⟨w1, hw1⟩ : ∃ v, v = w.alloc (.cells #[.int .i64 0, .string ⟨#[]⟩, .string ⟨#[]⟩, .slice none 0 0, .slice none 0 0] 25) := ⟨_, rfl⟩
  have HW := Lib.hid hw1
  have HW1 := Lib.hid (show w1.heap.size = w.heap.size + 1 by rw [hw1]; simp)
  have G1 := Lib.hid (show w.grownBy w1 (some p) by rw [hw1]; exact gr_alloc (gr_refl _ _) _)
  have X1 := Lib.hid (show Rw w1 w.heap.size #[.int .i64 0, .string ⟨#[]⟩, .string ⟨#[]⟩, .slice none 0 0, .slice none 0 0] by rw [hw1]; exact Rw.new ..)
  have CJ := Lib.hid (joined_any 40 (run_enter Tryz.func40 (by kernel_rfl) (by first | rfl | kernel_rfl)) 2 ⟨wOr.toArray⟩ (fun t h => word_kd (s := wOr) (by decide) (by decide) t h) (by decide) (chainP wAnd 1 (notP n)) (chain_con (not_con n)) (fun l x r h e => chain_QN (Or.inl rfl) (not_QN n) l x r h (by omega)) p z hz n hsub ts hg hl hn w1 (by rw [hw1]; exact hR.alloc hz _))
  clear hw1 hR hsub hg hl hn
  go_enter Tryz.func26, Tryz.ntmps26
  go_wp2_with fail
  rw [← HW.out]
  refine Calls.mono CJ.out ?_
  rintro e w2 hE
  have G2 := Lib.hid (hE.up G1.out)
  have X2 := Lib.hid (X1.out.gr hE.1 hpne)
  obtain ⟨hg2, ⟨hn, k0, s0, o0, a0, n0, c0, b0, m0, d0, rfl⟩ | ⟨f, r, a, c, b, d, hy, rfl, hr2, hm2, ho2⟩⟩ := hE
  · have HN := Lib.hid hn
    clear hg2 hn
    go_wp2_with (skip; (refine wpList_store_rowTo rfl _ _ _ rfl rfl w.heap.size _ rfl rfl _ #[.int .i64 0, .string ⟨#[]⟩, .string ⟨#[]⟩, .slice none 0 0, .slice none 0 0] (by first | exact X2.out | exact Rw.alloc X2.out _ | exact Rw.alloc2 X2.out _ _ | exact Rw.alloc3 X2.out _ _ _) (by kernel_rfl) rfl (by simp [Value.oneCell']) ?_))
    refine ret5 Tryz.results26 rfl rfl (X2.out.set _).box rfl ?_
    exact ⟨gr_row G2.out (Nat.le_refl _) _, Or.inl ⟨HN.out, _, _, _, _, _, _, _, _, _, rfl⟩⟩
  · have HY := Lib.hid hy
    have HR2 := Lib.hid hr2
    have HM2 := Lib.hid hm2
    have HO2 := Lib.hid ho2
    obtain ⟨sn, esn, _⟩ := bs_bytes f.name
    obtain ⟨so, eso, _⟩ := bs_bytes f.op
    have HFV := Lib.hid (And.intro esn eso)
    rw [esn, eso]
    clear hg2 hy hr2 hm2 ho2 esn eso
    go_wp2_with (skip; (refine wpList_store_rowTo rfl _ _ _ rfl rfl w.heap.size _ rfl rfl _ #[.int .i64 0, .string ⟨#[]⟩, .string ⟨#[]⟩, .slice none 0 0, .slice none 0 0] (by first | exact X2.out | exact Rw.alloc X2.out _ | exact Rw.alloc2 X2.out _ _ | exact Rw.alloc3 X2.out _ _ _) (by kernel_rfl) rfl (by simp [Value.oneCell']) ?_))
    refine ret5 Tryz.results26 rfl rfl (X2.out.set _).box rfl ?_
    exact ⟨gr_row G2.out (Nat.le_refl _) _, Or.inr ⟨f, r, a, c, b, d, HY.out, by rw [HFV.out.1, HFV.out.2]; rfl, rd_row HR2.out (fun e => hpne e) (by omega) _, HM2.out, own_row HO2.out (by have := HW1.out; omega) _⟩⟩
end Go.Proofs.YtjffnjiggcfhcaaGreatDoor.Fl
