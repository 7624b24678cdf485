/-
  Contracts of and, or of the document's parser. Memory that was there is left as it was, but for the parser's own block.
-/
import Derived.Test.YtjffnjiggcfhcaaGreatDoorMr03
namespace Go.Proofs.YtjffnjiggcfhcaaGreatDoor.Fl
open Go.RowKit Go.Proofs.YtjffnjiggcfhcaaGreatDoor.Tk
set_option linter.unusedVariables false
set_option linter.unusedSimpArgs false

theorem padd_any (k : Int) (hk : -9223372036854775808 ≤ k ∧ k ≤ 9223372036854775807) (ps : List Flt) (hpl : ps.length ≤ 2000) (b : Option Addr) (d : Nat) (hb0 : ps = [] → b = none ∧ d = 0) (x : Flt) (hpn : x.kind = k → 0 < x.parts.length) (hxl : x.parts.length ≤ 2000) (xa : Option Addr) (xc : Nat) (xb : Option Addr) (xd : Nat) (S : Nat → Prop) (w : World) (hSL : ∀ g, S g → g < w.heap.size) (hP : PartsAt w S b 0 ps) (hX : FltAt w S x xa xb) :
    Calls Tryz.prog 43 #[.agg #[.int .i64 k, .string ⟨#[]⟩, .string ⟨#[]⟩, .slice none 0 0, .slice b ps.length d], .agg #[.int .i64 x.kind, bs x.name, bs x.op, .slice xa x.vals.length xc, .slice xb x.parts.length xd]] w fun e w' => AddE k (ps ++ partsOf k x) S w w' e := by
  unfold partsOf
  cases ps with
  | nil =>
    obtain ⟨rfl, rfl⟩ := hb0 rfl
    by_cases hkx : x.kind = k
    · rw [if_pos hkx]
      exact padd_one_eq k hk x hkx (hpn hkx) hxl xa xc xb xd S w hSL hX
    · rw [if_neg hkx]
      exact padd_one_ne k hk x hkx xa xc xb xd S w hSL hX
  | cons p r =>
    by_cases hkx : x.kind = k
    · rw [if_pos hkx]
      exact padd_more_eq k hk (p :: r) (by simp) hpl b d x hkx (hpn hkx) hxl xa xc xb xd S w hSL hP hX
    · rw [if_neg hkx]
      exact padd_more_ne k hk (p :: r) (by simp) hpl b d x hkx xa xc xb xd S w hSL hP hX
/-- A part of the parser serves every state with fewer than n tokens. -/
def PokX (F : Nat) (sub : List Tc → Option (Flt × List Tc)) (p z : Nat) (L : List Tok) (n : Nat) : Prop :=
  ∀ x : Option (List Tok), lenX x < n → lenX x ≤ 600 → ∀ W, PS W p z L x → Calls Tryz.prog F #[.pointer (some ⟨p, 0, none⟩)] W fun e w' => REnd ((coreX x).bind sub) (lenX x) p z L W w' e
/-- Blocks of the call's own, but for its result's and q. -/
def MineC (w : World) (q : Nat) (W : World) (g : Nat) : Prop := w.heap.size < g ∧ g < W.heap.size ∧ g ≠ q
structure ChR (T : Option (Flt × List Tc)) (wd : List UInt8) (k : Int) (sub : List Tc → Option (Flt × List Tc)) (n0 : Nat) (x1 : Flt) (xa xb : Option Addr) (w : World) (p z : Nat) (L : List Tok) (q3 q4 : Nat) (XC : Array Value) (j : Nat) (V : Flt) (ps : List Flt) (cur : Option (List Tok)) (b : Option Addr) (d : Nat) (W : World) : Prop where
  tg : T = (coreX cur).bind (nextC wd k sub V)
  vw : ps = partsOf k V ∧ (j = 0 ∧ V = x1 ∨ 0 < j ∧ V = .mk k [] [] [] ps)
  pst : PS W p z L cur
  gr : w.grownBy W (some p)
  r0 : Rw W w.heap.size #[.int .i64 0, .string ⟨#[]⟩, .string ⟨#[]⟩, .slice none 0 0, .slice none 0 0]
  r3 : Rw W q3 XC
  r4 : Rw W q4 #[.int .i64 k, .string ⟨#[]⟩, .string ⟨#[]⟩, .slice none 0 0, .slice b ps.length d]
  fx : FltAt W (MineC w q4 W) x1 xa xb
  fp : PartsAt W (MineC w q4 W) b 0 ps
  sz : j < ps.length ∧ szL ps + lenX cur ≤ n0 + 1 ∧ ((∃ ts, cur = some ts) ∨ 0 < j → szL ps + lenX cur ≤ n0)
  pl : z ≤ p ∧ p < w.heap.size ∧ w.heap.size < q3 ∧ q3 < q4 ∧ q4 < W.heap.size
def ChL (T : Option (Flt × List Tc)) (wd : List UInt8) (k : Int) (sub : List Tc → Option (Flt × List Tc)) (n0 : Nat) (x1 : Flt) (xa xb : Option Addr) (w : World) (p z : Nat) (L : List Tok) (q3 q4 : Nat) (XC : Array Value) (vi : Value) (W : World) : Prop :=
  ∃ (j : Nat) (V : Flt) (ps : List Flt) (cur : Option (List Tok)) (b : Option Addr) (d : Nat), vi = .int .i64 j ∧ ChR T wd k sub n0 x1 xa xb w p z L q3 q4 XC j V ps cur b d W
section
variable {T : Option (Flt × List Tc)} {wd : List UInt8} {k : Int} {sub : List Tc → Option (Flt × List Tc)} {n0 : Nat} {x1 : Flt} {xa xb : Option Addr} {w W V0 : World} {p z : Nat} {L : List Tok} {q3 q4 : Nat} {XC : Array Value} {j : Nat} {V : Flt} {ps : List Flt} {cur cur2 : Option (List Tok)} {b : Option Addr} {d : Nat}
theorem MineC.step {q : Nat} (h : W.grownBy V0 (some p)) (hp : p ≤ w.heap.size) : ∀ g, MineC w q W g → MineC w q V0 g ∧ V0.heap[g]? = W.heap[g]? :=
  fun g ⟨h1, h2, h3⟩ => ⟨⟨h1, Nat.lt_of_lt_of_le h2 h.size, h3⟩, h.block g h2 (by intro e; cases e; omega)⟩
/-- What leaves all alone but the parser. -/
theorem ChR.step (h : ChR T wd k sub n0 x1 xa xb w p z L q3 q4 XC j V ps cur b d W) (hg : W.grownBy V0 (some p)) (hy : PS V0 p z L cur2) (ht : T = (coreX cur2).bind (nextC wd k sub V)) (hs : szL ps + lenX cur2 ≤ n0 + 1 ∧ ((∃ ts, cur2 = some ts) ∨ 0 < j → szL ps + lenX cur2 ≤ n0)) : ChR T wd k sub n0 x1 xa xb w p z L q3 q4 XC j V ps cur2 b d V0 := by
  obtain ⟨l1, l2, l3, l4, l5⟩ := h.pl
  exact ⟨ht, h.vw, hy, h.gr.trans hg, h.r0.gr hg (by omega), h.r3.gr hg (by omega), h.r4.gr hg (by omega), h.fx.far (MineC.step hg (by omega)), PartsAt.far (MineC.step hg (by omega)) _ h.fp, ⟨h.sz.1, hs⟩, l1, l2, l3, l4, Nat.lt_of_lt_of_le l5 hg.size⟩
end
theorem next_mk {wd : List UInt8} {k : Int} {sub : List Tc → Option (Flt × List Tc)} {V y : Flt} {ps : List Flt} (h : ps = partsOf k V) : joinC k V y = .mk k [] [] [] (ps ++ partsOf k y) := by
  rw [h]
  rfl
theorem partsOf_mk (k : Int) (ps : List Flt) : partsOf k (.mk k [] [] [] ps) = ps := by
  unfold partsOf
  rw [if_pos (show (Flt.mk k [] [] [] ps).kind = k from rfl)]
  rfl
/-- The end, where V is told: it lies in block q. -/
theorem ch_end {res : Option (Flt × List Tc)} {n0 : Nat} {w W : World} {p z q : Nat} {L : List Tok} {y : Option (List Tok)} {f : Flt} {a : Option Addr} {c : Nat} {b : Option Addr} {d : Nat} {cs : Array Value} (hz : z ≤ p) (hp : p < w.heap.size) (hg : w.grownBy W (some p)) (hps : PS W p z L y) (hf : FltAt W (MineC w q W) f a b) (hsz : sz f ≤ n0 + 1) (hpn : f.kind = 1 ∨ f.kind = 2 → 0 < f.parts.length)
    (hr : (∃ r, res = some (f, r) ∧ coreX y = some r) ∨ (res = none ∧ y = none)) (cs : Array Value) :
    REnd res n0 p z L w (W.setRow w.heap.size cs) (.returned (.agg #[.int .i64 f.kind, bs f.name, bs f.op, .slice a f.vals.length c, .slice b f.parts.length d])) :=
  ⟨gr_row hg (Nat.le_refl _) _, y, f, a, c, b, d, rfl, hps.row (by omega) (by omega) _, hf.far fun g ⟨h1, h2, h3⟩ => ⟨⟨by omega, by simpa using h2⟩, setRow_other _ _ _ _ (by omega)⟩, hsz, hpn, hr⟩
set_option maxHeartbeats 8000000 in
set_option maxRecDepth 100000 in
theorem pand_any (sub : List Tc → Option (Flt × List Tc)) (hcon : Con sub) (L : List Tok) (hl : L.length ≤ 600) (p z : Nat) (hz : z ≤ p) (n : Nat) (hsub : PokX 67 sub p z L n) : PokX 42 (chainP wAnd 1 sub) p z L n := by
  intro x0 hx hx6 w h
  have hp : p < w.heap.size := h.lt
  have hqp : w.heap.size ≠ p := by omega
  have HSUB := Lib.hid hsub
  have HCON := Lib.hid hcon
  obtain ⟨w1, hw1⟩ : ∃ v, v = w.alloc (.cells #[.int .i64 0, .string ⟨#[]⟩, .string ⟨#[]⟩, .slice none 0 0, .slice none 0 0] 25) := ⟨_, rfl⟩
  have HW := Lib.hid hw1
  have CS := Lib.hid (hsub x0 hx hx6 w1 (by rw [hw1]; exact h.alloc hz _))
  have R1 := Lib.hid (show Rw w1 w.heap.size #[.int .i64 0, .string ⟨#[]⟩, .string ⟨#[]⟩, .slice none 0 0, .slice none 0 0] by rw [hw1]; exact Rw.new ..)
  have G1 := Lib.hid (show w.grownBy w1 (some p) by rw [hw1]; exact gr_alloc (gr_refl _ _) _)
  have hs1 : w1.heap.size = w.heap.size + 1 := by rw [hw1]; simp
  have HCH := Lib.hid (show (coreX x0).bind (chainP wAnd 1 sub) = ((coreX x0).bind sub).bind (fun u => nextC wAnd 1 sub u.1 u.2) from by
    cases coreX x0 with
    | none => rfl
    | some ts =>
      show chainP wAnd 1 sub ts = (sub ts).bind _
      rw [chain_next]
      cases sub ts with
      | none => rfl
      | some u => rfl)
  have HLC := Lib.hid (show ∀ u r, (coreX x0).bind sub = some (u, r) → sz u + r.length ≤ lenX x0 from fun u r h => by
    cases x0 with
    | none => cases h
    | some ts =>
      have := (hcon _ _ _ h).2
      simpa [lenX] using this)
  clear hw1 h hsub hcon
  go_enter Tryz.func42, Tryz.ntmps42
  go_wp2_with fail
  rw [← HW.out]
  refine Calls.mono CS.out ?_
  rintro e w2 ⟨hg2, cur, x1, xa, xc, xb, xd, rfl, hps2, hF2, hsz2, hpn2, hres2⟩
  have HT := Lib.hid (show (coreX x0).bind (chainP wAnd 1 sub) = (coreX cur).bind (nextC wAnd 1 sub x1) from by
    rw [HCH.out]
    rcases hres2 with ⟨r, h1, h2⟩ | ⟨h1, h2⟩
    · rw [h1, h2]; rfl
    · rw [h1, h2]; rfl)
  have hsz : szL (partsOf 1 x1) + lenX cur ≤ lenX x0 + 1 ∧ ((∃ ts, cur = some ts) → szL (partsOf 1 x1) + lenX cur ≤ lenX x0) ∧ sz x1 + lenX cur ≤ lenX x0 + 1 := by
    have hp1 := partsOf_szL 1 x1
    rcases hres2 with ⟨r, h1, h2⟩ | ⟨h1, h2⟩
    · have h3 := HLC.out x1 r h1
      have h4 : lenX cur = r.length := by
        cases cur with
        | none => cases h2
        | some ts =>
          have h2 : ts.map core = r := Option.some.inj h2
          rw [← h2]
          simp [lenX]
      exact ⟨by omega, fun _ => by omega, by omega⟩
    · subst h2
      have h4 : lenX (none : Option (List Tok)) = 0 := rfl
      exact ⟨by omega, (fun ⟨ts, h⟩ => by cases h), by omega⟩
  have HSZ := Lib.hid hsz
  have HPN := Lib.hid hpn2
  have HPP := Lib.hid (show 0 < (partsOf 1 x1).length from by
    unfold partsOf
    split
    · rename_i h
      exact hpn2 (by omega)
    · simp)
  have hs2 : w1.heap.size ≤ w2.heap.size := hg2.size
  have HPR := Lib.hid (show x1.parts.length ≤ 2000 by
    have h1 := len_szL x1.parts
    have h2 : szL x1.parts + 1 = sz x1 := by cases x1; rw [sz]; rfl
    have := hsz.2.2
    omega)
  obtain ⟨q3, hq3⟩ : ∃ q, q = w2.heap.size := ⟨_, rfl⟩
  have X2 := Lib.hid hF2
  obtain ⟨xn, exn, _⟩ := bs_bytes x1.name
  obtain ⟨xo, exo, _⟩ := bs_bytes x1.op
  obtain ⟨xk, hxk⟩ : ∃ z, z = x1.kind := ⟨_, rfl⟩
  obtain ⟨x1v, hx1v⟩ : ∃ z, z = x1.vals.length := ⟨_, rfl⟩
  obtain ⟨x1p, hx1p⟩ : ∃ z, z = x1.parts.length := ⟨_, rfl⟩
  have HXF := Lib.hid (And.intro hxk (And.intro exn (And.intro exo (And.intro hx1v hx1p))))
  rw [exn, exo, ← hxk, ← hx1v, ← hx1p]
  obtain ⟨w3, hw3⟩ : ∃ v, v = w2.alloc (.cells #[.int .i64 xk, .string xn, .string xo, .slice xa x1v xc, .slice xb x1p xd] 25) := ⟨_, rfl⟩
  have HW3 := Lib.hid hw3
  have hs3 : w3.heap.size = q3 + 1 := by rw [hw3, hq3]; simp
  have P3 := Lib.hid (show PS w3 p z L cur by rw [hw3]; exact hps2.alloc hz _)
  have R3 := Lib.hid (show Rw w3 w.heap.size #[.int .i64 0, .string ⟨#[]⟩, .string ⟨#[]⟩, .slice none 0 0, .slice none 0 0] by rw [hw3]; exact (R1.out.gr hg2 hqp).alloc _)
  have Q3 := Lib.hid (show Rw w3 q3 #[.int .i64 xk, .string xn, .string xo, .slice xa x1v xc, .slice xb x1p xd] by rw [hw3, hq3]; exact Rw.new ..)
  have G3 := Lib.hid (show w.grownBy w3 (some p) by rw [hw3]; exact gr_alloc (G1.out.trans hg2) _)
  have X3 := Lib.hid (show FltAt w3 (fun g => w.heap.size < g ∧ g < w3.heap.size) x1 xa xb by
    rw [hw3]
    exact X2.out.far fun g hg => ⟨⟨by have := hg.1; omega, by have := hg.2; simp; omega⟩, Below.heap_alloc _ _ _ hg.2⟩)
  have CA := Lib.hid (padd_any 1 (by omega) [] (by simp) none 0 (fun _ => ⟨rfl, rfl⟩) x1 (fun h => HPN.out (by omega)) HPR.out xa xc xb xd _ w3 (fun g hg => hg.2) (by rw [PartsAt]; trivial) X3.out)
  rw [List.length_nil, exn, exo, ← hxk, ← hx1v, ← hx1p, List.nil_append] at CA
  have HQ3 := Lib.hid hq3
  have hq3l : w2.heap.size ≤ q3 := by omega
  clear hw3 hg2 hps2 hF2 hsz2 hpn2 hres2 hsz exn exo hxk hx1v hx1p CS hq3
  go_wp2_with fail
  rw [← HW3.out]
  refine Calls.mono CA.out ?_
  rintro e w4 ⟨hb4, fb, fd, rfl, hF4⟩
  obtain ⟨q4, hq4⟩ : ∃ q, q = w4.heap.size := ⟨_, rfl⟩
  obtain ⟨fl, hfl⟩ : ∃ z, z = (partsOf 1 x1).length := ⟨_, rfl⟩
  rw [← hfl]
  obtain ⟨w5, hw5⟩ : ∃ v, v = w4.alloc (.cells #[.int .i64 1, .string ⟨#[]⟩, .string ⟨#[]⟩, .slice none 0 0, .slice fb fl fd] 25) := ⟨_, rfl⟩
  have HW5 := Lib.hid hw5
  have hs5 : w5.heap.size = q4 + 1 := by rw [hw5, hq4]; simp
  have hs4 : w3.heap.size ≤ w4.heap.size := hb4.size
  have G34 := Lib.hid (show w3.grownBy w5 (some p) by rw [hw5]; exact gr_alloc (gr_of_below hb4) _)
  have HST := Lib.hid (show ChR ((coreX x0).bind (chainP wAnd 1 sub)) wAnd 1 sub (lenX x0) x1 xa xb w p z L q3 q4 #[.int .i64 xk, .string xn, .string xo, .slice xa x1v xc, .slice xb x1p xd] 0 x1 (partsOf 1 x1) cur fb fd w5 from by
    have hmi : ∀ g, (w.heap.size < g ∧ g < w3.heap.size) → MineC w q4 w5 g ∧ w5.heap[g]? = w3.heap[g]? := fun g hg => ⟨⟨hg.1, by omega, by omega⟩, G34.out.block g hg.2 (by intro e; cases e; omega)⟩
    refine ⟨HT.out, ⟨rfl, Or.inl ⟨rfl, rfl⟩⟩, P3.out.keep ?_ (fun g hg => ?_), G3.out.trans G34.out, R3.out.gr G34.out hqp, Q3.out.gr G34.out (by omega), ?_, X3.out.far hmi, ?_, ⟨HPP.out, HSZ.out.1, ?_⟩, hz, hp, by omega, by omega, by omega⟩
    · rw [hw5, Below.heap_alloc _ _ _ (by omega)]
      exact hb4.block p (by omega)
    · rw [hw5, Below.heap_alloc _ _ _ (by omega)]
      exact hb4.block g (by omega)
    · rw [hw5, hq4, ← hfl]
      exact Rw.new ..
    · refine PartsAt.far (S := fun g => (w.heap.size < g ∧ g < w3.heap.size) ∨ (w3.heap.size ≤ g ∧ g < w4.heap.size)) (W := w4) (fun g hg => ?_) _ hF4.parts
      have hlt : g < w4.heap.size := by omega
      exact ⟨⟨by omega, by omega, by omega⟩, by rw [hw5]; exact Below.heap_alloc _ _ _ hlt⟩
    · rintro (h | h)
      · exact HSZ.out.2.1 h
      · omega)
  have HQ4 := Lib.hid hq4
  clear hw5 hb4 hF4 hfl CA hq4
  go_wp2_with fail
  rw [← HW5.out, ← HQ4.out, ← HQ3.out]
  go_loopw [5] (fun vi wr => ChL ((coreX x0).bind (chainP wAnd 1 sub)) wAnd 1 sub (lenX x0) x1 xa xb w p z L q3 q4 #[.int .i64 xk, .string xn, .string xo, .slice xa x1v xc, .slice xb x1p xd] vi wr) (fun _ wr => lenP L.length wr p)
  case atStart => exact ⟨0, _, _, _, _, _, rfl, HST.out⟩
  case round =>
    clear HST
    obtain ⟨j, V, ps, cur, b, d, rfl, hS⟩ := hrel
    have S0 := Lib.hid hS
    have hj6 : j ≤ 700 := by
      have h1 := hS.sz
      have h2 := len_szL ps
      omega
    clear hS
    go_wp2_with fail
    refine Calls.mono (ptakes_any L hl cur ⟨#[97, 110, 100]⟩ p z hz _ S0.out.pst) ?_
    rintro e w6 ⟨hg6, ⟨t1, r1, rfl, ht1, rfl, hps6⟩ | ⟨ht1, rfl, hps6⟩⟩
    · have HT1 := Lib.hid (show takes wAnd ((t1 :: r1).map core) = some (r1.map core) from ht1)
      have hl1 : lenX (some (t1 :: r1)) = r1.length + 1 := rfl
      have hsz0 := S0.out.sz.2.2 (Or.inl ⟨_, rfl⟩)
      have hr6 : lenX (some r1) = r1.length := rfl
      have CS := Lib.hid (HSUB.out (some r1) (by omega) (by omega) w6 hps6)
      have G6 := Lib.hid hg6
      clear hg6 hps6 ht1
      go_wp2_with fail
      refine Calls.mono CS.out ?_
      rintro e w7 ⟨hg7, cur2, y, ya, yc, yb, yd, rfl, hps7, hF7, hsz7, hpn7, hres7⟩
      have G7 := Lib.hid (show wr.grownBy w7 (some p) from G6.out.trans hg7)
      have HNX := Lib.hid (show ((coreX x0).bind (chainP wAnd 1 sub)) = (coreX cur2).bind (nextC wAnd 1 sub (joinC 1 V y)) from by
        rw [S0.out.tg]
        show nextC wAnd 1 sub V ((t1 :: r1).map core) = _
        rcases hres7 with ⟨r, h1, h2⟩ | ⟨h1, h2⟩
        · rw [h2]
          exact next_more HCON.out HT1.out h1
        · rw [h2]
          exact next_bad HT1.out h1)
      have hszy : sz y + lenX cur2 ≤ r1.length + 1 ∧ szL (partsOf 1 y) ≤ sz y := by
        refine ⟨?_, partsOf_szL 1 y⟩
        rcases hres7 with ⟨r, h1, h2⟩ | ⟨h1, h2⟩
        · have h3 := (HCON.out _ _ _ h1).2
          have h4 : lenX cur2 = r.length := by
            cases cur2 with
            | none => cases h2
            | some ts =>
              have h2 : ts.map core = r := Option.some.inj h2
              rw [← h2]
              simp [lenX]
          simp only [List.length_map] at h3
          omega
        · subst h2
          have h4 : lenX (none : Option (List Tok)) = 0 := rfl
          omega
      have hlen2 : (∃ ts, cur2 = some ts) → sz y + lenX cur2 ≤ r1.length := by
        rintro ⟨ts, rfl⟩
        rcases hres7 with ⟨r, h1, h2⟩ | ⟨h1, h2⟩
        · have h3 := (HCON.out _ _ _ h1).2
          have h4 : lenX (some ts) = r.length := by
            have h2 : ts.map core = r := Option.some.inj h2
            rw [← h2]
            simp [lenX]
          simp only [List.length_map] at h3
          omega
        · cases h2
      have HSY := Lib.hid (And.intro hszy hlen2)
      have HPY := Lib.hid (show 0 < (partsOf 1 y).length from by
        unfold partsOf
        split
        · rename_i h
          exact hpn7 (by omega)
        · simp)
      have HPL := Lib.hid (show y.parts.length ≤ 2000 ∧ ps.length ≤ 2000 by
        have h1 := len_szL y.parts
        have h2 : szL y.parts + 1 = sz y := by cases y; rw [sz]; rfl
        have h3 := len_szL ps
        have := hszy.1
        omega)
      have hs7 : w6.heap.size ≤ w7.heap.size := hg7.size
      have hs6 : wr.heap.size ≤ w6.heap.size := G6.out.size
      have hq47 : q4 < w7.heap.size := by have := S0.out.pl; omega
      obtain ⟨yn, eyn, _⟩ := bs_bytes y.name
      obtain ⟨yo, eyo, _⟩ := bs_bytes y.op
      obtain ⟨yk, hyk⟩ : ∃ z, z = y.kind := ⟨_, rfl⟩
      obtain ⟨y1v, hy1v⟩ : ∃ z, z = y.vals.length := ⟨_, rfl⟩
      obtain ⟨y1p, hy1p⟩ : ∃ z, z = y.parts.length := ⟨_, rfl⟩
      rw [eyn, eyo, ← hyk, ← hy1v, ← hy1p]
      obtain ⟨w8, hw8⟩ : ∃ v, v = w7.alloc (.cells #[.int .i64 yk, .string yn, .string yo, .slice ya y1v yc, .slice yb y1p yd] 25) := ⟨_, rfl⟩
      have HW8 := Lib.hid hw8
      have hs8 : w8.heap.size = w7.heap.size + 1 := by rw [hw8]; simp
      have G8 := Lib.hid (show wr.grownBy w8 (some p) by rw [hw8]; exact gr_alloc G7.out _)
      have P8 := Lib.hid (show PS w8 p z L cur2 by rw [hw8]; exact hps7.alloc hz _)
      have F8 := Lib.hid (PartsAt.far (MineC.step (q := q4) G8.out (by omega)) _ S0.out.fp)
      have X8 := Lib.hid (S0.out.fx.far (MineC.step (q := q4) G8.out (by omega)))
      have Y8 := Lib.hid (show FltAt w8 (MineC w q4 w8) y ya yb by
        rw [hw8]
        refine hF7.far fun g hg => ⟨⟨by have := hg.1; have := S0.out.pl; omega, by have := hg.2; simp; omega, by have := hg.1; have := S0.out.pl; omega⟩, Below.heap_alloc _ _ _ hg.2⟩)
      have CA := Lib.hid (padd_any 1 (by omega) ps HPL.out.2 b d (fun h => absurd S0.out.sz.1 (by rw [h]; simp)) y (fun h => hpn7 (by omega)) HPL.out.1 ya yc yb yd _ w8 (fun g hg => hg.2.1) F8.out Y8.out)
      rw [eyn, eyo, ← hyk, ← hy1v, ← hy1p] at CA
      obtain ⟨pn, hpn⟩ : ∃ z, z = ps.length := ⟨_, rfl⟩
      have HPN2 := Lib.hid hpn
      have R4 := Lib.hid (S0.out.r4.gr G7.out (by have := S0.out.pl; omega))
      rw [← hpn] at CA R4
      obtain ⟨c40, c41, c42, c43, c44⟩ := R4.out.box
      clear hw8 hg7 hps7 hF7 hsz7 hpn7 hres7 hszy hlen2 eyn eyo hyk hy1v hy1p CS hpn
      go_wp2_with fail
      rw [← HW8.out]
      clear c40 c41 c42 c43 c44
      refine Calls.mono CA.out ?_
      rintro e w9 ⟨hb9, gb, gd, rfl, hF9⟩
      have hs9 : w8.heap.size ≤ w9.heap.size := hb9.size
      have R9 := Lib.hid (show Rw w9 q4 #[.int .i64 1, .string ⟨#[]⟩, .string ⟨#[]⟩, .slice none 0 0, .slice b pn d] from (show Rw w8 q4 _ from (S0.out.r4.gr G8.out (by have := S0.out.pl; omega)).same rfl |> fun h => by rw [← HPN2.out] at h; exact h).later hb9)
      obtain ⟨gl, hgl⟩ : ∃ z, z = (ps ++ partsOf 1 y).length := ⟨_, rfl⟩
      rw [← hgl]
      have HEND := Lib.hid (show ChR ((coreX x0).bind (chainP wAnd 1 sub)) wAnd 1 sub (lenX x0) x1 xa xb w p z L q3 q4 #[.int .i64 xk, .string xn, .string xo, .slice xa x1v xc, .slice xb x1p xd] (j + 1) (.mk 1 [] [] [] (ps ++ partsOf 1 y)) (ps ++ partsOf 1 y) cur2 gb gd (w9.setRow q4 #[.int .i64 1, .string ⟨#[]⟩, .string ⟨#[]⟩, .slice none 0 0, .slice gb gl gd]) from by
        obtain ⟨l1, l2, l3, l4, l5⟩ := S0.out.pl
        have hk9 : ∀ g, g < w8.heap.size → g ≠ q4 → (w9.setRow q4 #[.int .i64 1, .string ⟨#[]⟩, .string ⟨#[]⟩, .slice none 0 0, .slice gb gl gd]).heap[g]? = w8.heap[g]? := fun g hg hne => (setRow_other _ _ _ _ hne).trans (hb9.block g hg)
        have hsz9 : (w9.setRow q4 #[.int .i64 1, .string ⟨#[]⟩, .string ⟨#[]⟩, .slice none 0 0, .slice gb gl gd]).heap.size = w9.heap.size := by simp
        refine ⟨by rw [HNX.out, next_mk (wd := wAnd) (sub := sub) S0.out.vw.1], ⟨(partsOf_mk _ _).symm, Or.inr ⟨by omega, rfl⟩⟩, P8.out.keep (hk9 p (by omega) (by omega)) (fun g hg => hk9 g (by omega) (by omega)), gr_row ((S0.out.gr.trans G8.out).trans (gr_of_below hb9)) (by omega) _, (S0.out.r0.gr G8.out hqp).same (hk9 _ (by omega) (by omega)), (S0.out.r3.gr G8.out (by omega)).same (hk9 _ (by omega) (by omega)), ?_, X8.out.far (fun g hg => ⟨⟨hg.1, by rw [hsz9]; have := hg.2.1; omega, hg.2.2⟩, hk9 g hg.2.1 hg.2.2⟩), ?_, ⟨?_, ?_, ?_⟩, l1, l2, l3, l4, by rw [hsz9]; omega⟩
        · rw [← hgl]
          exact R9.out.set _
        · refine PartsAt.far (W := w9) (fun g hg => ?_) _ hF9.parts
          rcases hg with ⟨h1, h2, h3⟩ | ⟨h1, h2⟩
          · exact ⟨⟨h1, by rw [hsz9]; omega, h3⟩, setRow_other _ _ _ _ h3⟩
          · exact ⟨⟨by omega, by rw [hsz9]; exact h2, by omega⟩, setRow_other _ _ _ _ (by omega)⟩
        · have h1 := S0.out.sz.1
          have h2 := HPY.out
          rw [List.length_append]
          omega
        · have h1 := HSY.out.1.1
          have h2 := HSY.out.1.2
          rw [szL_app]
          omega
        · intro _
          have h1 := HSY.out.1.1
          have h2 := HSY.out.1.2
          rw [szL_app]
          omega)
      have HME := Lib.hid (show lenP L.length (w9.setRow q4 #[.int .i64 1, .string ⟨#[]⟩, .string ⟨#[]⟩, .slice none 0 0, .slice gb gl gd]) p < lenP L.length wr p by
        rw [HEND.out.pst.len, S0.out.pst.len]
        cases cur2 with
        | none => show 0 < 1 + (r1.length + 1); omega
        | some ts =>
          have h1 := HSY.out.2 ⟨ts, rfl⟩
          have h2 : lenX (some ts) = ts.length := rfl
          show 1 + ts.length < 1 + (r1.length + 1)
          omega)
      clear hb9 hF9 hgl CA
      go_wp2_with (skip; (refine wpList_store_rowTo rfl _ _ _ rfl rfl q4 _ rfl rfl _ #[.int .i64 1, .string ⟨#[]⟩, .string ⟨#[]⟩, .slice none 0 0, .slice b pn d] (by first | exact R9.out) (by kernel_rfl) rfl (by simp [Value.oneCell']) ?_))
      go_roundw
      case rel => first | exact ⟨j + 1, _, _, _, _, _, by go_num, HEND.out⟩ | ((repeat apply Exists.intro); exact ⟨⟨j + 1, _, _, _, _, _, by go_num, HEND.out⟩, rfl⟩)
      case measure => exact HME.out
    · have HRE := Lib.hid (show ((∃ r, (coreX x0).bind (chainP wAnd 1 sub) = some (V, r) ∧ coreX cur = some r) ∨ ((coreX x0).bind (chainP wAnd 1 sub) = none ∧ cur = none)) from by
        rw [S0.out.tg]
        cases cur with
        | none => exact Or.inr ⟨rfl, rfl⟩
        | some ts => exact Or.inl ⟨_, next_none (show takes wAnd (ts.map core) = none from ht1), rfl⟩)
      have HV := Lib.hid (S0.out.vw)
      have HSZF := Lib.hid (S0.out.sz)
      have S6 := Lib.hid (show ChR _ wAnd 1 sub (lenX x0) x1 xa xb w p z L q3 q4 #[.int .i64 xk, .string xn, .string xo, .slice xa x1v xc, .slice xb x1p xd] j V ps cur b d w6 from S0.out.step hg6 hps6 S0.out.tg S0.out.sz.2)
      clear hg6 hps6 ht1
      by_cases hj : j = 0
      · have hV : V = x1 := by
          rcases HV.out.2 with ⟨_, h⟩ | ⟨h, _⟩
          · exact h
          · omega
        subst hj
        obtain ⟨c30, c31, c32, c33, c34⟩ := S6.out.r3.box
        have c3l : q3 < w6.heap.size := S6.out.r3.lt
        go_wp2_with (skip; (refine wpList_store_rowTo rfl _ _ _ rfl rfl w.heap.size _ rfl rfl _ #[.int .i64 0, .string ⟨#[]⟩, .string ⟨#[]⟩, .slice none 0 0, .slice none 0 0] (by first | exact S6.out.r0) (by kernel_rfl) rfl (by simp [Value.oneCell']) ?_))
        refine retF Tryz.results42 rfl (S6.out.r0.set _).box rfl ?_
        have hfin := ch_end (n0 := lenX x0) (f := x1) (c := xc) (d := xd) (cs := #[.int .i64 0, .string ⟨#[]⟩, .string ⟨#[]⟩, .slice none 0 0, .slice none 0 0]) hz hp S6.out.gr S6.out.pst S6.out.fx (by have := HSZ.out.2.2; omega) HPN.out (by have := HRE.out; rw [hV] at this; exact this) #[.int .i64 xk, .string xn, .string xo, .slice xa x1v xc, .slice xb x1p xd]
        rw [HXF.out.2.1, HXF.out.2.2.1, ← HXF.out.1, ← HXF.out.2.2.2.1, ← HXF.out.2.2.2.2] at hfin
        exact hfin
      · have hV : V = .mk 1 [] [] [] ps := by
          rcases HV.out.2 with ⟨h, _⟩ | ⟨_, h⟩
          · exact absurd h hj
          · exact h
        have hjz : ¬ (j : Int) = 0 := by omega
        have hjb : ((j : Int) == 0) = false := by rw [beq_eq_false_iff_ne]; exact hjz
        obtain ⟨pn, hpn⟩ : ∃ z, z = ps.length := ⟨_, rfl⟩
        have R4 := S6.out.r4
        rw [← hpn] at R4
        obtain ⟨c40, c41, c42, c43, c44⟩ := R4.box
        have c4l : q4 < w6.heap.size := R4.lt
        have HPNN := Lib.hid hpn
        clear R4 hpn
        go_wp2_with (skip; (refine wpList_store_rowTo rfl _ _ _ rfl rfl w.heap.size _ rfl rfl _ #[.int .i64 0, .string ⟨#[]⟩, .string ⟨#[]⟩, .slice none 0 0, .slice none 0 0] (by first | exact S6.out.r0) (by kernel_rfl) rfl (by simp [Value.oneCell']) ?_))
        refine retF Tryz.results42 rfl (S6.out.r0.set _).box rfl ?_
        have hfp := S6.out.fp
        have hfl : FltAt w6 (MineC w q4 w6) (.mk 1 [] [] [] ps) none b := FltAt.mk' ⟨by simp [Flt.name], by simp [Flt.op], by simp [Flt.kind], by simp [Flt.kind], by show ps.length ≤ maxLen; have h1 := len_szL ps; have h2 := HSZF.out.2.1; unfold maxLen; omega⟩ ⟨by simp [Flt.vals], fun v hv => by simp [Flt.vals] at hv, fun h => by simp [Flt.vals] at h⟩ hfp
        have hfin := ch_end (n0 := lenX x0) (f := .mk 1 [] [] [] ps) (c := 0) (d := d) (cs := #[.int .i64 0, .string ⟨#[]⟩, .string ⟨#[]⟩, .slice none 0 0, .slice none 0 0]) hz hp S6.out.gr S6.out.pst hfl (by rw [sz]; have := HSZF.out.2.2 (Or.inr (by omega)); omega) (fun _ => by show 0 < ps.length; have := HSZF.out.1; omega) (by have := HRE.out; rw [hV] at this; exact this) #[.int .i64 1, .string ⟨#[]⟩, .string ⟨#[]⟩, .slice none 0 0, .slice b pn d]
        have e : (Value.agg #[.int .i64 1, bs [], bs [], .slice none 0 0, .slice b ps.length d]) = .agg #[.int .i64 1, .string ⟨#[]⟩, .string ⟨#[]⟩, .slice none 0 0, .slice b pn d] := by rw [HPNN.out]; rfl
        have hfin2 : REnd _ (lenX x0) p z L w (w6.setRow w.heap.size #[.int .i64 1, .string ⟨#[]⟩, .string ⟨#[]⟩, .slice none 0 0, .slice b pn d]) (.returned (.agg #[.int .i64 1, bs [], bs [], .slice none 0 0, .slice b ps.length d])) := hfin
        rw [e] at hfin2
        exact hfin2
set_option maxHeartbeats 8000000 in
set_option maxRecDepth 100000 in
theorem por_any (sub : List Tc → Option (Flt × List Tc)) (hcon : Con sub) (L : List Tok) (hl : L.length ≤ 600) (p z : Nat) (hz : z ≤ p) (n : Nat) (hsub : PokX 42 sub p z L n) : PokX 28 (chainP wOr 2 sub) p z L n := by
  intro x0 hx hx6 w h
  have hp : p < w.heap.size := h.lt
  have hqp : w.heap.size ≠ p := by omega
  have HSUB := Lib.hid hsub
  have HCON := Lib.hid hcon
  obtain ⟨w1, hw1⟩ : ∃ v, v = w.alloc (.cells #[.int .i64 0, .string ⟨#[]⟩, .string ⟨#[]⟩, .slice none 0 0, .slice none 0 0] 25) := ⟨_, rfl⟩
  have HW := Lib.hid hw1
  have CS := Lib.hid (hsub x0 hx hx6 w1 (by rw [hw1]; exact h.alloc hz _))
  have R1 := Lib.hid (show Rw w1 w.heap.size #[.int .i64 0, .string ⟨#[]⟩, .string ⟨#[]⟩, .slice none 0 0, .slice none 0 0] by rw [hw1]; exact Rw.new ..)
  have G1 := Lib.hid (show w.grownBy w1 (some p) by rw [hw1]; exact gr_alloc (gr_refl _ _) _)
  have hs1 : w1.heap.size = w.heap.size + 1 := by rw [hw1]; simp
  have HCH := Lib.hid (show (coreX x0).bind (chainP wOr 2 sub) = ((coreX x0).bind sub).bind (fun u => nextC wOr 2 sub u.1 u.2) from by
    cases coreX x0 with
    | none => rfl
    | some ts =>
      show chainP wOr 2 sub ts = (sub ts).bind _
      rw [chain_next]
      cases sub ts with
      | none => rfl
      | some u => rfl)
  have HLC := Lib.hid (show ∀ u r, (coreX x0).bind sub = some (u, r) → sz u + r.length ≤ lenX x0 from fun u r h => by
    cases x0 with
    | none => cases h
    | some ts =>
      have := (hcon _ _ _ h).2
      simpa [lenX] using this)
  clear hw1 h hsub hcon
  go_enter Tryz.func28, Tryz.ntmps28
  go_wp2_with fail
  rw [← HW.out]
  refine Calls.mono CS.out ?_
  rintro e w2 ⟨hg2, cur, x1, xa, xc, xb, xd, rfl, hps2, hF2, hsz2, hpn2, hres2⟩
  have HT := Lib.hid (show (coreX x0).bind (chainP wOr 2 sub) = (coreX cur).bind (nextC wOr 2 sub x1) from by
    rw [HCH.out]
    rcases hres2 with ⟨r, h1, h2⟩ | ⟨h1, h2⟩
    · rw [h1, h2]; rfl
    · rw [h1, h2]; rfl)
  have hsz : szL (partsOf 2 x1) + lenX cur ≤ lenX x0 + 1 ∧ ((∃ ts, cur = some ts) → szL (partsOf 2 x1) + lenX cur ≤ lenX x0) ∧ sz x1 + lenX cur ≤ lenX x0 + 1 := by
    have hp1 := partsOf_szL 2 x1
    rcases hres2 with ⟨r, h1, h2⟩ | ⟨h1, h2⟩
    · have h3 := HLC.out x1 r h1
      have h4 : lenX cur = r.length := by
        cases cur with
        | none => cases h2
        | some ts =>
          have h2 : ts.map core = r := Option.some.inj h2
          rw [← h2]
          simp [lenX]
      exact ⟨by omega, fun _ => by omega, by omega⟩
    · subst h2
      have h4 : lenX (none : Option (List Tok)) = 0 := rfl
      exact ⟨by omega, (fun ⟨ts, h⟩ => by cases h), by omega⟩
  have HSZ := Lib.hid hsz
  have HPN := Lib.hid hpn2
  have HPP := Lib.hid (show 0 < (partsOf 2 x1).length from by
    unfold partsOf
    split
    · rename_i h
      exact hpn2 (by omega)
    · simp)
  have hs2 : w1.heap.size ≤ w2.heap.size := hg2.size
  have HPR := Lib.hid (show x1.parts.length ≤ 2000 by
    have h1 := len_szL x1.parts
    have h2 : szL x1.parts + 1 = sz x1 := by cases x1; rw [sz]; rfl
    have := hsz.2.2
    omega)
  obtain ⟨q3, hq3⟩ : ∃ q, q = w2.heap.size := ⟨_, rfl⟩
  have X2 := Lib.hid hF2
  obtain ⟨xn, exn, _⟩ := bs_bytes x1.name
  obtain ⟨xo, exo, _⟩ := bs_bytes x1.op
  obtain ⟨xk, hxk⟩ : ∃ z, z = x1.kind := ⟨_, rfl⟩
  obtain ⟨x1v, hx1v⟩ : ∃ z, z = x1.vals.length := ⟨_, rfl⟩
  obtain ⟨x1p, hx1p⟩ : ∃ z, z = x1.parts.length := ⟨_, rfl⟩
  have HXF := Lib.hid (And.intro hxk (And.intro exn (And.intro exo (And.intro hx1v hx1p))))
  rw [exn, exo, ← hxk, ← hx1v, ← hx1p]
  obtain ⟨w3, hw3⟩ : ∃ v, v = w2.alloc (.cells #[.int .i64 xk, .string xn, .string xo, .slice xa x1v xc, .slice xb x1p xd] 25) := ⟨_, rfl⟩
  have HW3 := Lib.hid hw3
  have hs3 : w3.heap.size = q3 + 1 := by rw [hw3, hq3]; simp
  have P3 := Lib.hid (show PS w3 p z L cur by rw [hw3]; exact hps2.alloc hz _)
  have R3 := Lib.hid (show Rw w3 w.heap.size #[.int .i64 0, .string ⟨#[]⟩, .string ⟨#[]⟩, .slice none 0 0, .slice none 0 0] by rw [hw3]; exact (R1.out.gr hg2 hqp).alloc _)
  have Q3 := Lib.hid (show Rw w3 q3 #[.int .i64 xk, .string xn, .string xo, .slice xa x1v xc, .slice xb x1p xd] by rw [hw3, hq3]; exact Rw.new ..)
  have G3 := Lib.hid (show w.grownBy w3 (some p) by rw [hw3]; exact gr_alloc (G1.out.trans hg2) _)
  have X3 := Lib.hid (show FltAt w3 (fun g => w.heap.size < g ∧ g < w3.heap.size) x1 xa xb by
    rw [hw3]
    exact X2.out.far fun g hg => ⟨⟨by have := hg.1; omega, by have := hg.2; simp; omega⟩, Below.heap_alloc _ _ _ hg.2⟩)
  have CA := Lib.hid (padd_any 2 (by omega) [] (by simp) none 0 (fun _ => ⟨rfl, rfl⟩) x1 (fun h => HPN.out (by omega)) HPR.out xa xc xb xd _ w3 (fun g hg => hg.2) (by rw [PartsAt]; trivial) X3.out)
  rw [List.length_nil, exn, exo, ← hxk, ← hx1v, ← hx1p, List.nil_append] at CA
  have HQ3 := Lib.hid hq3
  have hq3l : w2.heap.size ≤ q3 := by omega
  clear hw3 hg2 hps2 hF2 hsz2 hpn2 hres2 hsz exn exo hxk hx1v hx1p CS hq3
  go_wp2_with fail
  rw [← HW3.out]
  refine Calls.mono CA.out ?_
  rintro e w4 ⟨hb4, fb, fd, rfl, hF4⟩
  obtain ⟨q4, hq4⟩ : ∃ q, q = w4.heap.size := ⟨_, rfl⟩
  obtain ⟨fl, hfl⟩ : ∃ z, z = (partsOf 2 x1).length := ⟨_, rfl⟩
  rw [← hfl]
  obtain ⟨w5, hw5⟩ : ∃ v, v = w4.alloc (.cells #[.int .i64 2, .string ⟨#[]⟩, .string ⟨#[]⟩, .slice none 0 0, .slice fb fl fd] 25) := ⟨_, rfl⟩
  have HW5 := Lib.hid hw5
  have hs5 : w5.heap.size = q4 + 1 := by rw [hw5, hq4]; simp
  have hs4 : w3.heap.size ≤ w4.heap.size := hb4.size
  have G34 := Lib.hid (show w3.grownBy w5 (some p) by rw [hw5]; exact gr_alloc (gr_of_below hb4) _)
  have HST := Lib.hid (show ChR ((coreX x0).bind (chainP wOr 2 sub)) wOr 2 sub (lenX x0) x1 xa xb w p z L q3 q4 #[.int .i64 xk, .string xn, .string xo, .slice xa x1v xc, .slice xb x1p xd] 0 x1 (partsOf 2 x1) cur fb fd w5 from by
    have hmi : ∀ g, (w.heap.size < g ∧ g < w3.heap.size) → MineC w q4 w5 g ∧ w5.heap[g]? = w3.heap[g]? := fun g hg => ⟨⟨hg.1, by omega, by omega⟩, G34.out.block g hg.2 (by intro e; cases e; omega)⟩
    refine ⟨HT.out, ⟨rfl, Or.inl ⟨rfl, rfl⟩⟩, P3.out.keep ?_ (fun g hg => ?_), G3.out.trans G34.out, R3.out.gr G34.out hqp, Q3.out.gr G34.out (by omega), ?_, X3.out.far hmi, ?_, ⟨HPP.out, HSZ.out.1, ?_⟩, hz, hp, by omega, by omega, by omega⟩
    · rw [hw5, Below.heap_alloc _ _ _ (by omega)]
      exact hb4.block p (by omega)
    · rw [hw5, Below.heap_alloc _ _ _ (by omega)]
      exact hb4.block g (by omega)
    · rw [hw5, hq4, ← hfl]
      exact Rw.new ..
    · refine PartsAt.far (S := fun g => (w.heap.size < g ∧ g < w3.heap.size) ∨ (w3.heap.size ≤ g ∧ g < w4.heap.size)) (W := w4) (fun g hg => ?_) _ hF4.parts
      have hlt : g < w4.heap.size := by omega
      exact ⟨⟨by omega, by omega, by omega⟩, by rw [hw5]; exact Below.heap_alloc _ _ _ hlt⟩
    · rintro (h | h)
      · exact HSZ.out.2.1 h
      · omega)
  have HQ4 := Lib.hid hq4
  clear hw5 hb4 hF4 hfl CA hq4
  go_wp2_with fail
  rw [← HW5.out, ← HQ4.out, ← HQ3.out]
  go_loopw [5] (fun vi wr => ChL ((coreX x0).bind (chainP wOr 2 sub)) wOr 2 sub (lenX x0) x1 xa xb w p z L q3 q4 #[.int .i64 xk, .string xn, .string xo, .slice xa x1v xc, .slice xb x1p xd] vi wr) (fun _ wr => lenP L.length wr p)
  case atStart => exact ⟨0, _, _, _, _, _, rfl, HST.out⟩
  case round =>
    clear HST
    obtain ⟨j, V, ps, cur, b, d, rfl, hS⟩ := hrel
    have S0 := Lib.hid hS
    have hj6 : j ≤ 700 := by
      have h1 := hS.sz
      have h2 := len_szL ps
      omega
    clear hS
    go_wp2_with fail
    refine Calls.mono (ptakes_any L hl cur ⟨#[111, 114]⟩ p z hz _ S0.out.pst) ?_
    rintro e w6 ⟨hg6, ⟨t1, r1, rfl, ht1, rfl, hps6⟩ | ⟨ht1, rfl, hps6⟩⟩
    · have HT1 := Lib.hid (show takes wOr ((t1 :: r1).map core) = some (r1.map core) from ht1)
      have hl1 : lenX (some (t1 :: r1)) = r1.length + 1 := rfl
      have hsz0 := S0.out.sz.2.2 (Or.inl ⟨_, rfl⟩)
      have hr6 : lenX (some r1) = r1.length := rfl
      have CS := Lib.hid (HSUB.out (some r1) (by omega) (by omega) w6 hps6)
      have G6 := Lib.hid hg6
      clear hg6 hps6 ht1
      go_wp2_with fail
      refine Calls.mono CS.out ?_
      rintro e w7 ⟨hg7, cur2, y, ya, yc, yb, yd, rfl, hps7, hF7, hsz7, hpn7, hres7⟩
      have G7 := Lib.hid (show wr.grownBy w7 (some p) from G6.out.trans hg7)
      have HNX := Lib.hid (show ((coreX x0).bind (chainP wOr 2 sub)) = (coreX cur2).bind (nextC wOr 2 sub (joinC 2 V y)) from by
        rw [S0.out.tg]
        show nextC wOr 2 sub V ((t1 :: r1).map core) = _
        rcases hres7 with ⟨r, h1, h2⟩ | ⟨h1, h2⟩
        · rw [h2]
          exact next_more HCON.out HT1.out h1
        · rw [h2]
          exact next_bad HT1.out h1)
      have hszy : sz y + lenX cur2 ≤ r1.length + 1 ∧ szL (partsOf 2 y) ≤ sz y := by
        refine ⟨?_, partsOf_szL 2 y⟩
        rcases hres7 with ⟨r, h1, h2⟩ | ⟨h1, h2⟩
        · have h3 := (HCON.out _ _ _ h1).2
          have h4 : lenX cur2 = r.length := by
            cases cur2 with
            | none => cases h2
            | some ts =>
              have h2 : ts.map core = r := Option.some.inj h2
              rw [← h2]
              simp [lenX]
          simp only [List.length_map] at h3
          omega
        · subst h2
          have h4 : lenX (none : Option (List Tok)) = 0 := rfl
          omega
      have hlen2 : (∃ ts, cur2 = some ts) → sz y + lenX cur2 ≤ r1.length := by
        rintro ⟨ts, rfl⟩
        rcases hres7 with ⟨r, h1, h2⟩ | ⟨h1, h2⟩
        · have h3 := (HCON.out _ _ _ h1).2
          have h4 : lenX (some ts) = r.length := by
            have h2 : ts.map core = r := Option.some.inj h2
            rw [← h2]
            simp [lenX]
          simp only [List.length_map] at h3
          omega
        · cases h2
      have HSY := Lib.hid (And.intro hszy hlen2)
      have HPY := Lib.hid (show 0 < (partsOf 2 y).length from by
        unfold partsOf
        split
        · rename_i h
          exact hpn7 (by omega)
        · simp)
      have HPL := Lib.hid (show y.parts.length ≤ 2000 ∧ ps.length ≤ 2000 by
        have h1 := len_szL y.parts
        have h2 : szL y.parts + 1 = sz y := by cases y; rw [sz]; rfl
        have h3 := len_szL ps
        have := hszy.1
        omega)
      have hs7 : w6.heap.size ≤ w7.heap.size := hg7.size
      have hs6 : wr.heap.size ≤ w6.heap.size := G6.out.size
      have hq47 : q4 < w7.heap.size := by have := S0.out.pl; omega
      obtain ⟨yn, eyn, _⟩ := bs_bytes y.name
      obtain ⟨yo, eyo, _⟩ := bs_bytes y.op
      obtain ⟨yk, hyk⟩ : ∃ z, z = y.kind := ⟨_, rfl⟩
      obtain ⟨y1v, hy1v⟩ : ∃ z, z = y.vals.length := ⟨_, rfl⟩
      obtain ⟨y1p, hy1p⟩ : ∃ z, z = y.parts.length := ⟨_, rfl⟩
      rw [eyn, eyo, ← hyk, ← hy1v, ← hy1p]
      obtain ⟨w8, hw8⟩ : ∃ v, v = w7.alloc (.cells #[.int .i64 yk, .string yn, .string yo, .slice ya y1v yc, .slice yb y1p yd] 25) := ⟨_, rfl⟩
      have HW8 := Lib.hid hw8
      have hs8 : w8.heap.size = w7.heap.size + 1 := by rw [hw8]; simp
      have G8 := Lib.hid (show wr.grownBy w8 (some p) by rw [hw8]; exact gr_alloc G7.out _)
      have P8 := Lib.hid (show PS w8 p z L cur2 by rw [hw8]; exact hps7.alloc hz _)
      have F8 := Lib.hid (PartsAt.far (MineC.step (q := q4) G8.out (by omega)) _ S0.out.fp)
      have X8 := Lib.hid (S0.out.fx.far (MineC.step (q := q4) G8.out (by omega)))
      have Y8 := Lib.hid (show FltAt w8 (MineC w q4 w8) y ya yb by
        rw [hw8]
        refine hF7.far fun g hg => ⟨⟨by have := hg.1; have := S0.out.pl; omega, by have := hg.2; simp; omega, by have := hg.1; have := S0.out.pl; omega⟩, Below.heap_alloc _ _ _ hg.2⟩)
      have CA := Lib.hid (padd_any 2 (by omega) ps HPL.out.2 b d (fun h => absurd S0.out.sz.1 (by rw [h]; simp)) y (fun h => hpn7 (by omega)) HPL.out.1 ya yc yb yd _ w8 (fun g hg => hg.2.1) F8.out Y8.out)
      rw [eyn, eyo, ← hyk, ← hy1v, ← hy1p] at CA
      obtain ⟨pn, hpn⟩ : ∃ z, z = ps.length := ⟨_, rfl⟩
      have HPN2 := Lib.hid hpn
      have R4 := Lib.hid (S0.out.r4.gr G7.out (by have := S0.out.pl; omega))
      rw [← hpn] at CA R4
      obtain ⟨c40, c41, c42, c43, c44⟩ := R4.out.box
      clear hw8 hg7 hps7 hF7 hsz7 hpn7 hres7 hszy hlen2 eyn eyo hyk hy1v hy1p CS hpn
      go_wp2_with fail
      rw [← HW8.out]
      clear c40 c41 c42 c43 c44
      refine Calls.mono CA.out ?_
      rintro e w9 ⟨hb9, gb, gd, rfl, hF9⟩
      have hs9 : w8.heap.size ≤ w9.heap.size := hb9.size
      have R9 := Lib.hid (show Rw w9 q4 #[.int .i64 2, .string ⟨#[]⟩, .string ⟨#[]⟩, .slice none 0 0, .slice b pn d] from (show Rw w8 q4 _ from (S0.out.r4.gr G8.out (by have := S0.out.pl; omega)).same rfl |> fun h => by rw [← HPN2.out] at h; exact h).later hb9)
      obtain ⟨gl, hgl⟩ : ∃ z, z = (ps ++ partsOf 2 y).length := ⟨_, rfl⟩
      rw [← hgl]
      have HEND := Lib.hid (show ChR ((coreX x0).bind (chainP wOr 2 sub)) wOr 2 sub (lenX x0) x1 xa xb w p z L q3 q4 #[.int .i64 xk, .string xn, .string xo, .slice xa x1v xc, .slice xb x1p xd] (j + 1) (.mk 2 [] [] [] (ps ++ partsOf 2 y)) (ps ++ partsOf 2 y) cur2 gb gd (w9.setRow q4 #[.int .i64 2, .string ⟨#[]⟩, .string ⟨#[]⟩, .slice none 0 0, .slice gb gl gd]) from by
        obtain ⟨l1, l2, l3, l4, l5⟩ := S0.out.pl
        have hk9 : ∀ g, g < w8.heap.size → g ≠ q4 → (w9.setRow q4 #[.int .i64 2, .string ⟨#[]⟩, .string ⟨#[]⟩, .slice none 0 0, .slice gb gl gd]).heap[g]? = w8.heap[g]? := fun g hg hne => (setRow_other _ _ _ _ hne).trans (hb9.block g hg)
        have hsz9 : (w9.setRow q4 #[.int .i64 2, .string ⟨#[]⟩, .string ⟨#[]⟩, .slice none 0 0, .slice gb gl gd]).heap.size = w9.heap.size := by simp
        refine ⟨by rw [HNX.out, next_mk (wd := wOr) (sub := sub) S0.out.vw.1], ⟨(partsOf_mk _ _).symm, Or.inr ⟨by omega, rfl⟩⟩, P8.out.keep (hk9 p (by omega) (by omega)) (fun g hg => hk9 g (by omega) (by omega)), gr_row ((S0.out.gr.trans G8.out).trans (gr_of_below hb9)) (by omega) _, (S0.out.r0.gr G8.out hqp).same (hk9 _ (by omega) (by omega)), (S0.out.r3.gr G8.out (by omega)).same (hk9 _ (by omega) (by omega)), ?_, X8.out.far (fun g hg => ⟨⟨hg.1, by rw [hsz9]; have := hg.2.1; omega, hg.2.2⟩, hk9 g hg.2.1 hg.2.2⟩), ?_, ⟨?_, ?_, ?_⟩, l1, l2, l3, l4, by rw [hsz9]; omega⟩
        · rw [← hgl]
          exact R9.out.set _
        · refine PartsAt.far (W := w9) (fun g hg => ?_) _ hF9.parts
          rcases hg with ⟨h1, h2, h3⟩ | ⟨h1, h2⟩
          · exact ⟨⟨h1, by rw [hsz9]; omega, h3⟩, setRow_other _ _ _ _ h3⟩
          · exact ⟨⟨by omega, by rw [hsz9]; exact h2, by omega⟩, setRow_other _ _ _ _ (by omega)⟩
        · have h1 := S0.out.sz.1
          have h2 := HPY.out
          rw [List.length_append]
          omega
        · have h1 := HSY.out.1.1
          have h2 := HSY.out.1.2
          rw [szL_app]
          omega
        · intro _
          have h1 := HSY.out.1.1
          have h2 := HSY.out.1.2
          rw [szL_app]
          omega)
      have HME := Lib.hid (show lenP L.length (w9.setRow q4 #[.int .i64 2, .string ⟨#[]⟩, .string ⟨#[]⟩, .slice none 0 0, .slice gb gl gd]) p < lenP L.length wr p by
        rw [HEND.out.pst.len, S0.out.pst.len]
        cases cur2 with
        | none => show 0 < 1 + (r1.length + 1); omega
        | some ts =>
          have h1 := HSY.out.2 ⟨ts, rfl⟩
          have h2 : lenX (some ts) = ts.length := rfl
          show 1 + ts.length < 1 + (r1.length + 1)
          omega)
      clear hb9 hF9 hgl CA
      go_wp2_with (skip; (refine wpList_store_rowTo rfl _ _ _ rfl rfl q4 _ rfl rfl _ #[.int .i64 2, .string ⟨#[]⟩, .string ⟨#[]⟩, .slice none 0 0, .slice b pn d] (by first | exact R9.out) (by kernel_rfl) rfl (by simp [Value.oneCell']) ?_))
      go_roundw
      case rel => first | exact ⟨j + 1, _, _, _, _, _, by go_num, HEND.out⟩ | ((repeat apply Exists.intro); exact ⟨⟨j + 1, _, _, _, _, _, by go_num, HEND.out⟩, rfl⟩)
      case measure => exact HME.out
    · have HRE := Lib.hid (show ((∃ r, (coreX x0).bind (chainP wOr 2 sub) = some (V, r) ∧ coreX cur = some r) ∨ ((coreX x0).bind (chainP wOr 2 sub) = none ∧ cur = none)) from by
        rw [S0.out.tg]
        cases cur with
        | none => exact Or.inr ⟨rfl, rfl⟩
        | some ts => exact Or.inl ⟨_, next_none (show takes wOr (ts.map core) = none from ht1), rfl⟩)
      have HV := Lib.hid (S0.out.vw)
      have HSZF := Lib.hid (S0.out.sz)
      have S6 := Lib.hid (show ChR _ wOr 2 sub (lenX x0) x1 xa xb w p z L q3 q4 #[.int .i64 xk, .string xn, .string xo, .slice xa x1v xc, .slice xb x1p xd] j V ps cur b d w6 from S0.out.step hg6 hps6 S0.out.tg S0.out.sz.2)
      clear hg6 hps6 ht1
      by_cases hj : j = 0
      · have hV : V = x1 := by
          rcases HV.out.2 with ⟨_, h⟩ | ⟨h, _⟩
          · exact h
          · omega
        subst hj
        obtain ⟨c30, c31, c32, c33, c34⟩ := S6.out.r3.box
        have c3l : q3 < w6.heap.size := S6.out.r3.lt
        go_wp2_with (skip; (refine wpList_store_rowTo rfl _ _ _ rfl rfl w.heap.size _ rfl rfl _ #[.int .i64 0, .string ⟨#[]⟩, .string ⟨#[]⟩, .slice none 0 0, .slice none 0 0] (by first | exact S6.out.r0) (by kernel_rfl) rfl (by simp [Value.oneCell']) ?_))
        refine retF Tryz.results28 rfl (S6.out.r0.set _).box rfl ?_
        have hfin := ch_end (n0 := lenX x0) (f := x1) (c := xc) (d := xd) (cs := #[.int .i64 0, .string ⟨#[]⟩, .string ⟨#[]⟩, .slice none 0 0, .slice none 0 0]) hz hp S6.out.gr S6.out.pst S6.out.fx (by have := HSZ.out.2.2; omega) HPN.out (by have := HRE.out; rw [hV] at this; exact this) #[.int .i64 xk, .string xn, .string xo, .slice xa x1v xc, .slice xb x1p xd]
        rw [HXF.out.2.1, HXF.out.2.2.1, ← HXF.out.1, ← HXF.out.2.2.2.1, ← HXF.out.2.2.2.2] at hfin
        exact hfin
      · have hV : V = .mk 2 [] [] [] ps := by
          rcases HV.out.2 with ⟨h, _⟩ | ⟨_, h⟩
          · exact absurd h hj
          · exact h
        have hjz : ¬ (j : Int) = 0 := by omega
        have hjb : ((j : Int) == 0) = false := by rw [beq_eq_false_iff_ne]; exact hjz
        obtain ⟨pn, hpn⟩ : ∃ z, z = ps.length := ⟨_, rfl⟩
        have R4 := S6.out.r4
        rw [← hpn] at R4
        obtain ⟨c40, c41, c42, c43, c44⟩ := R4.box
        have c4l : q4 < w6.heap.size := R4.lt
        have HPNN := Lib.hid hpn
        clear R4 hpn
        go_wp2_with (skip; (refine wpList_store_rowTo rfl _ _ _ rfl rfl w.heap.size _ rfl rfl _ #[.int .i64 0, .string ⟨#[]⟩, .string ⟨#[]⟩, .slice none 0 0, .slice none 0 0] (by first | exact S6.out.r0) (by kernel_rfl) rfl (by simp [Value.oneCell']) ?_))
        refine retF Tryz.results28 rfl (S6.out.r0.set _).box rfl ?_
        have hfp := S6.out.fp
        have hfl : FltAt w6 (MineC w q4 w6) (.mk 2 [] [] [] ps) none b := FltAt.mk' ⟨by simp [Flt.name], by simp [Flt.op], by simp [Flt.kind], by simp [Flt.kind], by show ps.length ≤ maxLen; have h1 := len_szL ps; have h2 := HSZF.out.2.1; unfold maxLen; omega⟩ ⟨by simp [Flt.vals], fun v hv => by simp [Flt.vals] at hv, fun h => by simp [Flt.vals] at h⟩ hfp
        have hfin := ch_end (n0 := lenX x0) (f := .mk 2 [] [] [] ps) (c := 0) (d := d) (cs := #[.int .i64 0, .string ⟨#[]⟩, .string ⟨#[]⟩, .slice none 0 0, .slice none 0 0]) hz hp S6.out.gr S6.out.pst hfl (by rw [sz]; have := HSZF.out.2.2 (Or.inr (by omega)); omega) (fun _ => by show 0 < ps.length; have := HSZF.out.1; omega) (by have := HRE.out; rw [hV] at this; exact this) #[.int .i64 2, .string ⟨#[]⟩, .string ⟨#[]⟩, .slice none 0 0, .slice b pn d]
        have e : (Value.agg #[.int .i64 2, bs [], bs [], .slice none 0 0, .slice b ps.length d]) = .agg #[.int .i64 2, .string ⟨#[]⟩, .string ⟨#[]⟩, .slice none 0 0, .slice b pn d] := by rw [HPNN.out]; rfl
        have hfin2 : REnd _ (lenX x0) p z L w (w6.setRow w.heap.size #[.int .i64 2, .string ⟨#[]⟩, .string ⟨#[]⟩, .slice none 0 0, .slice b pn d]) (.returned (.agg #[.int .i64 2, bs [], bs [], .slice none 0 0, .slice b ps.length d])) := hfin
        rw [e] at hfin2
        exact hfin2
end Go.Proofs.YtjffnjiggcfhcaaGreatDoor.Fl
