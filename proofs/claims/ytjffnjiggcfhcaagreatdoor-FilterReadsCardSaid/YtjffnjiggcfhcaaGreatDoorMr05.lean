/-
  The walk of FilterReads: it returns true. Memory that was there is left as it was.
-/
import Derived.Test.YtjffnjiggcfhcaaGreatDoorMr04
import Derived.Test.YtjffnjiggcfhcaaGreatDoorMt14
import Derived.Test.YtjffnjiggcfhcaaGreatDoorProg
import Derived.Test.YtjffnjiggcfhcaaGreatDoorMt05
import Derived.Deep.RegionHeldLaw
import Derived.Deep.AppendLies
import Derived.Lib.QuietBelow
import Derived.KernelRfl
import Derived.Handy
import Derived.Test.YtjffnjiggcfhcaaGreatDoorMt08
import Derived.Test.YtjffnjiggcfhcaaGreatDoorMt16
import Derived.WalkKit
import Derived.WalkSpells
import Derived.LaidEql
import Derived.Below
import Derived.Test.YtjffnjiggcfhcaaGreatDoorMt18
import Derived.Test.YtjffnjiggcfhcaaGreatDoorMt19
/-
  Contract of not of the document's parser, and of all its parts to any depth. Memory that was there is left as it was, but for the parser's own block.
-/
namespace Go.Proofs.YtjffnjiggcfhcaaGreatDoor.Fl
open Go.RowKit Go.Proofs.YtjffnjiggcfhcaaGreatDoor.Tk
set_option linter.unusedVariables false
set_option linter.unusedSimpArgs false

theorem own_new {W : World} {T : Nat → Prop} {f : Flt} {a : Option Addr} {c : Nat} {b : Option Addr} {d : Nat} {S : Nat → Prop} (h : FltAt W S f a b) (hS : ∀ g, S g → g < W.heap.size ∧ T g) (hT : T W.heap.size) : PartsAt (W.alloc (.cells (fltC f a c b d).toArray 25)) T (some ⟨W.heap.size, 0, none⟩) 0 [f] := by
  have hr := RowF.one (c := c) (d := d) (h.far (V := W.alloc (.cells (fltC f a c b d).toArray 25)) (T := T) fun g hg => ⟨(hS g hg).2, Below.heap_alloc _ _ _ (hS g hg).1⟩)
  refine row_parts (B := W.heap.size) (n := 1) (d := 1) (xs := fltC f a c b d) ⟨rfl, Or.inr ⟨W.heap.size, 1, (fltC f a c b d).toArray, rfl, Nat.le_refl _, heap_alloc_new W _, Nat.le_refl _, by unfold maxLen; omega, rfl, rfl⟩⟩ rfl hr fun g h1 h2 => ?_
  have : g = W.heap.size := by simp at h2; omega
  rw [this]
  exact hT
set_option maxHeartbeats 8000000 in
set_option maxRecDepth 100000 in
theorem pnot_step (L : List Tok) (hl : L.length ≤ 600) (hg : ∀ t ∈ L, TG t) (p z : Nat) (hz : z ≤ p) (n : Nat) (ih : PokX 67 (notP n) p z L n) (hor : PokX 28 (chainP wOr 2 (chainP wAnd 1 (notP n))) p z L n) : PokX 67 (notP (n + 1)) p z L (n + 1) := by
  intro x0 hx hx6 w h
  have hp : p < w.heap.size := h.lt
  have hqp : w.heap.size ≠ p := by omega
  have IH := Lib.hid ih
  have HOR := Lib.hid hor
  have HGT := Lib.hid hg
  have HCON := Lib.hid (not_con n)
  have HCO := Lib.hid (or_con n)
  obtain ⟨w1, hw1⟩ : ∃ v, v = w.alloc (.cells #[.int .i64 0, .string ⟨#[]⟩, .string ⟨#[]⟩, .slice none 0 0, .slice none 0 0] 25) := ⟨_, rfl⟩
  have HW := Lib.hid hw1
  have P1 := Lib.hid (show PS w1 p z L x0 by rw [hw1]; exact h.alloc hz _)
  have Y1 := Lib.hid (show Rw w1 w.heap.size #[.int .i64 0, .string ⟨#[]⟩, .string ⟨#[]⟩, .slice none 0 0, .slice none 0 0] by rw [hw1]; exact Rw.new ..)
  have G1 := Lib.hid (show w.grownBy w1 (some p) by rw [hw1]; exact gr_alloc (gr_refl _ _) _)
  have hs1 : w1.heap.size = w.heap.size + 1 := by rw [hw1]; simp
  clear hw1 h ih hor hg
  go_enter Tryz.func67, Tryz.ntmps67
  go_wp2_with fail
  rw [← HW.out]
  refine Calls.mono (ptakes_any L hl x0 ⟨#[110, 111, 116]⟩ p z hz _ P1.out) ?_
  rintro e w2 ⟨hg, ⟨t1, r1, rfl, ht, rfl, hps⟩ | ⟨ht, rfl, hps⟩⟩
  · have hs2 : w1.heap.size ≤ w2.heap.size := hg.size
    have T2 := Lib.hid (show takes wNot ((t1 :: r1).map core) = some (r1.map core) from ht)
    have G2 := Lib.hid (G1.out.trans hg)
    have Y2 := Lib.hid (Y1.out.gr hg hqp)
    have P2 := Lib.hid hps
    have hl1 : lenX (some (t1 :: r1)) = r1.length + 1 := rfl
    have hr1 : lenX (some r1) = r1.length := rfl
    clear hg hps ht
    go_wp2_with fail
    refine Calls.mono (IH.out (some r1) (by omega) (by omega) _ P2.out) ?_
    rintro e w3 ⟨hg3, y, x1, xa, xc, xb, xd, rfl, hps3, hF3, hsz3, hpn3, hres3⟩
    have G3 := Lib.hid (G2.out.trans hg3)
    have Y3 := Lib.hid (Y2.out.gr hg3 hqp)
    have P3 := Lib.hid hps3
    have F3 := Lib.hid hF3
    have hs3 : w2.heap.size ≤ w3.heap.size := hg3.size
    have HRE := Lib.hid (show ((∃ r, (coreX (some (t1 :: r1))).bind (notP (n + 1)) = some (.mk 3 [] [] [] [x1], r) ∧ coreX y = some r) ∨ ((coreX (some (t1 :: r1))).bind (notP (n + 1)) = none ∧ y = none)) from by
      have e : (coreX (some (t1 :: r1))).bind (notP (n + 1)) = match notP n (r1.map core) with | none => none | some (x, r2) => some (.mk 3 [] [] [] [x], r2) := not_not T2.out
      rw [e]
      have hres3 : (∃ r, notP n (r1.map core) = some (x1, r) ∧ coreX y = some r) ∨ (notP n (r1.map core) = none ∧ y = none) := hres3
      rcases hres3 with ⟨r, h1, h2⟩ | ⟨h1, h2⟩
      · rw [h1]; exact Or.inl ⟨r, rfl, h2⟩
      · rw [h1]; exact Or.inr ⟨rfl, h2⟩)
    have HSZ := Lib.hid hsz3
    clear hg3 hps3 hF3 hsz3 hpn3 hres3
    obtain ⟨xn, exn, _⟩ := bs_bytes x1.name
    obtain ⟨xo, exo, _⟩ := bs_bytes x1.op
    obtain ⟨xk, hxk⟩ : ∃ z, z = x1.kind := ⟨_, rfl⟩
    obtain ⟨x1v, hx1v⟩ : ∃ z, z = x1.vals.length := ⟨_, rfl⟩
    obtain ⟨x1p, hx1p⟩ : ∃ z, z = x1.parts.length := ⟨_, rfl⟩
    have HXF := Lib.hid (And.intro hxk (And.intro exn (And.intro exo (And.intro hx1v hx1p))))
    rw [exn, exo, ← hxk, ← hx1v, ← hx1p]
    clear exn exo hxk hx1v hx1p
    have Y5 := Lib.hid (show Rw ((w3.alloc (.cells #[.int .i64 xk, .string xn, .string xo, .slice xa x1v xc, .slice xb x1p xd] 25)).alloc (.cells #[.int .i64 xk, .string xn, .string xo, .slice xa x1v xc, .slice xb x1p xd] 25)) w.heap.size #[.int .i64 0, .string ⟨#[]⟩, .string ⟨#[]⟩, .slice none 0 0, .slice none 0 0] from Y3.out.alloc2 _ _)
    go_wp2_with (skip; (refine wpList_store_rowTo rfl _ _ _ rfl rfl w.heap.size _ rfl rfl _ #[.int .i64 0, .string ⟨#[]⟩, .string ⟨#[]⟩, .slice none 0 0, .slice none 0 0] (by first | exact Y5.out) (by kernel_rfl) rfl (by simp [Value.oneCell']) ?_))
    refine retF Tryz.results67 rfl (Y5.out.set _).box rfl ?_
    have hX : (fltC x1 xa xc xb xd).toArray = #[.int .i64 xk, .string xn, .string xo, .slice xa x1v xc, .slice xb x1p xd] := by
      unfold fltC
      rw [HXF.out.2.1, HXF.out.2.2.1, ← HXF.out.1, ← HXF.out.2.2.2.1, ← HXF.out.2.2.2.2]
    have hfa : FltAt (w3.alloc (.cells #[.int .i64 xk, .string xn, .string xo, .slice xa x1v xc, .slice xb x1p xd] 25)) (fun g => w.heap.size < g ∧ g < w3.heap.size) x1 xa xb := F3.out.far fun g hg => ⟨⟨by omega, hg.2⟩, Below.heap_alloc _ _ _ hg.2⟩
    have hsz4 : (w3.alloc (.cells #[.int .i64 xk, .string xn, .string xo, .slice xa x1v xc, .slice xb x1p xd] 25)).heap.size = w3.heap.size + 1 := by simp
    have hsz5 : ((w3.alloc (.cells #[.int .i64 xk, .string xn, .string xo, .slice xa x1v xc, .slice xb x1p xd] 25)).alloc (.cells #[.int .i64 xk, .string xn, .string xo, .slice xa x1v xc, .slice xb x1p xd] 25)).heap.size = w3.heap.size + 2 := by simp
    have hnew := own_new (T := MineC w w.heap.size ((w3.alloc (.cells #[.int .i64 xk, .string xn, .string xo, .slice xa x1v xc, .slice xb x1p xd] 25)).alloc (.cells #[.int .i64 xk, .string xn, .string xo, .slice xa x1v xc, .slice xb x1p xd] 25))) (c := xc) (d := xd) hfa (fun g hg => ⟨by omega, hg.1, by omega, by omega⟩) (by refine ⟨?_, ?_, ?_⟩ <;> omega)
    rw [hX, hsz4] at hnew
    have hfin := ch_end (res := (coreX (some (t1 :: r1))).bind (notP (n + 1))) (n0 := lenX (some (t1 :: r1))) (f := .mk 3 [] [] [] [x1]) (a := none) (c := 0) (b := some ⟨w3.heap.size + 1, 0, none⟩) (d := 1) (q := w.heap.size) (cs := #[.int .i64 0, .string ⟨#[]⟩, .string ⟨#[]⟩, .slice none 0 0, .slice none 0 0]) hz hp (gr_alloc (gr_alloc G3.out _) _) ((P3.out.alloc hz (.cells #[.int .i64 xk, .string xn, .string xo, .slice xa x1v xc, .slice xb x1p xd] 25)).alloc hz (.cells #[.int .i64 xk, .string xn, .string xo, .slice xa x1v xc, .slice xb x1p xd] 25)) (FltAt.mk' ⟨by simp [Flt.name], by simp [Flt.op], by simp [Flt.kind], by simp [Flt.kind], by simp [Flt.parts, maxLen]⟩ ⟨by simp [Flt.vals], fun v hv => by simp [Flt.vals] at hv, fun h => by simp [Flt.vals] at h⟩ hnew) (by rw [sz, szL, szL]; have := HSZ.out; omega) (fun h => by simp [Flt.parts]) HRE.out #[.int .i64 3, .string ⟨#[]⟩, .string ⟨#[]⟩, .slice none 0 0, .slice (some ⟨w3.heap.size + 1, 0, none⟩) 1 1]
    exact hfin
  · have hs2 : w1.heap.size ≤ w2.heap.size := hg.size
    have T2 := Lib.hid (show (coreX x0).bind (takes wNot) = none from ht)
    have G2 := Lib.hid (G1.out.trans hg)
    have Y2 := Lib.hid (Y1.out.gr hg hqp)
    have P2 := Lib.hid hps
    clear hg hps ht
    go_wp2_with fail
    refine Calls.mono (ptakes_any L hl x0 ⟨#[40]⟩ p z hz _ P2.out) ?_
    rintro e w3 ⟨hg, ⟨t1, r1, rfl, ht, rfl, hps⟩ | ⟨ht, rfl, hps⟩⟩
    · have hs3 : w2.heap.size ≤ w3.heap.size := hg.size
      have T3 := Lib.hid (show takes sOpen ((t1 :: r1).map core) = some (r1.map core) from ht)
      have G3 := Lib.hid (G2.out.trans hg)
      have Y3 := Lib.hid (Y2.out.gr hg hqp)
      have P3 := Lib.hid hps
      have hl1 : lenX (some (t1 :: r1)) = r1.length + 1 := rfl
      have hr1 : lenX (some r1) = r1.length := rfl
      clear hg hps ht
      go_wp2_with fail
      refine Calls.mono (HOR.out (some r1) (by omega) (by omega) _ P3.out) ?_
      rintro e w4 ⟨hg4, y, x1, xa, xc, xb, xd, rfl, hps4, hF4, hsz4, hpn4, hres4⟩
      have G4 := Lib.hid (G3.out.trans hg4)
      have Y4 := Lib.hid (Y3.out.gr hg4 hqp)
      have F4 := Lib.hid hF4
      have hs4 : w3.heap.size ≤ w4.heap.size := hg4.size
      have HR4 := Lib.hid (show (∃ r, chainP wOr 2 (chainP wAnd 1 (notP n)) (r1.map core) = some (x1, r) ∧ coreX y = some r) ∨ (chainP wOr 2 (chainP wAnd 1 (notP n)) (r1.map core) = none ∧ y = none) from hres4)
      have HSZ := Lib.hid hsz4
      have HPN := Lib.hid hpn4
      obtain ⟨xn, exn, _⟩ := bs_bytes x1.name
      obtain ⟨xo, exo, _⟩ := bs_bytes x1.op
      obtain ⟨xk, hxk⟩ : ∃ z, z = x1.kind := ⟨_, rfl⟩
      obtain ⟨x1v, hx1v⟩ : ∃ z, z = x1.vals.length := ⟨_, rfl⟩
      obtain ⟨x1p, hx1p⟩ : ∃ z, z = x1.parts.length := ⟨_, rfl⟩
      have HXF := Lib.hid (And.intro hxk (And.intro exn (And.intro exo (And.intro hx1v hx1p))))
      rw [exn, exo, ← hxk, ← hx1v, ← hx1p]
      clear exn exo hxk hx1v hx1p
      obtain ⟨w5, hw5⟩ : ∃ v, v = w4.alloc (.cells #[.int .i64 xk, .string xn, .string xo, .slice xa x1v xc, .slice xb x1p xd] 25) := ⟨_, rfl⟩
      have HW5 := Lib.hid hw5
      have hs5 : w5.heap.size = w4.heap.size + 1 := by rw [hw5]; simp
      have P5 := Lib.hid (show PS w5 p z L y by rw [hw5]; exact hps4.alloc hz _)
      have Y5 := Lib.hid (show Rw w5 w.heap.size #[.int .i64 0, .string ⟨#[]⟩, .string ⟨#[]⟩, .slice none 0 0, .slice none 0 0] by rw [hw5]; exact Y4.out.alloc _)
      have Q5 := Lib.hid (show Rw w5 w4.heap.size #[.int .i64 xk, .string xn, .string xo, .slice xa x1v xc, .slice xb x1p xd] by rw [hw5]; exact Rw.new ..)
      have G5 := Lib.hid (show w.grownBy w5 (some p) by rw [hw5]; exact gr_alloc G4.out _)
      have F5 := Lib.hid (show FltAt w5 (MineC w w.heap.size w5) x1 xa xb by rw [hw5]; exact F4.out.far fun g hg => ⟨⟨by omega, by have := hg.2; simp; omega, by omega⟩, Below.heap_alloc _ _ _ hg.2⟩)
      clear hw5 hg4 hps4 hF4 hsz4 hpn4 hres4
      go_wp2_with fail
      rw [← HW5.out]
      refine Calls.mono (pmust_any L hl y ⟨#[41]⟩ p z hz _ P5.out) ?_
      rintro e w6 ⟨hg6, y2, rfl, hps6, hy2⟩
      have G6 := Lib.hid (G5.out.trans hg6)
      have Y6 := Lib.hid (Y5.out.gr hg6 hqp)
      have Q6 := Lib.hid (Q5.out.gr hg6 (by omega))
      have P6 := Lib.hid hps6
      have F6 := Lib.hid (F5.out.far (MineC.step hg6 (by omega)))
      have HRE := Lib.hid (show ((∃ r, (coreX (some (t1 :: r1))).bind (notP (n + 1)) = some (x1, r) ∧ coreX y2 = some r) ∨ ((coreX (some (t1 :: r1))).bind (notP (n + 1)) = none ∧ y2 = none)) from by
        have e : (coreX (some (t1 :: r1))).bind (notP (n + 1)) = match chainP wOr 2 (chainP wAnd 1 (notP n)) (r1.map core) with | none => none | some (f, r2) => (match takes sShut r2 with | none => none | some r3 => some (f, r3)) := not_open (show takes wNot ((t1 :: r1).map core) = none from T2.out) T3.out
        rw [e]
        have hy2 : coreX y2 = (coreX y).bind (takes sShut) := hy2
        rcases HR4.out with ⟨r, h1, h2⟩ | ⟨h1, h2⟩
        · rw [h1]
          rw [h2] at hy2
          have hy2 : coreX y2 = takes sShut r := hy2
          simp only
          cases h3 : takes sShut r with
          | none =>
            rw [h3] at hy2
            cases y2 with
            | none => exact Or.inr ⟨rfl, rfl⟩
            | some u => cases hy2
          | some r3 => rw [h3] at hy2; exact Or.inl ⟨r3, rfl, hy2⟩
        · rw [h1]
          rw [h2] at hy2
          cases y2 with
          | none => exact Or.inr ⟨rfl, rfl⟩
          | some u => cases hy2)
      clear hg6 hps6 hy2
      obtain ⟨c0, c1, c2, c3, c4⟩ := Q6.out.box
      have cl : w4.heap.size < w6.heap.size := Q6.out.lt
      go_wp2_with (skip; (refine wpList_store_rowTo rfl _ _ _ rfl rfl w.heap.size _ rfl rfl _ #[.int .i64 0, .string ⟨#[]⟩, .string ⟨#[]⟩, .slice none 0 0, .slice none 0 0] (by first | exact Y6.out) (by kernel_rfl) rfl (by simp [Value.oneCell']) ?_))
      refine retF Tryz.results67 rfl (Y6.out.set _).box rfl ?_
      have hfin := ch_end (res := (coreX (some (t1 :: r1))).bind (notP (n + 1))) (n0 := lenX (some (t1 :: r1))) (f := x1) (a := xa) (c := xc) (b := xb) (d := xd) (q := w.heap.size) (cs := #[.int .i64 0, .string ⟨#[]⟩, .string ⟨#[]⟩, .slice none 0 0, .slice none 0 0]) hz hp G6.out P6.out F6.out (by have := HSZ.out; omega) HPN.out HRE.out #[.int .i64 xk, .string xn, .string xo, .slice xa x1v xc, .slice xb x1p xd]
      rw [HXF.out.2.1, HXF.out.2.2.1, ← HXF.out.1, ← HXF.out.2.2.2.1, ← HXF.out.2.2.2.2] at hfin
      exact hfin
    · have hs3 : w2.heap.size ≤ w3.heap.size := hg.size
      have T3 := Lib.hid (show (coreX x0).bind (takes sOpen) = none from ht)
      have G3 := Lib.hid (G2.out.trans hg)
      have Y3 := Lib.hid (Y2.out.gr hg hqp)
      have P3 := Lib.hid hps
      clear hg hps ht
      go_wp2_with fail
      refine Calls.mono (ptakes_any L hl x0 ⟨#[116, 114, 117, 101]⟩ p z hz _ P3.out) ?_
      rintro e w4 ⟨hg, ⟨t1, r1, rfl, ht, rfl, hps⟩ | ⟨ht, rfl, hps⟩⟩
      · have hs4 : w3.heap.size ≤ w4.heap.size := hg.size
        have T4 := Lib.hid (show takes wTrue ((t1 :: r1).map core) = some (r1.map core) from ht)
        have G4 := Lib.hid (G3.out.trans hg)
        have Y4 := Lib.hid (Y3.out.gr hg hqp)
        have P4 := Lib.hid hps
        have hl1 : lenX (some (t1 :: r1)) = r1.length + 1 := rfl
        have hr1 : lenX (some r1) = r1.length := rfl
        clear hg hps ht
        have HRE := Lib.hid (show (coreX (some (t1 :: r1))).bind (notP (n + 1)) = some (.mk 7 [] [] [] [], r1.map core) from not_true (show takes wNot ((t1 :: r1).map core) = none from T2.out) (show takes sOpen ((t1 :: r1).map core) = none from T3.out) T4.out)
        go_wp2_with (skip; (refine wpList_store_rowTo rfl _ _ _ rfl rfl w.heap.size _ rfl rfl _ #[.int .i64 0, .string ⟨#[]⟩, .string ⟨#[]⟩, .slice none 0 0, .slice none 0 0] (by first | exact Y4.out) (by kernel_rfl) rfl (by simp [Value.oneCell']) ?_))
        refine retF Tryz.results67 rfl (Y4.out.set _).box rfl ?_
        have hfin := ch_end (res := (coreX (some (t1 :: r1))).bind (notP (n + 1))) (n0 := lenX (some (t1 :: r1))) (f := .mk 7 [] [] [] []) (a := none) (c := 0) (b := none) (d := 0) (q := w.heap.size) (cs := #[.int .i64 0, .string ⟨#[]⟩, .string ⟨#[]⟩, .slice none 0 0, .slice none 0 0]) hz hp G4.out P4.out (FltAt.mk' ⟨by simp [Flt.name], by simp [Flt.op], by simp [Flt.kind], by simp [Flt.kind], by simp [Flt.parts]⟩ ⟨by simp [Flt.vals], fun v hv => by simp [Flt.vals] at hv, fun h => by simp [Flt.vals] at h⟩ (by rw [show (Flt.mk 7 [] [] [] []).parts = [] from rfl, PartsAt]; trivial)) (by rw [sz, szL]; omega) (fun h => by simp [Flt.kind] at h) (Or.inl ⟨_, HRE.out, rfl⟩) #[.int .i64 7, .string ⟨#[]⟩, .string ⟨#[]⟩, .slice none 0 0, .slice none 0 0]
        exact hfin
      · have hs4 : w3.heap.size ≤ w4.heap.size := hg.size
        have T4 := Lib.hid (show (coreX x0).bind (takes wTrue) = none from ht)
        have G4 := Lib.hid (G3.out.trans hg)
        have Y4 := Lib.hid (Y3.out.gr hg hqp)
        have P4 := Lib.hid hps
        clear hg hps ht
        have HRE := Lib.hid (show (coreX x0).bind (notP (n + 1)) = (coreX x0).bind leafP from by
          cases x0 with
          | none => rfl
          | some ts => exact not_leaf (show takes wNot (ts.map core) = none from T2.out) (show takes sOpen (ts.map core) = none from T3.out) (show takes wTrue (ts.map core) = none from T4.out))
        go_wp2_with fail
        refine Calls.mono (pleaf_any L hl HGT.out x0 hx6 p z hz _ P4.out) ?_
        rintro e w5 ⟨hg5, y, x1, xa, xc, xb, xd, rfl, hps5, hF5, hsz5, hpn5, hres5⟩
        have G5 := Lib.hid (G4.out.trans hg5)
        have Y5 := Lib.hid (Y4.out.gr hg5 hqp)
        have P5 := Lib.hid hps5
        have F5 := Lib.hid (show FltAt w5 (MineC w w.heap.size w5) x1 xa xb from hF5.far fun g hg => ⟨⟨by omega, hg.2, by omega⟩, rfl⟩)
        have HRL := Lib.hid hres5
        have HSZ := Lib.hid hsz5
        have HPN := Lib.hid hpn5
        clear hg5 hps5 hF5 hsz5 hpn5 hres5
        obtain ⟨xn, exn, _⟩ := bs_bytes x1.name
        obtain ⟨xo, exo, _⟩ := bs_bytes x1.op
        obtain ⟨xk, hxk⟩ : ∃ z, z = x1.kind := ⟨_, rfl⟩
        obtain ⟨x1v, hx1v⟩ : ∃ z, z = x1.vals.length := ⟨_, rfl⟩
        obtain ⟨x1p, hx1p⟩ : ∃ z, z = x1.parts.length := ⟨_, rfl⟩
        have HXF := Lib.hid (And.intro hxk (And.intro exn (And.intro exo (And.intro hx1v hx1p))))
        rw [exn, exo, ← hxk, ← hx1v, ← hx1p]
        clear exn exo hxk hx1v hx1p
        go_wp2_with (skip; (refine wpList_store_rowTo rfl _ _ _ rfl rfl w.heap.size _ rfl rfl _ #[.int .i64 0, .string ⟨#[]⟩, .string ⟨#[]⟩, .slice none 0 0, .slice none 0 0] (by first | exact Y5.out) (by kernel_rfl) rfl (by simp [Value.oneCell']) ?_))
        refine retF Tryz.results67 rfl (Y5.out.set _).box rfl ?_
        have hfin := ch_end (res := (coreX x0).bind (notP (n + 1))) (n0 := lenX x0) (f := x1) (a := xa) (c := xc) (b := xb) (d := xd) (q := w.heap.size) (cs := #[.int .i64 0, .string ⟨#[]⟩, .string ⟨#[]⟩, .slice none 0 0, .slice none 0 0]) hz hp G5.out P5.out F5.out HSZ.out HPN.out (by rw [HRE.out]; exact HRL.out) #[.int .i64 xk, .string xn, .string xo, .slice xa x1v xc, .slice xb x1p xd]
        rw [HXF.out.2.1, HXF.out.2.2.1, ← HXF.out.1, ← HXF.out.2.2.2.1, ← HXF.out.2.2.2.2] at hfin
        exact hfin
theorem pnot_all (L : List Tok) (hl : L.length ≤ 600) (hg : ∀ t ∈ L, TG t) (p z : Nat) (hz : z ≤ p) : ∀ n, PokX 67 (notP n) p z L n
  | 0 => fun x hx => by omega
  | n + 1 => pnot_step L hl hg p z hz n (pnot_all L hl hg p z hz n) (por_any _ (chain_con (not_con n)) L hl p z hz n (pand_any _ (not_con n) L hl p z hz n (pnot_all L hl hg p z hz n)))
theorem por_all (L : List Tok) (hl : L.length ≤ 600) (hg : ∀ t ∈ L, TG t) (p z : Nat) (hz : z ≤ p) (n : Nat) : PokX 28 (orP n) p z L n :=
  por_any _ (chain_con (not_con n)) L hl p z hz n (pand_any _ (not_con n) L hl p z hz n (pnot_all L hl hg p z hz n))
end Go.Proofs.YtjffnjiggcfhcaaGreatDoor.Fl
/-
  Contracts of As of the statements' own package (tokens, as the document's) and of Tokens of the document's answer (are tokens the same?), at two lists that are. Memory that was there is left as it was.
-/
namespace Go.Proofs.YtjffnjiggcfhcaaGreatDoor.Tk
open Go.RowKit
set_option linter.unusedVariables false
set_option linter.unusedSimpArgs false

theorem infoRef : (Tryz.prog.info? 76).map (fun i => (i.zero, i.size, i.bytes)) = some (some (.agg #[.int .i64 0, .int .i64 0, .int .i64 0, .string ⟨#[]⟩]), 4, 40) := by kernel_rfl
def AsR (w : World) (t : TypeId) (ts : List Tok) (vi vo : Value) (wr : World) : Prop :=
  ∃ k : Nat, vi = .int .i64 (k : Nat) ∧ k ≤ ts.length ∧ wr.ownsRow w.heap.size t 4 vo k (cellsT (ts.take k)) ∧ Below w.heap.size w wr

theorem neq_same (a b c : Int) (s : ByteArray) (w : World) : (binOp .neq 76 (.agg #[.int .i64 a, .int .i64 b, .int .i64 c, .string s]) (.agg #[.int .i64 a, .int .i64 b, .int .i64 c, .string s])).run Tryz.prog w = .ok (.bool false) w := by
  simp [go_sem]
def TokR (ts : List Tok) (w : World) (vi : Value) (wr : World) : Prop := ∃ k : Nat, vi = .int .i64 (k : Nat) ∧ k ≤ ts.length ∧ Below w.heap.size w wr
end Go.Proofs.YtjffnjiggcfhcaaGreatDoor.Tk
/-
  Contract of the document's answer Cut: all tokens of a text, in a slice of the call's own, or why it has none. Memory that was there is left as it was.
-/
namespace Go.Proofs.YtjffnjiggcfhcaaGreatDoor.Tk
open Go.RowKit
set_option linter.unusedVariables false
set_option linter.unusedSimpArgs false

theorem refCut_large (s : ByteArray) (hs : 500 < s.size) (w : World) : Calls Tryz.prog 27 #[.string s] w fun e w' => e = .returned (.tuple #[.slice none 0 0, .int .i64 5]) ∧ w = w' := by
  have hz : (500 : Int) < (s.size : Int) := by omega
  go_enter Tryz.func27, Tryz.ntmps27
  go_wp2_with fail
  exact bodyPost_ret (v := .tuple #[.slice none 0 0, .int .i64 5]) (by simp [results, Tryz.results27, go_sem]) rfl ⟨rfl, rfl⟩

set_option maxRecDepth 100000 in
set_option maxHeartbeats 4000000 in
theorem refCut_any (s : ByteArray) (hs : s.size ≤ 500) (w : World) :
    Calls Tryz.prog 27 #[.string s] w fun e w' => CutEnd w w' 76 (.int .i64 2) (.int .i64 0) e (cutAt 0 s.data.toList) ∧ Below w.heap.size w w' := by
  have hz : ¬ (500 : Int) < (s.size : Int) := by omega
  have HS := Lib.hid (Lib.size_eq s)
  have H5 := Lib.hid hs
  obtain ⟨i0, hi, hz0, hz1, hz2⟩ := info_cut infoRef
  clear hs
  go_enter Tryz.func27, Tryz.ntmps27
  go_wp2_with fail
  go_loopw [5, 4] (fun va vl wr => CutR w 76 s.data.toList va vl wr) (fun va _ _ => s.size - nOf va)
  case atStart => exact ⟨0, [], rfl, Nat.zero_le _, Lib.hid (by simp), Nat.le_refl _, World.ownsRow_nil _ _ _ _, Below.refl _ _⟩
  case round =>
    obtain ⟨a, ts, rfl, ha, hC, ht, hO, hB⟩ := hrel
    have HA := Lib.hid ha
    have HT := Lib.hid ht
    have HO := Lib.hid hO
    have HB := Lib.hid hB
    clear ha ht hO hB
    by_cases hlt : a < s.size
    · have hlz : (a : Int) < (s.size : Int) := by omega
      have hlz2 : (a : Int) ≤ (s.size : Int) := by omega
      obtain ⟨c, hc⟩ : ∃ c, s[a] = c := ⟨_, rfl⟩
      obtain ⟨r, hr⟩ : ∃ r, s.data.toList.drop a = c :: r := by
        have h1 := Lib.data_getElem? s a hlt
        rw [hc] at h1
        obtain ⟨h2, h3⟩ := List.getElem?_eq_some_iff.1 h1
        exact ⟨_, by rw [List.drop_eq_getElem_cons h2, h3]⟩
      have HR := Lib.hid hr
      clear hr
      by_cases h32 : c.toNat = 32
      · have h32z : ((c.toNat : Nat) : Int) = 32 := by omega
        have HN := Lib.hid (cut_space hC.out HR.out h32)
        clear h32
        go_wp2_with fail
        go_roundw
        case rel => exact ⟨a + 1, ts, by go_num, by have := HS.out; omega, HN, by have := HT.out; omega, HO.out, HB.out⟩
        case measure => simp [nOf]; omega
      · have h32z : ¬ ((c.toNat : Nat) : Int) = 32 := by omega
        have CF := Lib.hid (fun W => refOne_any s H5.out a c r HR.out W)
        have H32 := Lib.hid h32
        clear h32
        cases hx : lex (c :: r) with
        | none =>
          rw [hx] at CF
          have HN := Lib.hid (cut_bad hC.out HR.out H32.out hx)
          clear hx
          go_wp2_with fail
          refine (CF.out _).mono ?_
          rintro e w1 ⟨⟨k, p, n, str, z, rfl⟩, hb1⟩
          have B1 := Lib.hid (HB.out.trans (hb1.mono HB.out.size))
          clear hb1
          go_wp2_with fail
          refine bodyPost_ret (v := .tuple #[.slice none 0 0, .int .i64 2]) (by simp [results, Tryz.results27, go_sem]) rfl ⟨?_, ?_⟩
          · rw [HN.out]; exact rfl
          · exact B1.out.alloc B1.out.size _
        | some x =>
          rw [hx] at CF
          have HN := Lib.hid (cut_step hC.out HR.out H32.out hx)
          clear hx
          go_wp2_with fail
          refine (CF.out _).mono ?_
          rintro e w1 ⟨he0, hb1⟩
          have he : e = .returned (.tuple #[.agg #[.int .i64 x.kind, .int .i64 (a : Nat), .int .i64 x.num, .string ⟨x.str.toArray⟩], .int .i64 ((a + x.size : Nat) : Int), .bool true]) := he0
          clear he0
          have B1 := Lib.hid (HB.out.trans (hb1.mono HB.out.size))
          have O1 := Lib.hid (own4_later HO.out hb1)
          obtain ⟨k, hk⟩ : ∃ k, k = x.kind := ⟨_, rfl⟩
          obtain ⟨n, hn⟩ : ∃ n, n = x.num := ⟨_, rfl⟩
          obtain ⟨str, hstr⟩ : ∃ str : ByteArray, str = ⟨x.str.toArray⟩ := ⟨_, rfl⟩
          obtain ⟨z, hz⟩ : ∃ z, z = a + x.size := ⟨_, rfl⟩
          rw [← hk, ← hn, ← hstr, ← hz] at he
          subst he
          have HZ := Lib.hid (show z ≤ 500 ∧ a < z by have := HN.out.1; have := HN.out.2.1; have := HS.out; have := H5.out; omega)
          have HTOK := Lib.hid (show cellT ⟨x.kind, a, x.num, x.str⟩ = [.int .i64 k, .int .i64 (a : Nat), .int .i64 n, .string str] by rw [hk, hn, hstr]; rfl)
          have HZ2 := Lib.hid hz
          clear hk hn hstr hz
          have OW := Lib.hid (((O1.out).alloc (.cells #[.int .i64 k, .int .i64 (a : Nat), .int .i64 n, .string str] 76)).alloc (.cells #[.int .i64 k, .int .i64 (a : Nat), .int .i64 n, .string str] 76))
          have BW := Lib.hid ((B1.out.alloc B1.out.size (.cells #[.int .i64 k, .int .i64 (a : Nat), .int .i64 n, .string str] 76)).alloc (by have := B1.out.size; simp; omega) (.cells #[.int .i64 k, .int .i64 (a : Nat), .int .i64 n, .string str] 76))
          have NW := Lib.hid (news4 (w1.alloc (.cells #[.int .i64 k, .int .i64 (a : Nat), .int .i64 n, .string str] 76)) (.int .i64 k) (.int .i64 (a : Nat)) (.int .i64 n) (.string str) 76)
          rw [show (w1.alloc (.cells #[.int .i64 k, .int .i64 (a : Nat), .int .i64 n, .string str] 76)).heap.size = w1.heap.size + 1 by simp] at NW
          obtain ⟨m, hm⟩ : ∃ m, m = ts.length := ⟨_, rfl⟩
          rw [← hm] at OW
          have HM := Lib.hid hm
          have HMB := Lib.hid (show m + 1 ≤ 501 by have := HT.out; have := HZ.out; omega)
          clear hb1 hm
          go_wp2_with (first | (at_builtin; refine wpList_append_own_at _ rfl _ _ 58 rfl w.heap.size 76 i0 (.agg #[.int .i64 0, .int .i64 0, .int .i64 0, .string ⟨#[]⟩]) 4 40 Tryz.underlying58 hi hz0 hz1 hz2 rfl (by decide) _ _ _ rfl OW.out ⟨w1.heap.size + 1, 0, none⟩ 1 1 [.int .i64 k, .int .i64 (a : Nat), .int .i64 n, .string str] rfl rfl NW.out (one4 k _ n str) (by have := HMB.out; unfold maxLen; omega) (by have := HMB.out; omega) BW.out.size ?_))
          intro v1 w3 hown hgrow _ _
          have HBn := Lib.hid (own4_below BW.out OW.out hgrow)
          have HOn := Lib.hid (show w3.ownsRow w.heap.size 76 4 v1 (ts ++ [(⟨x.kind, a, x.num, x.str⟩ : Tok)]).length (cellsT (ts ++ [(⟨x.kind, a, x.num, x.str⟩ : Tok)])) by
            rw [cellsT_app, HTOK.out, List.length_append, ← HM.out]; exact hown)
          clear hgrow hown
          go_wp2
          go_roundw
          case rel => first | exact ⟨z, ts ++ [(⟨x.kind, a, x.num, x.str⟩ : Tok)], rfl, by rw [HZ2.out]; exact HN.out.1, by rw [HZ2.out]; exact HN.out.2.2, by have := HT.out; have := HZ.out; simp; omega, HOn.out, HBn.out⟩ | ((repeat apply Exists.intro); exact ⟨⟨z, ts ++ [(⟨x.kind, a, x.num, x.str⟩ : Tok)], rfl, by rw [HZ2.out]; exact HN.out.1, by rw [HZ2.out]; exact HN.out.2.2, by have := HT.out; have := HZ.out; simp; omega, HOn.out, HBn.out⟩, rfl⟩)
          case measure =>
            have h9 := HZ.out
            simp [nOf]
            omega
    · have hlz : ¬ (a : Int) < (s.size : Int) := by omega
      have HN := Lib.hid (cut_all hC.out (by have := HS.out; have := HA.out; omega))
      go_wp2_with fail
      refine bodyPost_ret (v := .tuple #[_, .int .i64 0]) (by simp [results, Tryz.results27, go_sem]; rfl) rfl ⟨?_, HB.out⟩
      rw [HN.out]
      exact ⟨_, rfl, HO.out⟩
end Go.Proofs.YtjffnjiggcfhcaaGreatDoor.Tk
/-
  Contract of Read of the document's answer: a text is read as a filter, or not. Memory that was there is left as it was.
-/
namespace Go.Proofs.YtjffnjiggcfhcaaGreatDoor.Fl
open Go.RowKit Go.Proofs.YtjffnjiggcfhcaaGreatDoor.Tk
set_option linter.unusedVariables false
set_option linter.unusedSimpArgs false

theorem refCut_all (s : ByteArray) (w : World) : Calls Tryz.prog 27 #[.string s] w fun e w' =>
    ((∃ n : Nat, e = .returned (.tuple #[.slice none 0 0, .int .i64 n]) ∧ (500 < s.size ∧ n = 5 ∨ s.size ≤ 500 ∧ n = 2 ∧ cutAt 0 s.data.toList = none)) ∨
    (∃ ts a cap, e = .returned (.tuple #[.slice a ts.length cap, .int .i64 0]) ∧ s.size ≤ 500 ∧ cutAt 0 s.data.toList = some ts ∧ TksAt w' w'.heap.size a ts)) ∧ Below w.heap.size w w' := by
  by_cases h5 : s.size ≤ 500
  · refine (refCut_any s h5 w).mono ?_
    rintro e w1 ⟨hc, hb⟩
    refine ⟨?_, hb⟩
    cases hC : cutAt 0 s.data.toList with
    | none =>
      rw [hC] at hc
      exact Or.inl ⟨2, hc, Or.inr ⟨h5, rfl, rfl⟩⟩
    | some ts =>
      rw [hC] at hc
      obtain ⟨u, rfl, ho⟩ := hc
      obtain ⟨a, cap, rfl, ht⟩ := own_tks ho
      exact Or.inr ⟨ts, a, cap, rfl, h5, rfl, ht⟩
  · refine (refCut_large s (by omega) w).mono ?_
    rintro e w1 ⟨rfl, rfl⟩
    exact ⟨Or.inl ⟨5, rfl, Or.inl ⟨by omega, rfl⟩⟩, Below.refl _ _⟩
def RReadEnd (l : List UInt8) (w w' : World) (e : Ending) : Prop :=
  Below w.heap.size w w' ∧ ((∃ n : Nat, e = .returned (.tuple #[.agg #[.int .i64 0, .string ⟨#[]⟩, .string ⟨#[]⟩, .slice none 0 0, .slice none 0 0], .int .i64 n]) ∧ NoFlt l n) ∨
    (∃ f a c b d, readL l = some f ∧ mayB f 10 60 = true ∧ l.length ≤ 500 ∧ e = .returned (.tuple #[.agg #[.int .i64 f.kind, bs f.name, bs f.op, .slice a f.vals.length c, .slice b f.parts.length d], .int .i64 0]) ∧ FltAt w' (fun g => w.heap.size ≤ g ∧ g < w'.heap.size) f a b))
set_option maxHeartbeats 8000000 in
set_option maxRecDepth 100000 in
theorem refRead_any (s : ByteArray) (w : World) : Calls Tryz.prog 14 #[.string s] w fun e w' => RReadEnd s.data.toList w w' e := by
  have HSZ := Lib.hid (show s.size = s.data.toList.length by rw [Array.length_toList]; rfl)
  obtain ⟨w1, hw1⟩ : ∃ v, v = w.alloc (.cells #[.int .i64 0, .string ⟨#[]⟩, .string ⟨#[]⟩, .slice none 0 0, .slice none 0 0] 25) := ⟨_, rfl⟩
  have HW := Lib.hid hw1
  have B1 := Lib.hid (show Below w.heap.size w w1 by rw [hw1]; exact (Below.refl _ _).alloc (Nat.le_refl _) _)
  have X1 := Lib.hid (show Rw w1 w.heap.size #[.int .i64 0, .string ⟨#[]⟩, .string ⟨#[]⟩, .slice none 0 0, .slice none 0 0] by rw [hw1]; exact Rw.new ..)
  have CC := Lib.hid (refCut_all s w1)
  clear hw1
  go_enter Tryz.func14, Tryz.ntmps14
  go_wp2_with fail
  rw [← HW.out]
  refine Calls.mono CC.out ?_
  rintro e w2 ⟨⟨n, rfl, hno⟩ | ⟨ts, a, cap, rfl, h500, hcut, htk⟩, hb2⟩
  · have B2 := Lib.hid (B1.out.trans (hb2.mono B1.out.size))
    have X2 := Lib.hid (X1.out.later hb2)
    have HN := Lib.hid (show NoFlt s.data.toList n by
      rcases hno with ⟨h1, h2⟩ | ⟨h1, h2, h3⟩
      · exact Or.inl ⟨by rw [← HSZ.out]; exact h1, by rw [h2]; rfl⟩
      · exact Or.inr (Or.inl ⟨by rw [← HSZ.out]; exact h1, by rw [h2]; rfl, h3⟩))
    have hn0 : ¬ (n : Int) = 0 := by rcases hno with ⟨_, h⟩ | ⟨_, h, _⟩ <;> omega
    have hnb : ((n : Int) == 0) = false := by rw [beq_eq_false_iff_ne]; exact hn0
    have hne : ((n : Int) != 0) = true := by rw [bne, hnb]; rfl
    clear hb2 hno
    go_wp2_with (skip; (refine wpList_store_rowTo rfl _ _ _ rfl rfl w.heap.size _ rfl rfl _ #[.int .i64 0, .string ⟨#[]⟩, .string ⟨#[]⟩, .slice none 0 0, .slice none 0 0] (by first | exact X2.out) (by kernel_rfl) rfl (by simp [Value.oneCell']) ?_))
    refine ret5 Tryz.results14 rfl rfl (X2.out.set _).box rfl ?_
    exact ⟨gr_below (p := w.heap.size) (gr_row (gr_of_below B2.out) (Nat.le_refl _) _) (Nat.le_refl _) (Nat.le_refl _), Or.inl ⟨n, rfl, HN.out⟩⟩
  · obtain ⟨pp, hpp⟩ : ∃ q, q = w2.heap.size := ⟨_, rfl⟩
    obtain ⟨w3, hw3⟩ : ∃ v, v = w2.alloc (.cells #[.slice a ts.length cap, .int .i64 0, .bool false] 63) := ⟨_, rfl⟩
    have HW3 := Lib.hid hw3
    have HL5 := Lib.hid (show s.data.toList.length ≤ 500 by rw [← HSZ.out]; exact h500)
    have HTL := Lib.hid (show ts.length ≤ 500 by have := cut_count _ _ _ _ (Nat.le_refl _) hcut; have := HL5.out; omega)
    have HRL := Lib.hid (readL_cut hcut)
    have HCT := Lib.hid hcut
    have X3 := Lib.hid (show Rw w3 w.heap.size #[.int .i64 0, .string ⟨#[]⟩, .string ⟨#[]⟩, .slice none 0 0, .slice none 0 0] by rw [hw3]; exact (X1.out.later hb2).alloc _)
    have G3 := Lib.hid (show w.grownBy w3 (some pp) by rw [hw3]; exact gr_alloc (gr_of_below (B1.out.trans (hb2.mono B1.out.size))) _)
    have HPL := Lib.hid (show w.heap.size < pp ∧ w3.heap.size = pp + 1 from ⟨by rw [hpp]; have := X1.out.lt; have := hb2.size; omega, by rw [hw3, hpp]; simp⟩)
    have P3 := Lib.hid (show PS w3 pp pp ts (some ts) by
      rw [hw3, hpp]
      exact ⟨a, cap, 0, Nat.zero_le _, by simp [go_sem], by simp [go_sem], by simp [go_sem], fun o => by simp [go_sem], (toks_of htk).far fun g hg => ⟨hg, Below.heap_alloc _ _ _ hg⟩, fun ts' e => by cases e; rfl⟩)
    have CR := Lib.hid (por_all ts (by have := HTL.out; omega) (cut_TG HL5.out hcut) pp pp (Nat.le_refl _) (ts.length + 1) (some ts) (Nat.lt_succ_self _) (by show ts.length ≤ 600; have := HTL.out; omega) w3 P3.out)
    obtain ⟨nt, hnt⟩ : ∃ x, x = ts.length := ⟨_, rfl⟩
    have HNT := Lib.hid hnt
    rw [← hnt] at HW3 ⊢
    have HPE := Lib.hid hpp
    have hwp : ¬ w.heap.size = pp := by have := HPL.out; omega
    clear hw3 h500 hcut htk hb2 hnt hpp
    go_wp2_with fail
    rw [← HW3.out, ← HPE.out]
    refine Calls.mono CR.out ?_
    rintro e w4 ⟨hg4, y, f, a', c', b', d', rfl, hps4, hF4, hsz4, hpn4, hres4⟩
    have G4 := Lib.hid (G3.out.trans hg4)
    have X4 := Lib.hid (X3.out.gr hg4 hwp)
    have HRS := Lib.hid (show (∃ r, orP (ts.length + 1) (ts.map core) = some (f, r) ∧ coreX y = some r) ∨ (orP (ts.length + 1) (ts.map core) = none ∧ y = none) from hres4)
    have HSF := Lib.hid (show sz f ≤ 5000 by have := HTL.out; have h6 : lenX (some ts) = ts.length := rfl; omega)
    obtain ⟨sn, esn, _⟩ := bs_bytes f.name
    obtain ⟨so, eso, _⟩ := bs_bytes f.op
    obtain ⟨fk, hfk⟩ : ∃ x, x = f.kind := ⟨_, rfl⟩
    obtain ⟨n1, hn1⟩ : ∃ x, x = f.vals.length := ⟨_, rfl⟩
    obtain ⟨n2, hn2⟩ : ∃ x, x = f.parts.length := ⟨_, rfl⟩
    have HFV := Lib.hid (And.intro hfk (And.intro esn (And.intro eso (And.intro hn1 hn2))))
    rw [esn, eso, ← hfk, ← hn1, ← hn2]
    have P4 := Lib.hid hps4
    have F4 := Lib.hid hF4
    have hs4 : w3.heap.size ≤ w4.heap.size := hg4.size
    clear hg4 hps4 hF4 hsz4 hpn4 hres4 esn eso hfk hn1 hn2
    obtain ⟨pa, pc, at_, h1, c0, c1, c2, _, _, hx⟩ := P4.out
    have pl : pp < w4.heap.size := P4.out.lt
    clear c0
    cases y with
    | none =>
      simp only [Option.isNone_none] at c2
      have HN := Lib.hid (show NoFlt s.data.toList (3 : Nat) from Or.inr (Or.inr (Or.inl ⟨HL5.out, rfl, ⟨_, HCT.out⟩, by
        rw [HRL.out]
        rcases HRS.out with ⟨r, _, h⟩ | ⟨h, _⟩
        · cases h
        · rw [h]; rfl⟩)))
      go_wp2_with (skip; (refine wpList_store_rowTo rfl _ _ _ rfl rfl w.heap.size _ rfl rfl _ #[.int .i64 0, .string ⟨#[]⟩, .string ⟨#[]⟩, .slice none 0 0, .slice none 0 0] (by first | exact (X4.out.alloc _)) (by kernel_rfl) rfl (by simp [Value.oneCell']) ?_))
      refine ret5 Tryz.results14 rfl rfl ((X4.out.alloc _).set _).box rfl ?_
      exact ⟨gr_below (gr_row (gr_alloc G4.out _) (Nat.le_refl _) _) (by have := HPL.out; omega) (Nat.le_refl _), Or.inl ⟨3, rfl, HN.out⟩⟩
    | some ts' =>
      simp only [Option.isNone_some] at c2
      have hd := hx ts' rfl
      have hlen : ts'.length = nt - at_ := by rw [hd, List.length_drop, HNT.out]
      have hat : at_ ≤ nt := by rw [HNT.out]; exact h1
      have HR2 := Lib.hid (show orP (ts.length + 1) (ts.map core) = some (f, ts'.map core) by
        rcases HRS.out with ⟨r, h, h2⟩ | ⟨_, h⟩
        · have h2 : ts'.map core = r := Option.some.inj h2
          rw [h, h2]
        · cases h)
      clear hx hd h1
      by_cases hz : at_ < nt
      · have hlt : (at_ : Int) < (nt : Int) := by omega
        have hltb : decide ((at_ : Int) < (nt : Int)) = true := decide_eq_true hlt
        have HN := Lib.hid (show NoFlt s.data.toList (3 : Nat) from Or.inr (Or.inr (Or.inl ⟨HL5.out, rfl, ⟨_, HCT.out⟩, by
          rw [HRL.out, HR2.out]
          cases ts' with
          | nil => simp at hlen; omega
          | cons t r => rfl⟩)))
        go_wp2_with (skip; (refine wpList_store_rowTo rfl _ _ _ rfl rfl w.heap.size _ rfl rfl _ #[.int .i64 0, .string ⟨#[]⟩, .string ⟨#[]⟩, .slice none 0 0, .slice none 0 0] (by first | exact (X4.out.alloc _)) (by kernel_rfl) rfl (by simp [Value.oneCell']) ?_))
        refine ret5 Tryz.results14 rfl rfl ((X4.out.alloc _).set _).box rfl ?_
        exact ⟨gr_below (gr_row (gr_alloc G4.out _) (Nat.le_refl _) _) (by have := HPL.out; omega) (Nat.le_refl _), Or.inl ⟨3, rfl, HN.out⟩⟩
      · have hlt : ¬ (at_ : Int) < (nt : Int) := by omega
        have hltb : decide ((at_ : Int) < (nt : Int)) = false := decide_eq_false hlt
        have HRD := Lib.hid (show readL s.data.toList = some f by
          rw [HRL.out, HR2.out]
          cases ts' with
          | nil => rfl
          | cons t r => simp at hlen; omega)
        obtain ⟨w5, hw5⟩ : ∃ v, v = w4.alloc (.cells #[.int .i64 fk, .string sn, .string so, .slice a' n1 c', .slice b' n2 d'] 25) := ⟨_, rfl⟩
        have HW5 := Lib.hid hw5
        have X5 := Lib.hid (show Rw w5 w.heap.size #[.int .i64 0, .string ⟨#[]⟩, .string ⟨#[]⟩, .slice none 0 0, .slice none 0 0] by rw [hw5]; exact X4.out.alloc _)
        have Y5 := Lib.hid (show Rw w5 w4.heap.size #[.int .i64 fk, .string sn, .string so, .slice a' n1 c', .slice b' n2 d'] by rw [hw5]; exact Rw.new ..)
        have G5 := Lib.hid (show w.grownBy w5 (some pp) by rw [hw5]; exact gr_alloc G4.out _)
        have F5 := Lib.hid (show FltAt w5 (fun g => w3.heap.size ≤ g ∧ g < w5.heap.size) f a' b' by rw [hw5]; exact F4.out.far fun g h => ⟨⟨h.1, by have := h.2; simp; omega⟩, Below.heap_alloc _ _ _ h.2⟩)
        have CM := Lib.hid (refMay_any f a' c' b' d' w5 (F5.out.far fun g h => ⟨h.2, rfl⟩) (fun _ => HSF.out))
        rw [HFV.out.2.1, HFV.out.2.2.1, ← HFV.out.1, ← HFV.out.2.2.2.1, ← HFV.out.2.2.2.2] at CM
        obtain ⟨mb, hmb⟩ : ∃ x, x = mayB f 10 60 := ⟨_, rfl⟩
        rw [← hmb] at CM
        have HMB := Lib.hid hmb
        clear hw5 hmb hlen
        go_wp2_with fail
        rw [← HW5.out]
        refine Calls.mono CM.out ?_
        rintro e w6 ⟨rfl, hb6⟩
        have X6 := Lib.hid (X5.out.later hb6)
        have Y6 := Lib.hid (Y5.out.later hb6)
        have G6 := Lib.hid (gr_trans G5.out (gr_of_below hb6))
        have F6 := Lib.hid (show FltAt w6 (fun g => w3.heap.size ≤ g ∧ g < w6.heap.size) f a' b' from F5.out.far fun g h => ⟨⟨h.1, Nat.lt_of_lt_of_le h.2 hb6.size⟩, hb6.block g h.2⟩)
        obtain ⟨y0, y1, y2, y3, y4⟩ := Y6.out.box
        have hy6 : w4.heap.size < w6.heap.size := Y6.out.lt
        clear hb6
        cases mb with
        | false =>
          have HN := Lib.hid (show NoFlt s.data.toList (5 : Nat) from Or.inr (Or.inr (Or.inr ⟨HL5.out, rfl, f, HRD.out, HMB.out.symm⟩)))
          go_wp2_with (skip; (refine wpList_store_rowTo rfl _ _ _ rfl rfl w.heap.size _ rfl rfl _ #[.int .i64 0, .string ⟨#[]⟩, .string ⟨#[]⟩, .slice none 0 0, .slice none 0 0] (by first | exact X6.out) (by kernel_rfl) rfl (by simp [Value.oneCell']) ?_))
          refine ret5 Tryz.results14 rfl rfl (X6.out.set _).box rfl ?_
          exact ⟨gr_below (gr_row G6.out (Nat.le_refl _) _) (by have := HPL.out; omega) (Nat.le_refl _), Or.inl ⟨5, rfl, HN.out⟩⟩
        | true =>
          have HMT := Lib.hid (show mayB f 10 60 = true from HMB.out.symm)
          go_wp2_with (skip; (refine wpList_store_rowTo rfl _ _ _ rfl rfl w.heap.size _ rfl rfl _ #[.int .i64 0, .string ⟨#[]⟩, .string ⟨#[]⟩, .slice none 0 0, .slice none 0 0] (by first | exact X6.out) (by kernel_rfl) rfl (by simp [Value.oneCell']) ?_))
          refine ret5 Tryz.results14 rfl rfl (X6.out.set _).box rfl ?_
          exact ⟨gr_below (gr_row G6.out (Nat.le_refl _) _) (by have := HPL.out; omega) (Nat.le_refl _), Or.inr ⟨f, a', c', b', d', HRD.out, HMB.out.symm, HL5.out, by rw [HFV.out.2.1, HFV.out.2.2.1, ← HFV.out.1, ← HFV.out.2.2.2.1, ← HFV.out.2.2.2.2]; rfl, F6.out.far fun g h => ⟨⟨by have := HPL.out; omega, by simpa using h.2⟩, setRow_other _ _ _ _ (by have := HPL.out; omega)⟩⟩⟩
end Go.Proofs.YtjffnjiggcfhcaaGreatDoor.Fl
/-
  The contract of Code of the statements' own package, at no error and at any of the twelve: its number. Memory is left as it was.
-/
namespace Go.Proofs.YtjffnjiggcfhcaaGreatDoor.Cn
open Go.RowKit
set_option linter.unusedVariables false

theorem nil_nil (w : World) : (binOp .eql 29 .nilIface .nilIface).run Tryz.prog w = .ok (.bool true) w := by kernel_rfl
theorem nil_no (n : Int) (w : World) : (binOp .eql 29 (.iface 33 (.int .i64 n)) .nilIface).run Tryz.prog w = .ok (.bool false) w := by kernel_rfl
theorem eql_codes (n j : Int) (w : World) : (binOp .eql 29 (.iface 33 (.int .i64 n)) (.iface 33 (.int .i64 j))).run Tryz.prog w = .ok (.bool (n == j)) w := by kernel_rfl
theorem code_nil (w : World) : Calls Tryz.prog 15 #[.nilIface] w fun e w' => e = .returned (.int .i64 0) ∧ w = w' := by
  have h0 := nil_nil
  go_enter Tryz.func15, Tryz.ntmps15
  go_wp2_with fail
  go_ret
  exact ⟨rfl, rfl⟩
def CodeR (n : Nat) (w : World) (i : Value) (wr : World) : Prop := ∃ j : Nat, 1 ≤ j ∧ j ≤ n ∧ i = .int .i64 j ∧ w = wr
set_option maxHeartbeats 1000000 in
theorem code_any (n : Nat) (h1 : 1 ≤ n) (h2 : n ≤ 12) (w : World) : Calls Tryz.prog 15 #[.iface 33 (.int .i64 n)] w fun e w' => e = .returned (.int .i64 n) ∧ w = w' := by
  have q0 := nil_no n
  have q1 := eql_codes n
  go_enter Tryz.func15, Tryz.ntmps15
  go_wp2_with fail
  go_loopw [3] (fun i wr => CodeR n w i wr) (fun i _ => 20 - (intOf i).toNat)
  case atStart => exact ⟨1, by omega, by omega, rfl, rfl⟩
  case round =>
    obtain ⟨j, ha, hb, rfl, rfl⟩ := hrel
    have hle : (j : Int) ≤ 12 := by omega
    by_cases hj : j = n
    · subst hj
      have hjb : ((j : Int) == (j : Int)) = true := by simp
      go_wp2_with fail
      go_ret
      exact ⟨rfl, rfl⟩
    · have hjn : ((n : Int) == (j : Int)) = false := by rw [beq_eq_false_iff_ne]; omega
      go_wp2_with fail
      go_roundw
      case rel => exact ⟨j + 1, by omega, by omega, by go_num, rfl⟩
      case measure => simp [intOf]; omega
end Go.Proofs.YtjffnjiggcfhcaaGreatDoor.Cn
namespace Go.Proofs.YtjffnjiggcfhcaaGreatDoor.Fl
open Go.RowKit Go.Proofs.YtjffnjiggcfhcaaGreatDoor.Tk
set_option linter.unusedVariables false
set_option linter.unusedSimpArgs false

theorem noflt_uniq {l : List UInt8} {n m : Int} (h : NoFlt l n) (k : NoFlt l m) : n = m := by
  rcases h with ⟨h1, h2⟩ | ⟨h1, h2, h3⟩ | ⟨h1, h2, ⟨ks, h3⟩, h4⟩ | ⟨h1, h2, f, h3, h4⟩ <;> rcases k with ⟨k1, k2⟩ | ⟨k1, k2, k3⟩ | ⟨k1, k2, ⟨us, k3⟩, k4⟩ | ⟨k1, k2, g, k3, k4⟩ <;> first | omega | skip
  · rw [h3] at k3; cases k3
  · unfold readL at k3
    rw [h3] at k3
    cases k3
  · rw [h3] at k3; cases k3
  · rw [h4] at k3; cases k3
  · unfold readL at h3
    rw [k3] at h3
    cases h3
  · rw [k4] at h3; cases h3
theorem noflt_no {l : List UInt8} {n : Int} {f : Flt} (h : NoFlt l n) (h1 : readL l = some f) (h2 : mayB f 10 60 = true) (h3 : l.length ≤ 500) : False := by
  rcases h with ⟨k1, k2⟩ | ⟨k1, k2, k3⟩ | ⟨k1, k2, ⟨us, k3⟩, k4⟩ | ⟨k1, k2, g, k3, k4⟩
  · omega
  · unfold readL at h1
    rw [k3] at h1
    cases h1
  · rw [k4] at h1; cases h1
  · rw [k3] at h1
    cases h1
    rw [k4] at h2
    cases h2
theorem noflt_few {l : List UInt8} {n : Int} (h : NoFlt l n) : 1 ≤ n ∧ n ≤ 12 := by
  rcases h with ⟨h1, h2⟩ | ⟨h1, h2, h3⟩ | ⟨h1, h2, ⟨ks, h3⟩, h4⟩ | ⟨h1, h2, f, h3, h4⟩ <;> omega
set_option maxHeartbeats 8000000 in
set_option maxRecDepth 100000 in
theorem reads_walk (s : ByteArray) (w : World) (hE : LaidE w) (hT : LaidT w) (hm : s.size < 9223372036854775808) :
    Calls Tryz.prog 4 #[.string s] w fun e w' => e = .returned (.bool true) ∧ Below w.heap.size w w' := by
  have HE := Lib.hid hE
  have CU := Lib.hid (up_any w hE hT)
  clear hE hT
  go_enter Tryz.func4, Tryz.ntmps4
  go_wp2_with fail
  refine Calls.mono CU.out ?_
  rintro e w1 ⟨rfl, hb⟩
  have B1 := Lib.hid hb
  clear hb CU
  by_cases hz : (s.size : Int) > 1000
  · have hzb : decide ((s.size : Int) > 1000) = true := decide_eq_true hz
    go_wp2_with fail
    go_ret
    exact ⟨rfl, B1.out⟩
  · have hzb : decide ((s.size : Int) > 1000) = false := decide_eq_false hz
    go_wp2_with fail
    refine Calls.mono (read_any s w1 (HE.out.later B1.out)) ?_
    rintro e w2 ⟨hb, ⟨n, rfl, hno⟩ | ⟨f, a, c, b, d, hr, hm2, h5, he, hF⟩⟩
    · have HN := Lib.hid hno
      have B2 := Lib.hid (B1.out.trans (hb.mono B1.out.size))
      obtain ⟨w3, hw3⟩ : ∃ v, v = w2.alloc (.cells #[.int .i64 0, .string ⟨#[]⟩, .string ⟨#[]⟩, .slice none 0 0, .slice none 0 0] 25) := ⟨_, rfl⟩
      have HW3 := Lib.hid hw3
      have B3 := Lib.hid (show Below w.heap.size w w3 by rw [hw3]; exact B2.out.alloc B2.out.size _)
      have X3 := Lib.hid (show Box w3 w2.heap.size (.int .i64 0) (.string ⟨#[]⟩) (.string ⟨#[]⟩) (.slice none 0 0) (.slice none 0 0) by rw [hw3]; exact Box.new ..)
      clear hb hno hw3
      go_wp2_with fail
      rw [← HW3.out]
      refine Calls.mono (refRead_any s w3) ?_
      rintro e w4 ⟨hb, ⟨m, rfl, hno⟩ | ⟨f, a, c, b, d, hr, hm2, h5, he, hF⟩⟩
      · obtain rfl : n = (m : Int) := noflt_uniq HN.out hno
        have hmf := noflt_few hno
        have B4 := Lib.hid (B3.out.trans (hb.mono B3.out.size))
        have X4 := Lib.hid (X3.out.later hb)
        obtain ⟨w5, hw5⟩ : ∃ v, v = w4.alloc (.cells #[.int .i64 0, .string ⟨#[]⟩, .string ⟨#[]⟩, .slice none 0 0, .slice none 0 0] 25) := ⟨_, rfl⟩
        have HW5 := Lib.hid hw5
        have B5 := Lib.hid (show Below w.heap.size w w5 by rw [hw5]; exact B4.out.alloc B4.out.size _)
        have X5 := Lib.hid (show Box w5 w2.heap.size (.int .i64 0) (.string ⟨#[]⟩) (.string ⟨#[]⟩) (.slice none 0 0) (.slice none 0 0) by rw [hw5]; exact X4.out.later ((Below.refl _ _).alloc (Nat.le_refl _) _))
        have Y5 := Lib.hid (show Box w5 w4.heap.size (.int .i64 0) (.string ⟨#[]⟩) (.string ⟨#[]⟩) (.slice none 0 0) (.slice none 0 0) by rw [hw5]; exact Box.new ..)
        have hzf : ∀ W, FltAt W (Old W.heap.size) zeroF none none := fun W => FltAt.mk' ⟨by decide, by decide, by decide, by decide, by decide⟩ ⟨by decide, (fun v h => by cases h), fun h => absurd h (Nat.lt_irrefl _)⟩ (by rw [show zeroF.parts = [] from rfl, PartsAt]; trivial)
        have CS := Lib.hid (fun W => show Calls Tryz.prog 11 #[.agg #[.int .i64 0, .string ⟨#[]⟩, .string ⟨#[]⟩, .slice none 0 0, .slice none 0 0], .agg #[.int .i64 0, .string ⟨#[]⟩, .string ⟨#[]⟩, .slice none 0 0, .slice none 0 0]] W fun e w' => e = .returned (.bool true) ∧ Below W.heap.size W w' from sameB_refl zeroF ▸ refSame_all (sz zeroF) zeroF (Nat.le_refl _) zeroF none 0 none 0 none 0 none 0 W (hzf W) (hzf W))
        have CC := Lib.hid (fun W => Cn.code_any m (by omega) (by omega) W)
        have hmm : ((m : Int) == (m : Int)) = true := by simp
        clear hb hno hw5 hmf hzf
        obtain ⟨x0, x1, x2, x3, x4⟩ := X5.out
        have xl := X5.out.lt
        obtain ⟨y0, y1, y2, y3, y4⟩ := Y5.out
        have yl := Y5.out.lt
        go_wp2_with fail
        rw [← HW5.out]
        refine Calls.mono (CC.out _) ?_
        rintro e wq ⟨rfl, rfl⟩
        go_wp2_with fail
        refine Calls.mono (CS.out _) ?_
        rintro e w6 ⟨rfl, hb⟩
        have B6 := Lib.hid (B5.out.trans (hb.mono B5.out.size))
        clear hb
        go_wp2_with fail
        go_ret
        exact ⟨rfl, B6.out⟩
      · exact absurd (noflt_no HN.out hr hm2 h5) (by simp)
    · obtain ⟨sn, esn, _⟩ := bs_bytes f.name
      obtain ⟨so, eso, _⟩ := bs_bytes f.op
      obtain ⟨fk, hfk⟩ : ∃ x, x = f.kind := ⟨_, rfl⟩
      obtain ⟨n1, hn1⟩ : ∃ x, x = f.vals.length := ⟨_, rfl⟩
      obtain ⟨n2, hn2⟩ : ∃ x, x = f.parts.length := ⟨_, rfl⟩
      have he' : e = .returned (.tuple #[.agg #[.int .i64 fk, .string sn, .string so, .slice a n1 c, .slice b n2 d], .nilIface]) := by rw [hfk, hn1, hn2, ← esn, ← eso]; exact he
      subst he'
      have HFV := Lib.hid (And.intro hfk (And.intro esn (And.intro eso (And.intro hn1 hn2))))
      have HRD := Lib.hid (And.intro hr (And.intro hm2 h5))
      have B2 := Lib.hid (B1.out.trans (hb.mono B1.out.size))
      have F2 := Lib.hid (show FltAt w2 (Old w2.heap.size) f a b from hF.far fun g h => ⟨h.2, rfl⟩)
      obtain ⟨w3, hw3⟩ : ∃ v, v = w2.alloc (.cells #[.int .i64 fk, .string sn, .string so, .slice a n1 c, .slice b n2 d] 25) := ⟨_, rfl⟩
      have HW3 := Lib.hid hw3
      have B23 := Lib.hid (show Below w2.heap.size w2 w3 by rw [hw3]; exact (Below.refl _ _).alloc (Nat.le_refl _) _)
      have B3 := Lib.hid (B2.out.trans (B23.out.mono B2.out.size))
      have X3 := Lib.hid (show Box w3 w2.heap.size (.int .i64 fk) (.string sn) (.string so) (.slice a n1 c) (.slice b n2 d) by rw [hw3]; exact Box.new ..)
      clear hb hw3 he hF hr hm2 h5 hfk hn1 hn2 esn eso
      go_wp2_with fail
      rw [← HW3.out]
      refine Calls.mono (refRead_any s w3) ?_
      rintro e w4 ⟨hb, ⟨m, rfl, hno⟩ | ⟨g, a', c', b', d', hr, hm2, h5, he, hG⟩⟩
      · exact absurd (noflt_no hno HRD.out.1 HRD.out.2.1 HRD.out.2.2) (by simp)
      · obtain rfl : g = f := Option.some.inj (hr.symm.trans HRD.out.1)
        have he' : e = .returned (.tuple #[.agg #[.int .i64 fk, .string sn, .string so, .slice a' n1 c', .slice b' n2 d'], .int .i64 0]) := by rw [HFV.out.1, HFV.out.2.2.2.1, HFV.out.2.2.2.2, ← HFV.out.2.1, ← HFV.out.2.2.1]; exact he
        subst he'
        have B4 := Lib.hid (B3.out.trans (hb.mono B3.out.size))
        have X4 := Lib.hid (X3.out.later hb)
        obtain ⟨w5, hw5⟩ : ∃ v, v = w4.alloc (.cells #[.int .i64 fk, .string sn, .string so, .slice a' n1 c', .slice b' n2 d'] 25) := ⟨_, rfl⟩
        have HW5 := Lib.hid hw5
        have B45 : Below w4.heap.size w4 w5 := by rw [hw5]; exact (Below.refl _ _).alloc (Nat.le_refl _) _
        have B5 := Lib.hid (B4.out.trans (B45.mono B4.out.size))
        have X5 := Lib.hid (X4.out.later B45)
        have Y5 := Lib.hid (show Box w5 w4.heap.size (.int .i64 fk) (.string sn) (.string so) (.slice a' n1 c') (.slice b' n2 d') by rw [hw5]; exact Box.new ..)
        have F5 := Lib.hid (show FltAt w5 (Old w5.heap.size) g a b from ((F2.out.later (B23.out.trans (hb.mono B23.out.size))).later (B45.mono (Nat.le_trans B23.out.size hb.size))).wide (Nat.le_trans (Nat.le_trans B23.out.size hb.size) B45.size))
        have G5 := Lib.hid (show FltAt w5 (Old w5.heap.size) g a' b' from hG.far fun x h => ⟨Nat.lt_of_lt_of_le h.2 B45.size, B45.block x h.2⟩)
        have CS := Lib.hid (show Calls Tryz.prog 11 #[.agg #[.int .i64 fk, .string sn, .string so, .slice a n1 c, .slice b n2 d], .agg #[.int .i64 fk, .string sn, .string so, .slice a' n1 c', .slice b' n2 d']] w5 fun e w' => e = .returned (.bool true) ∧ Below w5.heap.size w5 w' by
          have h := refSame_all (sz g) g (Nat.le_refl _) g a c b d a' c' b' d' w5 F5.out G5.out
          rw [sameB_refl, HFV.out.2.1, HFV.out.2.2.1, ← HFV.out.1, ← HFV.out.2.2.2.1, ← HFV.out.2.2.2.2] at h
          exact h)
        have CC := Lib.hid (fun W => Cn.code_nil W)
        obtain ⟨x0, x1, x2, x3, x4⟩ := X5.out
        have xl := X5.out.lt
        obtain ⟨y0, y1, y2, y3, y4⟩ := Y5.out
        have yl := Y5.out.lt
        clear hb hw5 he hG hr hm2 h5 B45
        go_wp2_with fail
        rw [← HW5.out]
        refine Calls.mono (CC.out _) ?_
        rintro e wq ⟨rfl, rfl⟩
        go_wp2_with fail
        refine Calls.mono CS.out ?_
        rintro e w6 ⟨rfl, hb⟩
        have B6 := Lib.hid (B5.out.trans (hb.mono B5.out.size))
        clear hb
        go_wp2_with fail
        go_ret
        exact ⟨rfl, B6.out⟩
end Go.Proofs.YtjffnjiggcfhcaaGreatDoor.Fl
