/-
  Contract of Read of package filter: a text is read as a filter, or not. Memory that was there is left as it was.
-/
import Derived.Test.YtjffnjiggcfhcaaGreatDoorMt12
import Derived.Test.YtjffnjiggcfhcaaGreatDoorMt13
import Derived.Test.YtjffnjiggcfhcaaGreatDoorMt09
/-
  Contract of not of package filter's reader: what may be read, from one part to the whole.
-/
namespace Go.Proofs.YtjffnjiggcfhcaaGreatDoor.Fl
open Go.RowKit Go.Proofs.YtjffnjiggcfhcaaGreatDoor.Tk
set_option linter.unusedVariables false
set_option linter.unusedSimpArgs false

theorem not_not {n : Nat} {ts r : List Tc} (h : takes wNot ts = some r) : notP (n + 1) ts = match notP n r with | none => none | some (x, r2) => some (.mk 3 [] [] [] [x], r2) := by
  rw [notP, h]
  simp only
  cases notP n r with
  | none => rfl
  | some x => rfl
theorem not_open {n : Nat} {ts r : List Tc} (h1 : takes wNot ts = none) (h : takes sOpen ts = some r) : notP (n + 1) ts = match chainP wOr 2 (chainP wAnd 1 (notP n)) r with | none => none | some (f, r2) => (match takes sShut r2 with | none => none | some r3 => some (f, r3)) := by
  rw [notP, h1]
  simp only [h]
  cases chainP wOr 2 (chainP wAnd 1 (notP n)) r with
  | none => rfl
  | some x =>
    obtain ⟨f, r2⟩ := x
    simp only
    cases takes sShut r2 <;> rfl
theorem not_true {n : Nat} {ts r : List Tc} (h1 : takes wNot ts = none) (h2 : takes sOpen ts = none) (h : takes wTrue ts = some r) : notP (n + 1) ts = some (.mk 7 [] [] [] [], r) := by
  rw [notP, h1]
  simp only [h2, h]
theorem not_leaf {n : Nat} {ts : List Tc} (h1 : takes wNot ts = none) (h2 : takes sOpen ts = none) (h : takes wTrue ts = none) : notP (n + 1) ts = leafP ts := by
  rw [notP, h1]
  simp only [h2, h]
set_option maxHeartbeats 8000000 in
set_option maxRecDepth 100000 in
theorem not_step (n p z : Nat) (hz : z ≤ p) (ih : RdOk 63 n p z (notP n)) : RdOk 63 (n + 1) p z (notP (n + 1)) := by
  intro ts hg hl hn w hR
  have hp : p < w.heap.size := hR.lt
  have hpne : ¬ w.heap.size = p := by omega
  obtain ⟨w1, hw1⟩ : ∃ v, v = w.alloc (.cells #[.int .i64 0, .string ⟨#[]⟩, .string ⟨#[]⟩, .slice none 0 0, .slice none 0 0] 25) := ⟨_, rfl⟩
  have HW := Lib.hid hw1
  have HW1 := Lib.hid (show w1.heap.size = w.heap.size + 1 by rw [hw1]; simp)
  have G1 := Lib.hid (show w.grownBy w1 (some p) by rw [hw1]; exact gr_alloc (gr_refl _ _) _)
  have X1 := Lib.hid (show Rw w1 w.heap.size #[.int .i64 0, .string ⟨#[]⟩, .string ⟨#[]⟩, .slice none 0 0, .slice none 0 0] by rw [hw1]; exact Rw.new ..)
  have R1 := Lib.hid (show RdAt w1 p z ts by rw [hw1]; exact hR.alloc hz _)
  have CN := Lib.hid (take_any ⟨wNot.toArray⟩ 2 (fun t h => word_kd (s := wNot) (by decide) (by decide) t h) ts hg hl p z hz w1 R1.out)
  have CO := Lib.hid (take_any ⟨sOpen.toArray⟩ 5 (fun t h => sign_kd (s := sOpen) (by decide) (by decide) t h) ts hg hl p z hz w1 R1.out)
  have CU := Lib.hid (take_any ⟨wTrue.toArray⟩ 2 (fun t h => word_kd (s := wTrue) (by decide) (by decide) t h) ts hg hl p z hz w1 R1.out)
  have CL := Lib.hid (leaf_any ts hg hl p z hz w1 R1.out)
  have HG := Lib.hid hg
  have HLN := Lib.hid (And.intro hl hn)
  have IH := Lib.hid ih
  have IO := Lib.hid (or_of n p z hz (and_of n p z hz ih))
  clear hw1 hR hg hl hn ih
  go_enter Tryz.func63, Tryz.ntmps63
  go_wp2_with fail
  rw [← HW.out]
  refine Calls.mono CN.out ?_
  rintro e w2 (⟨hno, rfl, rfl⟩ | ⟨t1, r1, hr1, hy, rfl, hg2, hr2⟩)
  · have HNO := Lib.hid (show takes wNot (ts.map core) = none from hno)
    clear hno
    go_wp2_with fail
    refine Calls.mono CO.out ?_
    rintro e w2 (⟨hno, rfl, rfl⟩ | ⟨t1, r1, hr1, hy, rfl, hg2, hrd2⟩)
    · have HOP := Lib.hid (show takes sOpen (ts.map core) = none from hno)
      clear hno
      go_wp2_with fail
      refine Calls.mono CU.out ?_
      rintro e w2 (⟨hno, rfl, rfl⟩ | ⟨t1, r1, hr1, hy, rfl, hg2, hrd2⟩)
      · have HLF := Lib.hid (not_leaf (n := n) HNO.out HOP.out (show takes wTrue (ts.map core) = none from hno))
        clear hno
        go_wp2_with fail
        refine Calls.mono CL.out ?_
        rintro e w2 hE
        have G2 := Lib.hid (hE.up G1.out)
        have X2 := Lib.hid (X1.out.gr hE.1 hpne)
        obtain ⟨hg2, ⟨hn, k0, s0, o0, a0, n0, c0, b0, m0, d0, rfl⟩ | ⟨f, r, a, c, b, d, hy, rfl, hr2, hm2, ho2⟩⟩ := hE
        · have HN := Lib.hid (HLF.out.trans hn)
          clear hg2 hn
          go_wp2_with (skip; (refine wpList_store_rowTo rfl _ _ _ rfl rfl w.heap.size _ rfl rfl _ #[.int .i64 0, .string ⟨#[]⟩, .string ⟨#[]⟩, .slice none 0 0, .slice none 0 0] (by first | exact X2.out | exact Rw.alloc X2.out _ | exact Rw.alloc2 X2.out _ _ | exact Rw.alloc3 X2.out _ _ _) (by kernel_rfl) rfl (by simp [Value.oneCell']) ?_))
          refine ret5 Tryz.results63 rfl rfl (X2.out.set _).box rfl ?_
          exact ⟨gr_row G2.out (Nat.le_refl _) _, Or.inl ⟨HN.out, _, _, _, _, _, _, _, _, _, rfl⟩⟩
        · have HY := Lib.hid (HLF.out.trans hy)
          have HR2 := Lib.hid hr2
          have HM2 := Lib.hid hm2
          have HO2 := Lib.hid ho2
          clear hg2 hy hr2 hm2 ho2
          obtain ⟨sn, esn, _⟩ := bs_bytes f.name
          obtain ⟨so, eso, _⟩ := bs_bytes f.op
          obtain ⟨fk, hfk⟩ : ∃ x, x = f.kind := ⟨_, rfl⟩
          obtain ⟨n1, hn1⟩ : ∃ x, x = f.vals.length := ⟨_, rfl⟩
          obtain ⟨n2, hn2⟩ : ∃ x, x = f.parts.length := ⟨_, rfl⟩
          have HFV := Lib.hid (And.intro hfk (And.intro esn (And.intro eso (And.intro hn1 hn2))))
          rw [esn, eso, ← hfk, ← hn1, ← hn2]
          clear esn eso hfk hn1 hn2
          go_wp2_with (skip; (refine wpList_store_rowTo rfl _ _ _ rfl rfl w.heap.size _ rfl rfl _ #[.int .i64 0, .string ⟨#[]⟩, .string ⟨#[]⟩, .slice none 0 0, .slice none 0 0] (by first | exact X2.out | exact Rw.alloc X2.out _ | exact Rw.alloc2 X2.out _ _ | exact Rw.alloc3 X2.out _ _ _) (by kernel_rfl) rfl (by simp [Value.oneCell']) ?_))
          refine ret5 Tryz.results63 rfl rfl (X2.out.set _).box rfl ?_
          exact ⟨gr_row G2.out (Nat.le_refl _) _, Or.inr ⟨f, r, a, c, b, d, HY.out, by rw [HFV.out.2.1, HFV.out.2.2.1, ← HFV.out.1, ← HFV.out.2.2.2.1, ← HFV.out.2.2.2.2]; rfl, rd_row HR2.out (fun e => hpne e) (by omega) _, HM2.out, own_row HO2.out (by have := HW1.out; omega) _⟩⟩
      · have HY := Lib.hid (not_true (n := n) HNO.out HOP.out (show takes wTrue (ts.map core) = some (r1.map core) from hy))
        have HM := Lib.hid (show ∀ x ∈ r1, x ∈ ts by rw [hr1]; exact fun x hx => List.mem_cons_of_mem _ hx)
        have G2 := Lib.hid (G1.out.trans hg2)
        have X2 := Lib.hid (X1.out.gr hg2 hpne)
        have R2 := Lib.hid hrd2
        clear hr1 hy hg2 hrd2
        go_wp2_with (skip; (refine wpList_store_rowTo rfl _ _ _ rfl rfl w.heap.size _ rfl rfl _ #[.int .i64 0, .string ⟨#[]⟩, .string ⟨#[]⟩, .slice none 0 0, .slice none 0 0] (by first | exact X2.out | exact Rw.alloc X2.out _ | exact Rw.alloc2 X2.out _ _ | exact Rw.alloc3 X2.out _ _ _) (by kernel_rfl) rfl (by simp [Value.oneCell']) ?_))
        refine ret5 Tryz.results63 rfl rfl (X2.out.set _).box rfl ?_
        exact ⟨gr_row G2.out (Nat.le_refl _) _, Or.inr ⟨_, r1, none, 0, none, 0, HY.out, rfl, rd_row R2.out (fun e => hpne e) (by omega) _, HM.out, leaf_own (by simp) (by simp) (by decide) ⟨by simp, fun v hv => by simp at hv, fun h => by simp at h⟩⟩⟩
    · have HMR1 := Lib.hid (show ∀ x ∈ r1, x ∈ ts by rw [hr1]; exact fun x hx => List.mem_cons_of_mem _ hx)
      have HL1 := Lib.hid (show r1.length + 1 = ts.length by rw [hr1]; rfl)
      have HOP := Lib.hid (not_open (n := n) HNO.out (show takes sOpen (ts.map core) = some (r1.map core) from hy))
      have G2 := Lib.hid (G1.out.trans hg2)
      have X2 := Lib.hid (X1.out.gr hg2 hpne)
      have CR := Lib.hid (IO.out r1 (fun x hx => HG.out x (HMR1.out x hx)) (by have := HL1.out; have := HLN.out; omega) (by have := HL1.out; have := HLN.out; omega) w2 hrd2)
      have HW2 := Lib.hid (show w1.heap.size ≤ w2.heap.size from hg2.size)
      clear hr1 hy hg2 hrd2
      go_wp2_with fail
      refine Calls.mono CR.out ?_
      rintro e w3 hE
      have G3 := Lib.hid (hE.up G2.out)
      have X3 := Lib.hid (X2.out.gr hE.1 hpne)
      obtain ⟨hg3, ⟨hn, k0, s0, o0, a0, n0, c0, b0, m0, d0, rfl⟩ | ⟨f, r, a, c, b, d, hy, rfl, hr3, hm3, ho3⟩⟩ := hE
      · have HN := Lib.hid (show notP (n + 1) (ts.map core) = none by rw [HOP.out]; simp only [show chainP wOr 2 (chainP wAnd 1 (notP n)) (r1.map core) = none from hn])
        clear hg3 hn
        obtain ⟨w4, hw4⟩ : ∃ v, v = w3.alloc (.cells #[.int .i64 k0, .string s0, .string o0, .slice a0 n0 c0, .slice b0 m0 d0] 25) := ⟨_, rfl⟩
        have HW4 := Lib.hid hw4
        have Y4 := Lib.hid (show Rw w4.drew w3.heap.size #[.int .i64 k0, .string s0, .string o0, .slice a0 n0 c0, .slice b0 m0 d0] by rw [hw4]; exact (Rw.new w3 _).same rfl)
        have X4 := Lib.hid (show Rw w4.drew w.heap.size #[.int .i64 0, .string ⟨#[]⟩, .string ⟨#[]⟩, .slice none 0 0, .slice none 0 0] by rw [hw4]; exact (X3.out.alloc _).same rfl)
        have G4 := Lib.hid (show w.grownBy w4.drew (some p) by rw [hw4]; exact gr_drew (gr_alloc G3.out _))
        have hb3 : ¬ w3.heap.size = w.heap.size := by have := X3.out.lt; omega
        have HB4 := Lib.hid (show Below w3.heap.size w3 w4.drew by rw [hw4]; exact ((Below.refl _ _).alloc (Nat.le_refl _) _).drew)
        clear hw4
        have HS : Hid (∀ W, Rw W w3.heap.size #[.int .i64 k0, .string s0, .string o0, .slice a0 n0 c0, .slice b0 m0 d0] → W.cell? ⟨w3.heap.size, 0, none⟩ = some (.int .i64 k0) ∧ W.cell? ⟨w3.heap.size, 1, none⟩ = some (.string s0) ∧ W.cell? ⟨w3.heap.size, 2, none⟩ = some (.string o0) ∧ W.cell? ⟨w3.heap.size, 3, none⟩ = some (.slice a0 n0 c0) ∧ W.cell? ⟨w3.heap.size, 4, none⟩ = some (.slice b0 m0 d0) ∧ Rw W w3.heap.size #[.int .i64 k0, .string s0, .string o0, .slice a0 n0 c0, .slice b0 m0 d0]) := Lib.hid (fun W h1 => ⟨h1.box.1, h1.box.2.1, h1.box.2.2.1, h1.box.2.2.2.1, h1.box.2.2.2.2, h1⟩)
        go_wp2_with fail
        rw [← HW4.out]
        refine wp_region_held_drew (S := (fun W => W.cell? ⟨w3.heap.size, 0, none⟩ = some (.int .i64 k0) ∧ W.cell? ⟨w3.heap.size, 1, none⟩ = some (.string s0) ∧ W.cell? ⟨w3.heap.size, 2, none⟩ = some (.string o0) ∧ W.cell? ⟨w3.heap.size, 3, none⟩ = some (.slice a0 n0 c0) ∧ W.cell? ⟨w3.heap.size, 4, none⟩ = some (.slice b0 m0 d0) ∧ Rw W w3.heap.size #[.int .i64 k0, .string s0, .string o0, .slice a0 n0 c0, .slice b0 m0 d0])) (by kernel_rfl) (HS.out _ Y4.out) (fun hHeld => ?_)
        refine wpAnyH_take (i := 0) (v := ?vf0) rfl (by kernel_rfl) (by kernel_rfl) (by kernel_rfl) (fun _ _ _ h => h) (Or.inl ⟨by rfl, ?yf0⟩) hHeld ?rf0
        case yf0 => (intro W hSw; simp only [List.getElem_toArray, List.getElem_cons_zero]; go_simp; try (with_reducible rfl))
        simp only [List.getElem_toArray, List.getElem_cons_zero, Act.put, List.setIfInBounds_toArray, List.set_cons_zero, List.set_cons_succ]
        refine wpAnyH_take (i := 1) (v := ?vf1) rfl (by kernel_rfl) (by kernel_rfl) (by kernel_rfl) (fun _ _ _ h => h) (Or.inl ⟨by rfl, ?yf1⟩) hHeld ?rf1
        case yf1 => (intro W hSw; simp only [List.getElem_toArray, List.getElem_cons_succ, List.getElem_cons_zero]; go_simp; try (with_reducible rfl))
        simp only [List.getElem_toArray, List.getElem_cons_succ, List.getElem_cons_zero, Act.put, List.setIfInBounds_toArray, List.set_cons_zero, List.set_cons_succ]
        refine wpAnyH_take (i := 2) (v := ?vf2) rfl (by kernel_rfl) (by kernel_rfl) (by kernel_rfl) (fun _ _ _ h => h) (Or.inl ⟨by rfl, ?yf2⟩) hHeld ?rf2
        case yf2 => (intro W hSw; simp only [List.getElem_toArray, List.getElem_cons_succ, List.getElem_cons_zero]; go_simp; try (with_reducible rfl))
        simp only [List.getElem_toArray, List.getElem_cons_succ, List.getElem_cons_zero, Act.put, List.setIfInBounds_toArray, List.set_cons_zero, List.set_cons_succ]
        refine wpAnyH_take (i := 3) (v := undef) rfl (by kernel_rfl) (by kernel_rfl) (by kernel_rfl) (fun _ _ _ h => h) (Or.inr ⟨by rfl, rfl⟩) hHeld ?_
        simp only [List.getElem_toArray, List.getElem_cons_succ, List.getElem_cons_zero, Act.put, List.setIfInBounds_toArray, List.set_cons_zero, List.set_cons_succ]
        refine wpAnyH_take (i := 4) (v := undef) rfl (by kernel_rfl) (by kernel_rfl) (by kernel_rfl) (fun _ _ _ h => h) (Or.inr ⟨by rfl, rfl⟩) hHeld ?_
        simp only [List.getElem_toArray, List.getElem_cons_succ, List.getElem_cons_zero, Act.put, List.setIfInBounds_toArray, List.set_cons_zero, List.set_cons_succ]
        refine wpAnyH_take (i := 5) (v := ?vf5) rfl (by kernel_rfl) (by kernel_rfl) (by kernel_rfl) (fun _ _ _ h => h) (Or.inl ⟨by rfl, ?yf5⟩) hHeld ?rf5
        case yf5 => (intro W hSw; simp only [List.getElem_toArray, List.getElem_cons_succ, List.getElem_cons_zero]; go_simp; try (with_reducible rfl))
        simp only [List.getElem_toArray, List.getElem_cons_succ, List.getElem_cons_zero, Act.put, List.setIfInBounds_toArray, List.set_cons_zero, List.set_cons_succ]
        refine wpAnyH_ready (rs := [6]) (by kernel_rfl) (by simp) (AllReadyH.cons rfl (fun K hK => ?_) AllReadyH.nil)
        simp only [List.getElem_toArray, List.getElem_cons_succ, List.getElem_cons_zero]
        refine wp_store_row _ _ _ rfl w.heap.size #[.int .i64 k0, .string s0, .string o0, .slice a0 n0 c0, .slice b0 m0 d0] rfl rfl _ #[.int .i64 0, .string ⟨#[]⟩, .string ⟨#[]⟩, .slice none 0 0, .slice none 0 0] X4.out (by kernel_rfl) rfl (by simp [Value.oneCell']) ?_
        refine hK.out _ _ (HS.out _ (hHeld.2.2.2.2.2.same (setRow_other _ _ _ _ hb3))) (fun hHeld1 => ?_)
        clear hK K hHeld
        have hHeld := hHeld1; clear hHeld1
        try simp only [List.getElem_toArray, List.getElem_cons_succ, List.getElem_cons_zero, Act.put, List.setIfInBounds_toArray, List.set_cons_zero, List.set_cons_succ]
        refine wpAnyH_take (i := 7) (v := ?vf7) rfl (by kernel_rfl) (by kernel_rfl) (by kernel_rfl) (fun _ _ _ h => h) (Or.inl ⟨by rfl, ?yf7⟩) hHeld ?rf7
        case yf7 => (intro W hSw; simp only [List.getElem_toArray, List.getElem_cons_succ, List.getElem_cons_zero]; go_simp; try (with_reducible rfl))
        simp only [List.getElem_toArray, List.getElem_cons_succ, List.getElem_cons_zero, Act.put, List.setIfInBounds_toArray, List.set_cons_zero, List.set_cons_succ]
        clear hHeld
        refine wpAnyH_done (by kernel_rfl) ?_ _
        go_wp2_with fail
        refine ret5 Tryz.results63 rfl rfl (X4.out.set _).box rfl ?_
        exact ⟨gr_row G4.out (Nat.le_refl _) _, Or.inl ⟨HN.out, _, _, _, _, _, _, _, _, _, rfl⟩⟩
      · have HN := Lib.hid (show takes sShut (r.map core) = none → notP (n + 1) (ts.map core) = none from fun h => by rw [HOP.out]; simp only [show chainP wOr 2 (chainP wAnd 1 (notP n)) (r1.map core) = some (f, r.map core) from hy, h])
        have HY2 := Lib.hid (show ∀ l, takes sShut (r.map core) = some l → notP (n + 1) (ts.map core) = some (f, l) from fun l h => by rw [HOP.out]; simp only [show chainP wOr 2 (chainP wAnd 1 (notP n)) (r1.map core) = some (f, r.map core) from hy, h])
        have HMR := Lib.hid (show ∀ x ∈ r, x ∈ ts from fun x hx => HMR1.out x (hm3 x hx))
        have HRL := Lib.hid (show r.length ≤ 600 by have h1 := (chain_con (w := wOr) (k := 2) (chain_con (w := wAnd) (k := 1) (not_con n)) _ _ _ hy).2; have := HL1.out; have := HLN.out; simp at h1; omega)
        have O3 := Lib.hid ho3
        have R3 := Lib.hid hr3
        have HWL := Lib.hid (show w.heap.size + 1 ≤ w2.heap.size by have := HW1.out; have := HW2.out; omega)
        clear hg3 hy hr3 hm3 ho3
        obtain ⟨sn, esn, _⟩ := bs_bytes f.name
        obtain ⟨so, eso, _⟩ := bs_bytes f.op
        obtain ⟨fk, hfk⟩ : ∃ x, x = f.kind := ⟨_, rfl⟩
        obtain ⟨n1, hn1⟩ : ∃ x, x = f.vals.length := ⟨_, rfl⟩
        obtain ⟨n2, hn2⟩ : ∃ x, x = f.parts.length := ⟨_, rfl⟩
        have HFV := Lib.hid (And.intro hfk (And.intro esn (And.intro eso (And.intro hn1 hn2))))
        rw [esn, eso, ← hfk, ← hn1, ← hn2]
        clear esn eso hfk hn1 hn2
        obtain ⟨w4, hw4⟩ : ∃ v, v = w3.alloc (.cells #[.int .i64 fk, .string sn, .string so, .slice a n1 c, .slice b n2 d] 25) := ⟨_, rfl⟩
        have HW4 := Lib.hid hw4
        have Y4 := Lib.hid (show Rw w4.drew w3.heap.size #[.int .i64 fk, .string sn, .string so, .slice a n1 c, .slice b n2 d] by rw [hw4]; exact (Rw.new w3 _).same rfl)
        have X4 := Lib.hid (show Rw w4.drew w.heap.size #[.int .i64 0, .string ⟨#[]⟩, .string ⟨#[]⟩, .slice none 0 0, .slice none 0 0] by rw [hw4]; exact (X3.out.alloc _).same rfl)
        have G4 := Lib.hid (show w.grownBy w4.drew (some p) by rw [hw4]; exact gr_drew (gr_alloc G3.out _))
        have hb3 : ¬ w3.heap.size = w.heap.size := by have := X3.out.lt; omega
        have HB4 := Lib.hid (show Below w3.heap.size w3 w4.drew by rw [hw4]; exact ((Below.refl _ _).alloc (Nat.le_refl _) _).drew)
        clear hw4
        have HS : Hid (∀ W, Rw W w3.heap.size #[.int .i64 fk, .string sn, .string so, .slice a n1 c, .slice b n2 d] → W.cell? ⟨w3.heap.size, 0, none⟩ = some (.int .i64 fk) ∧ W.cell? ⟨w3.heap.size, 1, none⟩ = some (.string sn) ∧ W.cell? ⟨w3.heap.size, 2, none⟩ = some (.string so) ∧ W.cell? ⟨w3.heap.size, 3, none⟩ = some (.slice a n1 c) ∧ W.cell? ⟨w3.heap.size, 4, none⟩ = some (.slice b n2 d) ∧ Rw W w3.heap.size #[.int .i64 fk, .string sn, .string so, .slice a n1 c, .slice b n2 d]) := Lib.hid (fun W h1 => ⟨h1.box.1, h1.box.2.1, h1.box.2.2.1, h1.box.2.2.2.1, h1.box.2.2.2.2, h1⟩)
        go_wp2_with fail
        rw [← HW4.out]
        refine wp_region_held_drew (S := (fun W => W.cell? ⟨w3.heap.size, 0, none⟩ = some (.int .i64 fk) ∧ W.cell? ⟨w3.heap.size, 1, none⟩ = some (.string sn) ∧ W.cell? ⟨w3.heap.size, 2, none⟩ = some (.string so) ∧ W.cell? ⟨w3.heap.size, 3, none⟩ = some (.slice a n1 c) ∧ W.cell? ⟨w3.heap.size, 4, none⟩ = some (.slice b n2 d) ∧ Rw W w3.heap.size #[.int .i64 fk, .string sn, .string so, .slice a n1 c, .slice b n2 d])) (by kernel_rfl) (HS.out _ Y4.out) (fun hHeld => ?_)
        refine wpAnyH_take (i := 0) (v := ?vt0) rfl (by kernel_rfl) (by kernel_rfl) (by kernel_rfl) (fun _ _ _ h => h) (Or.inl ⟨by rfl, ?yt0⟩) hHeld ?rt0
        case yt0 => (intro W hSw; simp only [List.getElem_toArray, List.getElem_cons_zero]; go_simp; try (with_reducible rfl))
        simp only [List.getElem_toArray, List.getElem_cons_zero, Act.put, List.setIfInBounds_toArray, List.set_cons_zero, List.set_cons_succ]
        refine wpAnyH_take (i := 1) (v := ?vt1) rfl (by kernel_rfl) (by kernel_rfl) (by kernel_rfl) (fun _ _ _ h => h) (Or.inl ⟨by rfl, ?yt1⟩) hHeld ?rt1
        case yt1 => (intro W hSw; simp only [List.getElem_toArray, List.getElem_cons_succ, List.getElem_cons_zero]; go_simp; try (with_reducible rfl))
        simp only [List.getElem_toArray, List.getElem_cons_succ, List.getElem_cons_zero, Act.put, List.setIfInBounds_toArray, List.set_cons_zero, List.set_cons_succ]
        refine wpAnyH_take (i := 2) (v := ?vt2) rfl (by kernel_rfl) (by kernel_rfl) (by kernel_rfl) (fun _ _ _ h => h) (Or.inl ⟨by rfl, ?yt2⟩) hHeld ?rt2
        case yt2 => (intro W hSw; simp only [List.getElem_toArray, List.getElem_cons_succ, List.getElem_cons_zero]; go_simp; try (with_reducible rfl))
        simp only [List.getElem_toArray, List.getElem_cons_succ, List.getElem_cons_zero, Act.put, List.setIfInBounds_toArray, List.set_cons_zero, List.set_cons_succ]
        refine wpAnyH_take (i := 3) (v := ?vt3) rfl (by kernel_rfl) (by kernel_rfl) (by kernel_rfl) (fun _ _ _ h => h) (Or.inl ⟨by rfl, ?yt3⟩) hHeld ?rt3
        case yt3 => (intro W hSw; simp only [List.getElem_toArray, List.getElem_cons_succ, List.getElem_cons_zero]; go_simp; try (with_reducible rfl))
        simp only [List.getElem_toArray, List.getElem_cons_succ, List.getElem_cons_zero, Act.put, List.setIfInBounds_toArray, List.set_cons_zero, List.set_cons_succ]
        have R4 := Lib.hid (show RdAt w4.drew p z r from R3.out.later hz (HB4.out))
        have O4 := Lib.hid (show OwnF w4.drew w2.heap.size noX f a c b d from O3.out.later HB4.out)
        have CT := Lib.hid (take_any ⟨sShut.toArray⟩ 5 (fun t h => sign_kd (s := sShut) (by decide) (by decide) t h) r (fun x hx => HG.out x (HMR.out x hx)) HRL.out p z hz w4.drew R4.out)
        refine wpAnyH_ready (rs := [4]) (by kernel_rfl) (by simp) (AllReadyH.cons rfl (fun K hK => ?_) AllReadyH.nil)
        simp only [List.getElem_toArray, List.getElem_cons_succ, List.getElem_cons_zero]
        go_simp
        go_at_call 61
        refine Calls.mono CT.out ?_
        rintro e w5 (⟨hns, rfl, rfl⟩ | ⟨t2, r2, hr2, hys, rfl, hg5, hr5⟩)
        · try go_wp2_with fail
          refine hK.out _ _ (hHeld) (fun hHeld1 => ?_)
          clear hK K hHeld
          have hHeld := hHeld1; clear hHeld1
          try simp only [List.getElem_toArray, List.getElem_cons_succ, List.getElem_cons_zero, Act.put, List.setIfInBounds_toArray, List.set_cons_zero, List.set_cons_succ]
          refine wpAnyH_take (i := 5) (v := ?vtn5) rfl (by kernel_rfl) (by kernel_rfl) (by kernel_rfl) (fun _ _ _ h => h) (Or.inl ⟨by rfl, ?ytn5⟩) hHeld ?rtn5
          case ytn5 => (intro W hSw; simp only [List.getElem_toArray, List.getElem_cons_succ, List.getElem_cons_zero]; go_simp; try (with_reducible rfl))
          simp only [List.getElem_toArray, List.getElem_cons_succ, List.getElem_cons_zero, Act.put, List.setIfInBounds_toArray, List.set_cons_zero, List.set_cons_succ]
          refine wpAnyH_ready (rs := [6]) (by kernel_rfl) (by simp) (AllReadyH.cons rfl (fun K hK => ?_) AllReadyH.nil)
          simp only [List.getElem_toArray, List.getElem_cons_succ, List.getElem_cons_zero]
          refine wp_store_row _ _ _ rfl w.heap.size #[.int .i64 fk, .string sn, .string so, .slice a n1 c, .slice b n2 d] rfl rfl _ #[.int .i64 0, .string ⟨#[]⟩, .string ⟨#[]⟩, .slice none 0 0, .slice none 0 0] X4.out (by kernel_rfl) rfl (by simp [Value.oneCell']) ?_
          refine hK.out _ _ (HS.out _ (hHeld.2.2.2.2.2.same (setRow_other _ _ _ _ hb3))) (fun hHeld1 => ?_)
          clear hK K hHeld
          have hHeld := hHeld1; clear hHeld1
          try simp only [List.getElem_toArray, List.getElem_cons_succ, List.getElem_cons_zero, Act.put, List.setIfInBounds_toArray, List.set_cons_zero, List.set_cons_succ]
          refine wpAnyH_take (i := 7) (v := ?vtn7) rfl (by kernel_rfl) (by kernel_rfl) (by kernel_rfl) (fun _ _ _ h => h) (Or.inl ⟨by rfl, ?ytn7⟩) hHeld ?rtn7
          case ytn7 => (intro W hSw; simp only [List.getElem_toArray, List.getElem_cons_succ, List.getElem_cons_zero]; go_simp; try (with_reducible rfl))
          simp only [List.getElem_toArray, List.getElem_cons_succ, List.getElem_cons_zero, Act.put, List.setIfInBounds_toArray, List.set_cons_zero, List.set_cons_succ]
          clear hHeld
          refine wpAnyH_done (by kernel_rfl) ?_ _
          go_wp2_with fail
          refine ret5 Tryz.results63 rfl rfl (X4.out.set _).box rfl ?_
          exact ⟨gr_row G4.out (Nat.le_refl _) _, Or.inl ⟨HN.out hns, _, _, _, _, _, _, _, _, _, rfl⟩⟩
        · have X5 := Lib.hid (X4.out.gr hg5 hpne)
          have Y5 := Lib.hid (Y4.out.gr hg5 (by have := X3.out.lt; omega))
          have G5 := Lib.hid (G4.out.trans hg5)
          have R5 := Lib.hid hr5
          have HY5 := Lib.hid (HY2.out _ hys)
          have HM5 := Lib.hid (show ∀ x ∈ r2, x ∈ ts from fun x hx => HMR.out x (by rw [hr2]; exact List.mem_cons_of_mem _ hx))
          have O5 := Lib.hid ((O4.out).gr hg5 (by have := HW1.out; have := HWL.out; omega))
          try go_wp2_with fail
          refine hK.out _ _ (HS.out _ Y5.out) (fun hHeld1 => ?_)
          clear hK K hHeld
          have hHeld := hHeld1; clear hHeld1
          try simp only [List.getElem_toArray, List.getElem_cons_succ, List.getElem_cons_zero, Act.put, List.setIfInBounds_toArray, List.set_cons_zero, List.set_cons_succ]
          refine wpAnyH_take (i := 5) (v := ?vty5) rfl (by kernel_rfl) (by kernel_rfl) (by kernel_rfl) (fun _ _ _ h => h) (Or.inl ⟨by rfl, ?yty5⟩) hHeld ?rty5
          case yty5 => (intro W hSw; simp only [List.getElem_toArray, List.getElem_cons_succ, List.getElem_cons_zero]; go_simp; try (with_reducible rfl))
          simp only [List.getElem_toArray, List.getElem_cons_succ, List.getElem_cons_zero, Act.put, List.setIfInBounds_toArray, List.set_cons_zero, List.set_cons_succ]
          refine wpAnyH_ready (rs := [6]) (by kernel_rfl) (by simp) (AllReadyH.cons rfl (fun K hK => ?_) AllReadyH.nil)
          simp only [List.getElem_toArray, List.getElem_cons_succ, List.getElem_cons_zero]
          refine wp_store_row _ _ _ rfl w.heap.size #[.int .i64 fk, .string sn, .string so, .slice a n1 c, .slice b n2 d] rfl rfl _ #[.int .i64 0, .string ⟨#[]⟩, .string ⟨#[]⟩, .slice none 0 0, .slice none 0 0] X5.out (by kernel_rfl) rfl (by simp [Value.oneCell']) ?_
          refine hK.out _ _ (HS.out _ (hHeld.2.2.2.2.2.same (setRow_other _ _ _ _ hb3))) (fun hHeld1 => ?_)
          clear hK K hHeld
          have hHeld := hHeld1; clear hHeld1
          try simp only [List.getElem_toArray, List.getElem_cons_succ, List.getElem_cons_zero, Act.put, List.setIfInBounds_toArray, List.set_cons_zero, List.set_cons_succ]
          refine wpAnyH_take (i := 7) (v := ?vty7) rfl (by kernel_rfl) (by kernel_rfl) (by kernel_rfl) (fun _ _ _ h => h) (Or.inl ⟨by rfl, ?yty7⟩) hHeld ?rty7
          case yty7 => (intro W hSw; simp only [List.getElem_toArray, List.getElem_cons_succ, List.getElem_cons_zero]; go_simp; try (with_reducible rfl))
          simp only [List.getElem_toArray, List.getElem_cons_succ, List.getElem_cons_zero, Act.put, List.setIfInBounds_toArray, List.set_cons_zero, List.set_cons_succ]
          clear hHeld
          refine wpAnyH_done (by kernel_rfl) ?_ _
          go_wp2_with fail
          refine ret5 Tryz.results63 rfl rfl (X5.out.set _).box rfl ?_
          exact ⟨gr_row G5.out (Nat.le_refl _) _, Or.inr ⟨f, r2, a, c, b, d, HY5.out, by rw [HFV.out.2.1, HFV.out.2.2.1, ← HFV.out.1, ← HFV.out.2.2.2.1, ← HFV.out.2.2.2.2]; rfl, rd_row R5.out (fun e => hpne e) (by omega) _, HM5.out, own_row (O5.out.weaken (z' := w.heap.size + 1) (by have := HWL.out; omega) (fun _ _ _ h => h)) (Nat.lt_succ_self _) _⟩⟩
  · have HMR1 := Lib.hid (show ∀ x ∈ r1, x ∈ ts by rw [hr1]; exact fun x hx => List.mem_cons_of_mem _ hx)
    have HL1 := Lib.hid (show r1.length + 1 = ts.length by rw [hr1]; rfl)
    have HNT := Lib.hid (not_not (n := n) (show takes wNot (ts.map core) = some (r1.map core) from hy))
    have G2 := Lib.hid (G1.out.trans hg2)
    have X2 := Lib.hid (X1.out.gr hg2 hpne)
    have CR := Lib.hid (IH.out r1 (fun x hx => HG.out x (HMR1.out x hx)) (by have := HL1.out; have := HLN.out; omega) (by have := HL1.out; have := HLN.out; omega) w2 hr2)
    have HW2 := Lib.hid (show w1.heap.size ≤ w2.heap.size from hg2.size)
    clear hr1 hy hg2 hr2
    go_wp2_with fail
    refine Calls.mono CR.out ?_
    rintro e w3 hE
    have G3 := Lib.hid (hE.up G2.out)
    have X3 := Lib.hid (X2.out.gr hE.1 hpne)
    obtain ⟨hg3, ⟨hn, k0, s0, o0, a0, n0, c0, b0, m0, d0, rfl⟩ | ⟨f, r, a, c, b, d, hy, rfl, hr3, hm3, ho3⟩⟩ := hE
    · have HN := Lib.hid (show notP (n + 1) (ts.map core) = none by rw [HNT.out]; simp only [show notP n (r1.map core) = none from hn])
      clear hg3 hn
      go_wp2_with (skip; (refine wpList_store_rowTo rfl _ _ _ rfl rfl w.heap.size _ rfl rfl _ #[.int .i64 0, .string ⟨#[]⟩, .string ⟨#[]⟩, .slice none 0 0, .slice none 0 0] (by first | exact X3.out | exact Rw.alloc X3.out _ | exact Rw.alloc2 X3.out _ _ | exact Rw.alloc3 X3.out _ _ _) (by kernel_rfl) rfl (by simp [Value.oneCell']) ?_))
      refine ret5 Tryz.results63 rfl rfl ((X3.out.alloc2 _ _).set _).box rfl ?_
      exact ⟨gr_row (gr_alloc (gr_alloc G3.out _) _) (Nat.le_refl _) _, Or.inl ⟨HN.out, _, _, _, _, _, _, _, _, _, rfl⟩⟩
    · have HY := Lib.hid (show notP (n + 1) (ts.map core) = some (.mk 3 [] [] [] [f], r.map core) by rw [HNT.out]; simp only [show notP n (r1.map core) = some (f, r.map core) from hy])
      have HMR := Lib.hid (show ∀ x ∈ r, x ∈ ts from fun x hx => HMR1.out x (hm3 x hx))
      have O3 := Lib.hid ho3
      have R3 := Lib.hid hr3
      have HWL := Lib.hid (show w.heap.size + 1 ≤ w2.heap.size ∧ w2.heap.size ≤ w3.heap.size from ⟨by have := HW1.out; have := HW2.out; omega, hg3.size⟩)
      clear hg3 hy hr3 hm3 ho3
      obtain ⟨sn, esn, _⟩ := bs_bytes f.name
      obtain ⟨so, eso, _⟩ := bs_bytes f.op
      obtain ⟨fk, hfk⟩ : ∃ x, x = f.kind := ⟨_, rfl⟩
      obtain ⟨n1, hn1⟩ : ∃ x, x = f.vals.length := ⟨_, rfl⟩
      obtain ⟨n2, hn2⟩ : ∃ x, x = f.parts.length := ⟨_, rfl⟩
      have HFV := Lib.hid (And.intro hfk (And.intro esn (And.intro eso (And.intro hn1 hn2))))
      rw [esn, eso, ← hfk, ← hn1, ← hn2]
      clear esn eso hfk hn1 hn2
      go_wp2_with (skip; (refine wpList_store_rowTo rfl _ _ _ rfl rfl w.heap.size _ rfl rfl _ #[.int .i64 0, .string ⟨#[]⟩, .string ⟨#[]⟩, .slice none 0 0, .slice none 0 0] (by first | exact X3.out | exact Rw.alloc X3.out _ | exact Rw.alloc2 X3.out _ _ | exact Rw.alloc3 X3.out _ _ _) (by kernel_rfl) rfl (by simp [Value.oneCell']) ?_))
      refine ret5 Tryz.results63 rfl rfl ((X3.out.alloc2 _ _).set _).box rfl ?_
      have ho := own_one (W := w3.alloc (.cells #[.int .i64 fk, .string sn, .string so, .slice a n1 c, .slice b n2 d] 25)) (z := w.heap.size + 1) (q := noX) (c := c) (d := d) ((O3.out.later ((Below.refl _ _).alloc (Nat.le_refl _) _)).weaken (z' := w.heap.size + 1) HWL.out.1 (fun _ _ _ h => h)).flt (by have := HWL.out; simp; omega) (fun h => h)
      rw [show (w3.alloc (.cells #[.int .i64 fk, .string sn, .string so, .slice a n1 c, .slice b n2 d] 25)).heap.size = w3.heap.size + 1 by simp, show fltC f a c b d = [.int .i64 fk, .string sn, .string so, .slice a n1 c, .slice b n2 d] by unfold fltC; rw [HFV.out.2.1, HFV.out.2.2.1, ← HFV.out.1, ← HFV.out.2.2.2.1, ← HFV.out.2.2.2.2]] at ho
      exact ⟨gr_row (gr_alloc (gr_alloc G3.out _) _) (Nat.le_refl _) _, Or.inr ⟨_, r, none, 0, some ⟨w3.heap.size + 1, 0, none⟩, 1, HY.out, rfl, rd_row ((R3.out.alloc hz _).alloc hz _) (fun e => hpne e) (by omega) _, HMR.out, own_row (z := w.heap.size + 1) ⟨⟨by simp [Flt.name], by simp [Flt.op], by show (-9223372036854775808 : Int) ≤ 3; decide, by show (3 : Int) ≤ 9223372036854775807; decide, by simp [Flt.parts, maxLen]⟩, ⟨by simp [Flt.vals], fun v hv => by simp [Flt.vals] at hv, fun h => by simp [Flt.vals] at h⟩, ho⟩ (Nat.lt_succ_self _) _⟩⟩
theorem not_all (p z : Nat) (hz : z ≤ p) : ∀ n, RdOk 63 n p z (notP n)
  | 0 => fun ts _ _ h => absurd h (Nat.not_lt_zero _)
  | n + 1 => not_step n p z hz (not_all p z hz n)
theorem or_all (p z : Nat) (hz : z ≤ p) (n : Nat) : RdOk 26 n p z (orP n) := or_of n p z hz (and_of n p z hz (not_all p z hz n))
end Go.Proofs.YtjffnjiggcfhcaaGreatDoor.Fl
/-
  Contracts of may and May of package filter: may a filter be? To any depth. Memory that was there is left as it was (may: but for the number that it counts down).
-/
namespace Go.Proofs.YtjffnjiggcfhcaaGreatDoor.Fl
open Go.RowKit Go.Proofs.YtjffnjiggcfhcaaGreatDoor.Tk
set_option linter.unusedVariables false
set_option linter.unusedSimpArgs false

def MayR (k : Int) (d m : Nat) (ps : List Flt) (w : World) (p : Nat) (vi : Value) (wr : World) : Prop :=
  ∃ j : Nat, vi = .int .i64 (j : Nat) ∧ j ≤ ps.length ∧ Hid (okU k d m (ps.take j) = true) ∧ w.grownBy wr (some p) ∧ LeftAt wr p ((m - szL (ps.take j) : Nat) : Int)
/-- What may tells. -/
def MayEnd (f : Flt) (deep n p : Nat) (w w' : World) (e : Ending) : Prop :=
  e = .returned (.bool (mayB f deep n)) ∧ w.grownBy w' (some p) ∧ (∃ m : Int, LeftAt w' p m) ∧ (mayB f deep n = true → LeftAt w' p ((n - sz f : Nat) : Int))
def MayOk (f : Flt) : Prop := ∀ (a : Option Addr) (c : Nat) (b : Option Addr) (d : Nat) (deep n z p : Nat) (w : World), deep ≤ 100 → n ≤ 100 → LaidZ z w → z ≤ p → z ≤ w.heap.size → FltAt w (Old z) f a b → LeftAt w p (n : Nat) →
  Calls Tryz.prog 21 #[.agg #[.int .i64 f.kind, bs f.name, bs f.op, .slice a f.vals.length c, .slice b f.parts.length d], .int .i64 (deep : Nat), .pointer (some ⟨p, 0, none⟩)] w fun e w' => MayEnd f deep n p w w' e
theorem may_ret {f : Flt} {deep n p : Nat} {w w' : World} {e : Ending} {m : Int} (h : mayB f deep n = false) (he : e = .returned (.bool false)) (hg : w.grownBy w' (some p)) (hl : LeftAt w' p m) : MayEnd f deep n p w w' e :=
  ⟨by rw [h, he], hg, ⟨m, hl⟩, fun h' => by rw [h] at h'; cases h'⟩

theorem grb {a b c : World} {r : Option Nat} (h : a.grownBy b r) (k : Below b.heap.size b c) : a.grownBy c r := h.trans (gr_of_below k)
set_option maxHeartbeats 4000000 in
set_option maxRecDepth 100000 in
theorem may_ok (f : Flt) (ih : ∀ q ∈ f.parts, MayOk q) : MayOk f := by
  obtain ⟨k, nm, o, vs, ps⟩ := f
  intro a c b d deep n z p w hd hn hE hz hzw hF hL
  simp only [Flt.kind, Flt.name, Flt.op, Flt.vals, Flt.parts] at ih ⊢
  obtain ⟨sn, en, hsn⟩ := bs_bytes nm
  obtain ⟨so, eo, hso⟩ := bs_bytes o
  rw [en, eo]
  have IH := Lib.hid ih
  have HE := Lib.hid hE
  have HF := Lib.hid hF
  have HL := Lib.hid hL
  have HPS := Lib.hid hF.parts
  have HVS := Lib.hid hF.atts
  simp only [Flt.parts] at HPS
  simp only [Flt.vals] at HVS
  obtain ⟨hl1, hl2⟩ := hL
  have hp : p < w.heap.size := LeftAt.lt ⟨hl1, hl2⟩
  have hpne : ¬ p = w.heap.size := by omega
  have hlen : ps.length ≤ 9223372036854775807 := by have := hF.small.2.2.2.2; simp only [Flt.parts] at this; unfold maxLen at this; omega
  have HN := Lib.hid hn
  have HD := Lib.hid hd
  clear ih hE hF en eo hd
  cases n with
  | zero =>
    have HF0 := Lib.hid (may_none (.mk k nm o vs ps) deep)
    by_cases h0 : deep = 0
    · subst h0
      go_enter Tryz.func21, Tryz.ntmps21
      go_wp2_with fail
      go_ret
      exact may_ret HF0.out rfl (gr_alloc (gr_set (gr_refl _ _) _) _) ((HL.out.set _).alloc _)
    · have h0z : ¬ (deep : Int) = 0 := by omega
      go_enter Tryz.func21, Tryz.ntmps21
      go_wp2_with fail
      go_ret
      exact may_ret HF0.out rfl (gr_alloc (gr_set (gr_refl _ _) _) _) ((HL.out.set _).alloc _)
  | succ m =>
  cases deep with
  | zero =>
    have HF0 := Lib.hid (may_flat (.mk k nm o vs ps) (m + 1))
    go_enter Tryz.func21, Tryz.ntmps21
    go_wp2_with fail
    go_ret
    exact may_ret HF0.out rfl (gr_alloc (gr_set (gr_refl _ _) _) _) ((HL.out.set _).alloc _)
  | succ dd =>
    have HM := Lib.hid (may_eq k nm o vs ps dd m)
    have CW := Lib.hid (fun W (h1 : LaidE W) (h2 : AttsAt W (Old W.heap.size) a vs) => isWhole_any k sn so vs a c ps.length b d W h1 h2)
    rw [hsn, hso] at CW
    obtain ⟨wh, hwh⟩ : ∃ r, wholeB k nm o vs ps.length = r := ⟨_, rfl⟩
    rw [hwh] at CW HM
    have hm99 : m ≤ 99 := by omega
    have hd99 : dd ≤ 99 := by have := HD.out; omega
    have hdz : ((dd : Int) + 1 == 0) = false := by rw [beq_eq_false_iff_ne]; omega
    have hdz2 : ¬ (dd : Int) + 1 = 0 := by omega
    have hmz : ¬ (m : Int) < 0 := by omega
    clear hwh hsn hso hn
    obtain ⟨w1, hw1⟩ : ∃ v, v = (w.setCell ⟨p, 0, none⟩ (.int .i64 (m : Nat))).alloc (.cells #[.int .i64 k, .string sn, .string so, .slice a vs.length c, .slice b ps.length d] 25) := ⟨_, rfl⟩
    have hsz : (w.setCell ⟨p, 0, none⟩ (.int .i64 (m : Nat))).heap.size = w.heap.size := by simp
    have B1 := Lib.hid (show Box w1 w.heap.size (.int .i64 k) (.string sn) (.string so) (.slice a vs.length c) (.slice b ps.length d) by rw [hw1, ← hsz]; exact Box.new ..)
    have G1 := Lib.hid (show w.grownBy w1 (some p) by rw [hw1]; exact gr_alloc (gr_set (gr_refl _ _) _) _)
    have L1 := Lib.hid (show LeftAt w1 p (m : Nat) by rw [hw1]; exact (HL.out.set _).alloc _)
    obtain ⟨vl, hvl⟩ : ∃ n, n = vs.length := ⟨_, rfl⟩
    obtain ⟨pl, hpl⟩ : ∃ n, n = ps.length := ⟨_, rfl⟩
    have HPL := Lib.hid hpl
    have HVL := Lib.hid hvl
    rw [← hvl, ← hpl] at CW B1 hw1 ⊢
    rw [← hpl] at hlen
    have HW1 := Lib.hid hw1
    have HHP := Lib.hid (And.intro hp hpne)
    clear hvl hpl hw1 hsz
    cases wh
    · have HF0 := Lib.hid (show mayB (.mk k nm o vs ps) (dd + 1) (m + 1) = false from HM.out)
      go_enter Tryz.func21, Tryz.ntmps21
      go_wp2_with (go_at_call 34; rw [← HW1.out]; refine Calls.mono (CW.out _ (HE.out.later (gr_below G1.out hz hzw)).1 (HVS.out.far fun i hi => ⟨Nat.lt_of_lt_of_le hi (Nat.le_trans hzw G1.out.size), (gr_below G1.out hz hzw).block i hi⟩)) ?_; rintro e w3 ⟨rfl, hb3⟩; have B3 := Lib.hid (B1.out.later hb3); have G3 := Lib.hid (grb G1.out hb3); have L3 := Lib.hid (L1.out.later hb3); obtain ⟨c0, c1, c2, c3, c4⟩ := B3.out; clear hb3)
      go_ret
      exact may_ret HF0.out rfl G3.out L3.out
    have HOK := Lib.hid (show mayB (.mk k nm o vs ps) (dd + 1) (m + 1) = okU k dd m ps from HM.out)
    go_enter Tryz.func21, Tryz.ntmps21
    go_wp2_with (go_at_call 34; rw [← HW1.out]; refine Calls.mono (CW.out _ (HE.out.later (gr_below G1.out hz hzw)).1 (HVS.out.far fun i hi => ⟨Nat.lt_of_lt_of_le hi (Nat.le_trans hzw G1.out.size), (gr_below G1.out hz hzw).block i hi⟩)) ?_; rintro e w3 ⟨rfl, hb3⟩; have B3 := Lib.hid (B1.out.later hb3); have G3 := Lib.hid (grb G1.out hb3); have L3 := Lib.hid (L1.out.later hb3); obtain ⟨c0, c1, c2, c3, c4⟩ := B3.out; clear hb3)
    clear c0 c1 c2 c3 c4
    go_loopw [30] (fun vi wr => MayR k dd m ps w3 p vi wr) (fun vi _ => pl - (intOf vi).toNat)
    case atStart => exact ⟨0, rfl, Nat.zero_le _, Lib.hid (okU_nil k dd m), gr_refl _ _, by simpa [szL] using L3.out⟩
    case round =>
      obtain ⟨j, rfl, hj, hok, hG, hL⟩ := hrel
      have HJ := Lib.hid hj
      have HG := Lib.hid hG
      have HLr := Lib.hid hL
      have HGW := Lib.hid (G3.out.trans hG)
      have hp3 : p < wr.heap.size := LeftAt.lt hL
      have hpne3 : ¬ p = wr.heap.size := by omega
      clear hj hG hL
      obtain ⟨c0, c1, c2, c3, c4⟩ := B3.out.gr HG.out (fun e => HHP.out.2 e.symm)
      by_cases hlt : j < pl
      · have hlz : (j : Int) < (pl : Int) := by omega
        have hjl : j < ps.length := by rw [← HPL.out]; exact hlt
        have HB := Lib.hid (gr_below HGW.out hz hzw)
        obtain ⟨g, o', a', c', b', d', hb, hg, h5, hfq⟩ := (HPS.out.later HB.out).get j hjl
        obtain ⟨q, hq⟩ : ∃ q, q = ps[j] := ⟨_, rfl⟩
        rw [← hq] at h5 hfq
        have HQ := Lib.hid (show ps[j]? = some q by rw [hq]; exact List.getElem?_eq_getElem hjl)
        have HMEM := Lib.hid (List.mem_of_getElem? HQ.out)
        obtain ⟨e0, e1, e2, e3, e4⟩ := h5
        obtain ⟨qn, en1, _⟩ := bs_bytes q.name
        obtain ⟨qo, eo1, _⟩ := bs_bytes q.op
        have CI := Lib.hid (fun W h1 h2 h3 h4 => IH.out q HMEM.out a' c' b' d' dd (m - szL (ps.take j)) z p W (by omega) (by omega) h1 hz h2 h3 h4)
        have HSTEP := Lib.hid (okU_step hok.out HQ.out)
        have HSZ := Lib.hid (szL_step HQ.out)
        rw [en1] at e1 CI
        rw [eo1] at e2 CI
        rw [Nat.zero_add] at e0 e1 e2 e3 e4
        have HFQ := Lib.hid hfq
        obtain ⟨qk, hqk⟩ : ∃ x, x = q.kind := ⟨_, rfl⟩
        obtain ⟨qv, hqv⟩ : ∃ x, x = q.vals.length := ⟨_, rfl⟩
        obtain ⟨qp, hqp⟩ : ∃ x, x = q.parts.length := ⟨_, rfl⟩
        obtain ⟨mq, hmq⟩ : ∃ x, x = mayB q dd (m - szL (ps.take j)) := ⟨_, rfl⟩
        obtain ⟨n', hn'⟩ : ∃ x, x = m - szL (ps.take j) := ⟨_, rfl⟩
        rw [← hqk] at e0 CI HSTEP
        rw [← hqv] at e3 CI
        rw [← hqp] at e4 CI
        rw [← hmq] at HSTEP
        rw [← hn'] at CI hmq HLr
        have HMQ := Lib.hid hmq
        have HN' := Lib.hid hn'
        have HGLT := Lib.hid (show g < wr.heap.size from Nat.lt_of_lt_of_le hg (Nat.le_trans hzw HGW.out.size))
        have hglt : g < wr.heap.size := HGLT.out
        have hgne : ¬ g = wr.heap.size := by omega
        have hblt : w.heap.size < wr.heap.size := by have := B3.out.lt; have := HG.out.size; omega
        have hbne : ¬ w.heap.size = wr.heap.size := by omega
        subst hb
        clear hg hq hfq hqk hqv hqp hmq hn' en1 eo1
        have CJ := Lib.hid (fun W => isJoined_any k W)
        have WA := Lib.hid (show ∀ ob, w3.grownBy (wr.alloc ob) (some p) ∧ LeftAt (wr.alloc ob) p (n' : Nat) ∧ LaidZ z (wr.alloc ob) ∧ z ≤ (wr.alloc ob).heap.size ∧ FltAt (wr.alloc ob) (Old z) q a' b' from fun ob =>
          ⟨gr_alloc HG.out ob, HLr.out.alloc ob, (HE.out.later HB.out).later ((Below.refl _ _).alloc (Nat.le_trans hzw HGW.out.size) ob), Nat.le_trans (Nat.le_trans hzw HGW.out.size) (by simp), HFQ.out.later ((Below.refl _ _).alloc (Nat.le_trans hzw HGW.out.size) ob)⟩)
        obtain ⟨jo, hjo⟩ : ∃ x, x = joinedB k := ⟨_, rfl⟩
        rw [← hjo] at CJ HSTEP
        clear hjo
        by_cases hbad : jo = true ∧ qk = k
        · obtain ⟨rfl, rfl⟩ := hbad
          have HF0 := Lib.hid (show mayB (.mk qk nm o vs ps) (dd + 1) (m + 1) = false by rw [HOK.out]; exact okU_take (j := j + 1) (by rw [HSTEP.out]; simp))
          go_wp2_with (go_at_call 35; refine Calls.mono (CJ.out _) ?_; rintro e w5 ⟨rfl, rfl⟩)
          go_ret
          exact may_ret HF0.out rfl (G3.out.trans (WA.out _).1) (WA.out _).2.1
        · have HS2 := Lib.hid (show okU k dd m (ps.take (j + 1)) = mq by
            rw [HSTEP.out]
            cases jo with
            | false => rfl
            | true => rw [decide_eq_false (show ¬ qk = k from fun e => hbad ⟨rfl, e⟩)]; rfl)
          have hbz : jo = false ∨ (jo = true ∧ ¬ qk = k) := by
            cases jo with
            | false => exact Or.inl rfl
            | true => exact Or.inr ⟨rfl, fun e => hbad ⟨rfl, e⟩⟩
          clear hbad
          cases mq
          · have HF0 := Lib.hid (show mayB (.mk k nm o vs ps) (dd + 1) (m + 1) = false by rw [HOK.out]; exact okU_take (j := j + 1) HS2.out)
            rcases hbz with rfl | ⟨rfl, hqne⟩
            all_goals
              go_wp2_with (first | (go_at_call 35; refine Calls.mono (CJ.out _) ?_; rintro e w5 ⟨rfl, rfl⟩) | (go_at_call 21; refine Calls.mono (CI.out _ (WA.out _).2.2.1 (WA.out _).2.2.2.1 (WA.out _).2.2.2.2 (WA.out _).2.1) ?_; rintro e w5 ⟨rfl, hg5, ⟨mm, hm5⟩, _⟩; have HG5 := Lib.hid ((WA.out _).1.trans hg5); have HM5 := Lib.hid hm5; rw [← HMQ.out]; clear hg5 hm5))
              go_ret
              exact may_ret HF0.out rfl (G3.out.trans HG5.out) HM5.out
          · rcases hbz with rfl | ⟨rfl, hqne⟩
            all_goals
              go_wp2_with (first | (go_at_call 35; refine Calls.mono (CJ.out _) ?_; rintro e w5 ⟨rfl, rfl⟩) | (go_at_call 21; refine Calls.mono (CI.out _ (WA.out _).2.2.1 (WA.out _).2.2.2.1 (WA.out _).2.2.2.2 (WA.out _).2.1) ?_; rintro e w5 ⟨rfl, hg5, _, hm5⟩; have HG5 := Lib.hid ((WA.out _).1.trans hg5); have HM5 := Lib.hid (hm5 HMQ.out.symm); rw [← HMQ.out]; clear hg5 hm5))
              go_roundw
              case rel => exact ⟨j + 1, by go_num, by omega, HS2, HG5.out, by rw [HSZ.out, show m - (szL (ps.take j) + sz q) = n' - sz q by rw [HN'.out]; omega]; exact HM5.out⟩
              case measure => simp [intOf]; omega
      · have hlz : ¬ (j : Int) < (pl : Int) := by omega
        have HF0 := Lib.hid (show mayB (.mk k nm o vs ps) (dd + 1) (m + 1) = true by
          rw [HOK.out]
          have := hok.out
          rwa [show j = ps.length by have := HJ.out; have := HPL.out; omega, List.take_length] at this)
        have HS0 := Lib.hid (show m - szL (ps.take j) = (m + 1) - sz (.mk k nm o vs ps) by
          rw [show j = ps.length by have := HJ.out; have := HPL.out; omega, List.take_length, sz]; omega)
        go_wp2_with fail
        go_ret
        exact ⟨by rw [HF0.out]; rfl, HGW.out, ⟨_, HLr.out⟩, fun _ => by rw [← HS0.out]; exact HLr.out⟩
theorem may_all : ∀ (N : Nat) (f : Flt), sz f ≤ N → MayOk f
  | 0, f, h => by have := sz_pos f; omega
  | N + 1, f, h => may_ok f fun q hq => may_all N q (by
      cases f
      simp only [Flt.parts] at hq
      have := sz_mem hq
      rw [sz] at h
      omega)
end Go.Proofs.YtjffnjiggcfhcaaGreatDoor.Fl
/-
  Contract of May of package filter: may a filter be? Memory that was there is left as it was.
-/
namespace Go.Proofs.YtjffnjiggcfhcaaGreatDoor.Fl
open Go.RowKit Go.Proofs.YtjffnjiggcfhcaaGreatDoor.Tk
set_option linter.unusedVariables false
set_option linter.unusedSimpArgs false

theorem LeftAt.new (w : World) (m : Int) (t : TypeId) : LeftAt (w.alloc (.cells #[.int .i64 m] t)) w.heap.size m := by
  constructor <;> simp [go_sem]
theorem filterMay_any (f : Flt) (a : Option Addr) (c : Nat) (b : Option Addr) (d : Nat) (w : World) (hE : LaidE w) (hF : FltAt w (Old w.heap.size) f a b) :
    Calls Tryz.prog 9 #[.agg #[.int .i64 f.kind, bs f.name, bs f.op, .slice a f.vals.length c, .slice b f.parts.length d]] w fun e w' => e = .returned (.bool (mayB f 10 60)) ∧ Below w.heap.size w w' := by
  have HC := Lib.hid (fun W p h1 h2 h3 h4 h5 => may_all (sz f) f (Nat.le_refl _) a c b d 10 60 w.heap.size p W (by omega) (by omega) h1 h2 h3 h4 h5)
  obtain ⟨sn, en, _⟩ := bs_bytes f.name
  obtain ⟨so, eo, _⟩ := bs_bytes f.op
  rw [en, eo] at HC ⊢
  have HE := Lib.hid (laidZ_of hE)
  have HF := Lib.hid hF
  obtain ⟨res, hres⟩ : ∃ x, x = mayB f 10 60 := ⟨_, rfl⟩
  have HR := Lib.hid hres
  rw [← hres]
  obtain ⟨qk, hqk⟩ : ∃ x, x = f.kind := ⟨_, rfl⟩
  obtain ⟨qv, hqv⟩ : ∃ x, x = f.vals.length := ⟨_, rfl⟩
  obtain ⟨qp, hqp⟩ : ∃ x, x = f.parts.length := ⟨_, rfl⟩
  rw [← hqk, ← hqv, ← hqp] at HC ⊢
  clear en eo hE hF hres hqk hqv hqp
  obtain ⟨w1, hw1⟩ : ∃ v, v = (w.alloc (.cells #[.int .i64 qk, .string sn, .string so, .slice a qv c, .slice b qp d] 25)).alloc (.cells #[.int .i64 60] 3) := ⟨_, rfl⟩
  have hs1 : (w.alloc (.cells #[.int .i64 qk, .string sn, .string so, .slice a qv c, .slice b qp d] 25)).heap.size = w.heap.size + 1 := by simp
  have HL := Lib.hid (show LeftAt w1 (w.heap.size + 1) ((60 : Nat) : Int) by rw [hw1, ← hs1]; exact LeftAt.new _ _ _)
  have HB := Lib.hid (show Below w.heap.size w w1 by rw [hw1]; exact ((Below.refl _ _).alloc (Nat.le_refl _) _).alloc (by rw [hs1]; omega) _)
  have HW := Lib.hid hw1
  clear hw1 hs1
  go_enter Tryz.func9, Tryz.ntmps9
  go_wp2_with fail
  rw [← HW.out]
  refine Calls.mono (HC.out w1 (w.heap.size + 1) (HE.out.later HB.out) (by omega) HB.out.size (HF.out.later HB.out) HL.out) ?_
  rintro e w2 ⟨rfl, hg, _, _⟩
  rw [← HR.out]
  have HB2 := Lib.hid (HB.out.trans (gr_below hg (by omega) HB.out.size))
  clear hg
  go_wp2_with fail
  go_ret
  exact ⟨rfl, HB2.out⟩
end Go.Proofs.YtjffnjiggcfhcaaGreatDoor.Fl
namespace Go.Proofs.YtjffnjiggcfhcaaGreatDoor.Fl
open Go.RowKit Go.Proofs.YtjffnjiggcfhcaaGreatDoor.Tk
set_option linter.unusedVariables false
set_option linter.unusedSimpArgs false

/-- Why s is no filter, as the code counts its errors. -/
def NoFlt (l : List UInt8) (n : Int) : Prop :=
  (500 < l.length ∧ n = 5) ∨ (l.length ≤ 500 ∧ n = 2 ∧ cutAt 0 l = none) ∨ (l.length ≤ 500 ∧ n = 3 ∧ (∃ ks, cutAt 0 l = some ks) ∧ readL l = none) ∨ (l.length ≤ 500 ∧ n = 5 ∧ ∃ f, readL l = some f ∧ mayB f 10 60 = false)
def ReadEnd (l : List UInt8) (w w' : World) (e : Ending) : Prop :=
  Below w.heap.size w w' ∧ ((∃ n : Int, e = .returned (.tuple #[.agg #[.int .i64 0, .string ⟨#[]⟩, .string ⟨#[]⟩, .slice none 0 0, .slice none 0 0], .iface 33 (.int .i64 n)]) ∧ NoFlt l n) ∨
    (∃ f a c b d, readL l = some f ∧ mayB f 10 60 = true ∧ l.length ≤ 500 ∧ e = .returned (.tuple #[.agg #[.int .i64 f.kind, bs f.name, bs f.op, .slice a f.vals.length c, .slice b f.parts.length d], .nilIface]) ∧ FltAt w' (fun g => w.heap.size ≤ g ∧ g < w'.heap.size) f a b))
theorem cut_count : ∀ (n a : Nat) (l : List UInt8) (ts : List Tok), l.length ≤ n → cutAt a l = some ts → ts.length ≤ l.length
  | n, a, [], ts, _, h => by
    rw [cutAt_nil] at h
    cases h
    simp
  | 0, a, c :: r, ts, hn, _ => by simp at hn
  | n + 1, a, c :: r, ts, hn, h => by
    simp only [List.length_cons] at hn
    by_cases hc : c.toNat = 32
    · rw [cutAt_space hc] at h
      have := cut_count n (a + 1) r ts (by omega) h
      simp only [List.length_cons]
      omega
    · cases hx : lex (c :: r) with
      | none => rw [cutAt_none hc a r hx] at h; cases h
      | some x =>
        have hz := lex_size hx
        rw [cutAt_some hc a r hx] at h
        obtain ⟨us, hu, rfl⟩ := Option.map_eq_some_iff.1 h
        have hl : ((c :: r).drop x.size).length = (c :: r).length - x.size := by simp
        have := cut_count n (a + x.size) _ us (by rw [hl]; simp only [List.length_cons]; omega) hu
        simp only [List.length_cons] at *
        omega
theorem toks_of {W : World} {z : Nat} {a : Option Addr} {ts : List Tok} (h : TksAt W z a ts) : Toks W (Old z) a ts := by
  intro h0
  obtain ⟨g, e, hg, hc⟩ := h.2 h0
  refine ⟨g, 0, e, hg, fun k hk => ?_⟩
  simp only [Nat.zero_add]
  exact hc k hk
/-- All tokens are read. -/
def topF : Option (Flt × List Tc) → Option Flt
  | some (f, []) => some f
  | _ => none
theorem readL_cut {l : List UInt8} {ts : List Tok} (h : cutAt 0 l = some ts) : readL l = topF (orP (ts.length + 1) (ts.map core)) := by
  unfold readL
  rw [h]
  simp only
  cases orP (ts.length + 1) (ts.map core) with
  | none => rfl
  | some x =>
    obtain ⟨f, r⟩ := x
    cases r <;> rfl
set_option maxHeartbeats 8000000 in
set_option maxRecDepth 100000 in
theorem read_any (s : ByteArray) (w : World) (hE : LaidE w) : Calls Tryz.prog 13 #[.string s] w fun e w' => ReadEnd s.data.toList w w' e := by
  have HSZ := Lib.hid (show s.size = s.data.toList.length by rw [Array.length_toList]; rfl)
  have q1 := neqE 5
  have q2 := neqE 2
  have q3 := neqN
  obtain ⟨w1, hw1⟩ : ∃ v, v = w.alloc (.cells #[.int .i64 0, .string ⟨#[]⟩, .string ⟨#[]⟩, .slice none 0 0, .slice none 0 0] 25) := ⟨_, rfl⟩
  have HW := Lib.hid hw1
  have B1 := Lib.hid (show Below w.heap.size w w1 by rw [hw1]; exact (Below.refl _ _).alloc (Nat.le_refl _) _)
  have X1 := Lib.hid (show Rw w1 w.heap.size #[.int .i64 0, .string ⟨#[]⟩, .string ⟨#[]⟩, .slice none 0 0, .slice none 0 0] by rw [hw1]; exact Rw.new ..)
  have HE := Lib.hid hE
  have CC := Lib.hid (cut_all_any s w1 (hE.later B1.out))
  clear hw1 hE
  go_enter Tryz.func13, Tryz.ntmps13
  go_wp2_with fail
  rw [← HW.out]
  refine Calls.mono CC.out ?_
  rintro e w2 ⟨⟨n, rfl, hno⟩ | ⟨ts, a, cap, rfl, h500, hcut, htk, hcap⟩, hb2⟩
  · have B2 := Lib.hid (B1.out.trans (hb2.mono B1.out.size))
    have X2 := Lib.hid (X1.out.later hb2)
    have HN := Lib.hid (show NoFlt s.data.toList n by
      rcases hno with ⟨h1, h2⟩ | ⟨h1, h2, h3⟩
      · exact Or.inl ⟨by rw [← HSZ.out]; exact h1, h2⟩
      · exact Or.inr (Or.inl ⟨by rw [← HSZ.out]; exact h1, h2, h3⟩))
    have q4 := neqE n
    clear hb2 hno
    go_wp2_with (skip; (refine wpList_store_rowTo rfl _ _ _ rfl rfl w.heap.size _ rfl rfl _ #[.int .i64 0, .string ⟨#[]⟩, .string ⟨#[]⟩, .slice none 0 0, .slice none 0 0] (by first | exact X2.out | exact Rw.alloc X2.out _ | exact Rw.alloc2 X2.out _ _ | exact Rw.alloc3 X2.out _ _ _) (by kernel_rfl) rfl (by simp [Value.oneCell']) ?_))
    refine ret5 Tryz.results13 rfl rfl (X2.out.set _).box rfl ?_
    exact ⟨gr_below (p := w.heap.size) (gr_row (gr_of_below B2.out) (Nat.le_refl _) _) (Nat.le_refl _) (Nat.le_refl _), Or.inl ⟨n, rfl, HN.out⟩⟩
  · obtain ⟨w3, hw3⟩ : ∃ v, v = w2.alloc (.cells #[.slice a ts.length cap] 55) := ⟨_, rfl⟩
    have HW3 := Lib.hid hw3
    have HL5 := Lib.hid (show s.data.toList.length ≤ 500 by rw [← HSZ.out]; exact h500)
    have HTL := Lib.hid (show ts.length ≤ 600 by have := cut_count _ _ _ _ (Nat.le_refl _) hcut; have := HL5.out; omega)
    have HRL := Lib.hid (readL_cut hcut)
    have HCT := Lib.hid hcut
    have X2 := Lib.hid (X1.out.later hb2)
    have X3 := Lib.hid (show Rw w3 w.heap.size #[.int .i64 0, .string ⟨#[]⟩, .string ⟨#[]⟩, .slice none 0 0, .slice none 0 0] by rw [hw3]; exact X2.out.alloc _)
    have G3 := Lib.hid (show w.grownBy w3 (some w2.heap.size) by rw [hw3]; exact gr_alloc (gr_of_below (B1.out.trans (hb2.mono B1.out.size))) _)
    have E3 := Lib.hid (HE.out.later (gr_below G3.out (by have := X2.out.lt; omega) (Nat.le_refl _)))
    have HP := Lib.hid (show w.heap.size < w2.heap.size ∧ w3.heap.size = w2.heap.size + 1 from ⟨X2.out.lt, by rw [hw3]; simp⟩)
    have R3 := Lib.hid (show RdAt w3 w2.heap.size w2.heap.size ts by
      rw [hw3]
      exact ⟨a, cap, by simp [go_sem], by simp [go_sem], hcap, (toks_of htk).far fun g hg => ⟨hg, Below.heap_alloc _ _ _ hg⟩⟩)
    have CR := Lib.hid (or_all w2.heap.size w2.heap.size (Nat.le_refl _) (ts.length + 1) ts (cut_TG HL5.out hcut) HTL.out (Nat.lt_succ_self _) w3 R3.out)
    obtain ⟨nt, hnt⟩ : ∃ x, x = ts.length := ⟨_, rfl⟩
    rw [← hnt] at HW3 ⊢
    have hwp : ¬ w.heap.size = w2.heap.size := by have := HP.out; omega
    clear hw3 h500 hcut htk hcap hb2 hnt
    go_wp2_with fail
    rw [← HW3.out]
    refine Calls.mono CR.out ?_
    rintro e w4 hEnd
    have G4 := Lib.hid (hEnd.up G3.out)
    have X4 := Lib.hid (X3.out.gr hEnd.1 hwp)
    obtain ⟨hg4, ⟨hn, k0, s0, o0, a0, n0, c0, b0, m0, d0, rfl⟩ | ⟨f, r, a', c', b', d', hy, rfl, hr4, hm4, ho4⟩⟩ := hEnd
    · have HN := Lib.hid (show NoFlt s.data.toList 3 from Or.inr (Or.inr (Or.inl ⟨HL5.out, rfl, ⟨_, HCT.out⟩, by rw [HRL.out, hn]; rfl⟩)))
      clear hg4 hn
      go_wp2_with (skip; (refine wpList_store_rowTo rfl _ _ _ rfl rfl w.heap.size _ rfl rfl _ #[.int .i64 0, .string ⟨#[]⟩, .string ⟨#[]⟩, .slice none 0 0, .slice none 0 0] (by first | exact X4.out | exact Rw.alloc X4.out _ | exact Rw.alloc2 X4.out _ _ | exact Rw.alloc3 X4.out _ _ _) (by kernel_rfl) rfl (by simp [Value.oneCell']) ?_))
      refine ret5 Tryz.results13 rfl rfl ((X4.out.alloc _).set _).box rfl ?_
      exact ⟨gr_below (gr_row (gr_alloc G4.out _) (Nat.le_refl _) _) (by have := HP.out; omega) (Nat.le_refl _), Or.inl ⟨3, rfl, HN.out⟩⟩
    · have HY := Lib.hid hy
      have O4 := Lib.hid ho4
      obtain ⟨sn, esn, _⟩ := bs_bytes f.name
      obtain ⟨so, eso, _⟩ := bs_bytes f.op
      obtain ⟨fk, hfk⟩ : ∃ x, x = f.kind := ⟨_, rfl⟩
      obtain ⟨n1, hn1⟩ : ∃ x, x = f.vals.length := ⟨_, rfl⟩
      obtain ⟨n2, hn2⟩ : ∃ x, x = f.parts.length := ⟨_, rfl⟩
      have HFV := Lib.hid (And.intro hfk (And.intro esn (And.intro eso (And.intro hn1 hn2))))
      rw [esn, eso, ← hfk, ← hn1, ← hn2]
      have hg4s : w3.heap.size ≤ w4.heap.size := hg4.size
      clear hy ho4 esn eso hfk hn1 hn2 hm4 hg4
      obtain ⟨ra, rc, hc, _, _, _⟩ := hr4
      have hp4 : w2.heap.size < w4.heap.size := by have := HP.out; omega
      cases r with
      | cons t r =>
        have HN := Lib.hid (show NoFlt s.data.toList 3 from Or.inr (Or.inr (Or.inl ⟨HL5.out, rfl, ⟨_, HCT.out⟩, by rw [HRL.out, HY.out]; rfl⟩)))
        obtain ⟨nr, hnr, hnr0⟩ : ∃ x : Nat, x = (t :: r).length ∧ 0 < x := ⟨_, rfl, by simp⟩
        rw [← hnr] at hc
        have hd : decide ((nr : Int) > 0) = true := decide_eq_true (by omega)
        clear hnr
        go_wp2_with (skip; (refine wpList_store_rowTo rfl _ _ _ rfl rfl w.heap.size _ rfl rfl _ #[.int .i64 0, .string ⟨#[]⟩, .string ⟨#[]⟩, .slice none 0 0, .slice none 0 0] (by first | exact X4.out | exact Rw.alloc X4.out _ | exact Rw.alloc2 X4.out _ _ | exact Rw.alloc3 X4.out _ _ _) (by kernel_rfl) rfl (by simp [Value.oneCell']) ?_))
        refine ret5 Tryz.results13 rfl rfl ((X4.out.alloc _).set _).box rfl ?_
        exact ⟨gr_below (gr_row (gr_alloc G4.out _) (Nat.le_refl _) _) (by have := HP.out; omega) (Nat.le_refl _), Or.inl ⟨3, rfl, HN.out⟩⟩
      | nil =>
        have HRD := Lib.hid (show readL s.data.toList = some f by rw [HRL.out, HY.out]; rfl)
        simp only [List.length_nil] at hc
        obtain ⟨w5, hw5⟩ : ∃ v, v = w4.alloc (.cells #[.int .i64 fk, .string sn, .string so, .slice a' n1 c', .slice b' n2 d'] 25) := ⟨_, rfl⟩
        have HW5 := Lib.hid hw5
        have X5 := Lib.hid (show Rw w5 w.heap.size #[.int .i64 0, .string ⟨#[]⟩, .string ⟨#[]⟩, .slice none 0 0, .slice none 0 0] by rw [hw5]; exact X4.out.alloc _)
        have Y5 := Lib.hid (show Rw w5 w4.heap.size #[.int .i64 fk, .string sn, .string so, .slice a' n1 c', .slice b' n2 d'] by rw [hw5]; exact Rw.new ..)
        have G5 := Lib.hid (show w.grownBy w5 (some w2.heap.size) by rw [hw5]; exact gr_alloc G4.out _)
        have F5 := Lib.hid (show FltAt w5 (fun g => w3.heap.size ≤ g ∧ g < w5.heap.size) f a' b' by rw [hw5]; exact (O4.out.later ((Below.refl _ _).alloc (Nat.le_refl _) _)).flt.far fun g h => ⟨⟨h.1, h.2.1⟩, rfl⟩)
        have CM := Lib.hid (filterMay_any f a' c' b' d' w5 (HE.out.later (gr_below G5.out (by have := HP.out; omega) (Nat.le_refl _))) (F5.out.far fun g h => ⟨h.2, rfl⟩))
        rw [HFV.out.2.1, HFV.out.2.2.1, ← HFV.out.1, ← HFV.out.2.2.2.1, ← HFV.out.2.2.2.2] at CM
        obtain ⟨mb, hmb⟩ : ∃ x, x = mayB f 10 60 := ⟨_, rfl⟩
        rw [← hmb] at CM
        have HMB := Lib.hid hmb
        clear hw5 hmb
        go_wp2_with fail
        rw [← HW5.out]
        refine Calls.mono CM.out ?_
        rintro e w6 ⟨rfl, hb6⟩
        have X6 := Lib.hid (X5.out.later hb6)
        have Y6 := Lib.hid (Y5.out.later hb6)
        have G6 := Lib.hid (gr_trans G5.out (gr_of_below hb6))
        have F6 := Lib.hid (show FltAt w6 (fun g => w3.heap.size ≤ g ∧ g < w6.heap.size) f a' b' from F5.out.far fun g h => ⟨⟨h.1, Nat.lt_of_lt_of_le h.2 hb6.size⟩, hb6.block g h.2⟩)
        obtain ⟨y0, y1, y2, y3, y4⟩ := Y6.out.box
        have hy6 : w4.heap.size < w6.heap.size := Y6.out.lt
        clear hb6 hc
        cases mb with
        | false =>
          have HN := Lib.hid (show NoFlt s.data.toList 5 from Or.inr (Or.inr (Or.inr ⟨HL5.out, rfl, f, HRD.out, HMB.out.symm⟩)))
          go_wp2_with (skip; (refine wpList_store_rowTo rfl _ _ _ rfl rfl w.heap.size _ rfl rfl _ #[.int .i64 0, .string ⟨#[]⟩, .string ⟨#[]⟩, .slice none 0 0, .slice none 0 0] (by first | exact X6.out | exact Rw.alloc X6.out _ | exact Rw.alloc2 X6.out _ _ | exact Rw.alloc3 X6.out _ _ _) (by kernel_rfl) rfl (by simp [Value.oneCell']) ?_))
          refine ret5 Tryz.results13 rfl rfl (X6.out.set _).box rfl ?_
          exact ⟨gr_below (gr_row G6.out (Nat.le_refl _) _) (by have := HP.out; omega) (Nat.le_refl _), Or.inl ⟨5, rfl, HN.out⟩⟩
        | true =>
          go_wp2_with (skip; (refine wpList_store_rowTo rfl _ _ _ rfl rfl w.heap.size _ rfl rfl _ #[.int .i64 0, .string ⟨#[]⟩, .string ⟨#[]⟩, .slice none 0 0, .slice none 0 0] (by first | exact X6.out | exact Rw.alloc X6.out _ | exact Rw.alloc2 X6.out _ _ | exact Rw.alloc3 X6.out _ _ _) (by kernel_rfl) rfl (by simp [Value.oneCell']) ?_))
          refine ret5 Tryz.results13 rfl rfl (X6.out.set _).box rfl ?_
          exact ⟨gr_below (gr_row G6.out (Nat.le_refl _) _) (by have := HP.out; omega) (Nat.le_refl _), Or.inr ⟨f, a', c', b', d', HRD.out, HMB.out.symm, HL5.out, by rw [HFV.out.2.1, HFV.out.2.2.1, ← HFV.out.1, ← HFV.out.2.2.2.1, ← HFV.out.2.2.2.2]; rfl, F6.out.far fun g h => ⟨⟨by have := HP.out; omega, by simpa using h.2⟩, setRow_other _ _ _ _ (by have := HP.out; omega)⟩⟩⟩
end Go.Proofs.YtjffnjiggcfhcaaGreatDoor.Fl
