/-
  A tree's inner parts in the order in which Nodes tells them. No program here.
-/
import Derived.Test.YtobkgamcjfjghaaGreatMp12
import Derived.Test.YtobkgamcjfjghaaGreatMp06
import Derived.Test.YtobkgamcjfjghaaGreatMp01
import Derived.Shelf.Sort.Plain
import Derived.Shelf.Slices.In.SortNone
import Derived.Test.YtobkgamcjfjghaaGreatProg
import Derived.Test.YtobkgamcjfjghaaGreatMp10
import Derived.Sort.OwnSortedInts
import Derived.Test.YtobkgamcjfjghaaGreatMp03
import Derived.Test.YtobkgamcjfjghaaGreatMp17
import Derived.Test.YtobkgamcjfjghaaGreatMp02
/-
  Contract of find for At's and for Window's function value: the numbers of the items below a part whose rectangles are wanted, behind those that were given. Memory that was there is left as it was.
-/
namespace Go.Proofs.YtobkgamcjfjghaaGreat.Rt
open Go.RowKit Go.Joins Go.Proofs.YtobkgamcjfjghaaGreat.Pt Go.Proofs.YtobkgamcjfjghaaGreat.Rc Go.Proofs.YtobkgamcjfjghaaGreat.Rs
set_option linter.unusedVariables false
set_option linter.unusedSimpArgs false
set_option maxRecDepth 100000

def idOf (σ : St) (b : Nat) : Int := match σ b with
  | some d => d.id
  | none => 0
theorem idOf_some {σ : St} {b : Nat} {d : Pd} (h : σ b = some d) : idOf σ b = d.id := by simp [idOf, h]
def idV (σ : St) (l : List Nat) : List Value := l.map fun k => .int .i64 (idOf σ k)
/-- A function value tells P of each rectangle that may be; memory is left as it was. -/
def Wants (fn : FuncId) (q : Nat) (P : R4 → Bool) (w : World) : Prop :=
  ∀ W, Below w.heap.size w W → ∀ r, may4 r → Calls Tryz.prog fn #[.agg #[.int .i64 r.x1, .int .i64 r.y1, .int .i64 r.x2, .int .i64 r.y2], .pointer (some ⟨q, 0, none⟩)] W fun e w' => e = .returned (.bool (P r)) ∧ Below W.heap.size W w'
/-- What find tells of xs and the found ones. -/
def FiE (w0 : World) (σ : St) (ys : List Nat) (e : Ending) (w' : World) : Prop :=
  ∃ s, e = .returned s ∧ w'.ownsRow w0.heap.size 3 1 s ys.length (idV σ ys) ∧ Below w0.heap.size w0 w'
def FiR (w0 : World) (σ : St) (P : R4 → Bool) (h : Nat) (xs ks : List Nat) (s i : Value) (wr : World) : Prop :=
  ∃ j : Nat, j ≤ ks.length ∧ i = .int .i64 j ∧ wr.ownsRow w0.heap.size 3 1 s (xs ++ (ks.take j).flatMap (fnd σ P h)).length (idV σ (xs ++ (ks.take j).flatMap (fnd σ P h))) ∧ Below w0.heap.size w0 wr
theorem fnd_part {σ : St} {P : R4 → Bool} {h : Nat} (xs ks : List Nat) (j : Nat) (hj : j < ks.length) {B : Nat} (hB : (xs ++ ks.flatMap (fnd σ P h)).length ≤ B) :
    ((xs ++ (ks.take j).flatMap (fnd σ P h)) ++ fnd σ P h ks[j]).length ≤ B ∧ (xs ++ (ks.take j).flatMap (fnd σ P h)) ++ fnd σ P h ks[j] = xs ++ (ks.take (j + 1)).flatMap (fnd σ P h) := by
  have e : (xs ++ (ks.take j).flatMap (fnd σ P h)) ++ fnd σ P h ks[j] = xs ++ (ks.take (j + 1)).flatMap (fnd σ P h) := by
    rw [List.take_succ_eq_append_getElem hj, List.flatMap_append, List.append_assoc]
    simp
  refine ⟨?_, e⟩
  rw [e]
  have e2 : ks.flatMap (fnd σ P h) = (ks.take (j + 1)).flatMap (fnd σ P h) ++ (ks.drop (j + 1)).flatMap (fnd σ P h) := by
    rw [← List.flatMap_append, List.take_append_drop]
  rw [e2] at hB
  simp only [List.length_append] at hB ⊢
  omega
set_option maxHeartbeats 2000000 in
theorem find_at (q : Nat) (P : R4 → Bool) (σ : St) (V : Nat → Value) (lo hi : Nat) (w0 : World) (hM : Mem w0 σ V) (hP : Wants 31 q P w0) (hh : hi ≤ 20) : ∀ (h b : Nat) (xs : List Nat) (s : Value) (w : World), Nd σ lo hi h b → h ≤ 3000 → Below w0.heap.size w0 w → w.ownsRow w0.heap.size 3 1 s xs.length (idV σ xs) → (xs ++ fnd σ P h b).length ≤ 1000000 →
    Calls Tryz.prog 47 #[ptr b, s, .func (.func 31) #[] #[.pointer (some ⟨q, 0, none⟩)]] w (FiE w0 σ (xs ++ fnd σ P h b)) := by
  have HM := Lib.hid hM
  have HP := Lib.hid hP
  have HHI := Lib.hid hh
  clear hM hP hh
  intro h
  induction h with
  | zero =>
    intro b xs s w hnd hhb hB hown hlen
    obtain ⟨d, hd, hl, hk, hm⟩ := hnd
    have HL := Lib.hid hl
    have PB := Lib.hid ((HM.out.part b d hd).later hB)
    obtain ⟨z0, z1, z2, z3, z4, z5, -⟩ := PB.out.cells
    rw [hl] at z0
    have CP := Lib.hid (HP.out w hB d.r hm)
    have HO := Lib.hid hown
    have HB := Lib.hid hB
    have EF : fnd σ P 0 b = if P d.r then [b] else [] := by simp only [fnd, rOf_some hd]
    have HID := Lib.hid (idOf_some hd)
    obtain ⟨i0, hi0, hz0, hz1, hz2⟩ := info_parts infoI
    obtain ⟨r, hr⟩ : ∃ r, r = P d.r := ⟨_, rfl⟩
    rw [← hr] at CP EF
    unfold ptr
    cases r with
    | false =>
      rw [EF]
      rw [if_neg Bool.false_ne_true, List.append_nil]
      clear hd hl hk hm hB hown hlen EF hr hhb
      go_enter Tryz.func47, Tryz.ntmps47
      go_wp2_with fail
      refine (CP.out).mono ?_
      rintro e w1 ⟨rfl, hb1⟩
      have B1 := Lib.hid (HB.out.trans (hb1.mono HB.out.size))
      have O1 := Lib.hid (HO.out.kept (row := none) ⟨hb1.os, hb1.tape, hb1.output, hb1.size, fun j hj _ => hb1.block j hj⟩ (by cases s.ownBlock <;> simp))
      clear hb1
      go_wp2_with fail
      go_ret
      exact ⟨s, rfl, O1.out, B1.out⟩
    | true =>
      rw [EF] at hlen ⊢
      rw [if_pos rfl] at hlen ⊢
      rw [List.length_append] at hlen
      obtain ⟨n, hn⟩ : ∃ n, n = xs.length := ⟨_, rfl⟩
      have hn1 : n + 1 ≤ 1000000 := by rw [hn]; simpa using hlen
      rw [← hn] at HO
      have HN := Lib.hid hn
      clear hd hl hk hm hB hown hlen EF hr hhb hn
      go_enter Tryz.func47, Tryz.ntmps47
      go_wp2_with fail
      refine (CP.out).mono ?_
      rintro e w1 ⟨rfl, hb1⟩
      have B1 := Lib.hid (HB.out.trans (hb1.mono HB.out.size))
      have P1 := PB.out.later hb1
      obtain ⟨z0, z1, z2, z3, z4, z5, -⟩ := P1.cells
      rw [HL.out] at z0
      have O2 := Lib.hid (show (w1.alloc (.cells #[.int .i64 d.id] 3)).ownsRow w0.heap.size 3 1 s n (idV σ xs) from (HO.out.kept (row := none) ⟨hb1.os, hb1.tape, hb1.output, hb1.size, fun j hj _ => hb1.block j hj⟩ (by cases s.ownBlock <;> simp)).alloc _)
      have BZ := Lib.hid (B1.out.alloc B1.out.size (.cells #[.int .i64 d.id] 3))
      have nw : Hid (∀ j u, ([.int .i64 d.id] : List Value)[j]? = some u → (w1.alloc (.cells #[.int .i64 d.id] 3)).cell? ((⟨w1.heap.size, 0, none⟩ : Addr).add j) = some u) := Lib.hid fun j u hj => by
        match j, hj with
        | 0, hj => simp at hj; subst hj; simp [Addr.add, go_sem]
        | j + 1, hj => simp at hj
      have one : Hid (∀ u ∈ ([.int .i64 d.id] : List Value), u.oneCell' = true) := Lib.hid fun u hu => by simp at hu; subst hu; rfl
      have SZ := Lib.hid (show w0.heap.size ≤ (w1.alloc (.cells #[.int .i64 d.id] 3)).heap.size from BZ.out.size)
      clear hb1
      go_wp2_with (first | (at_builtin; refine wpList_append_own_at _ rfl _ _ 49 rfl w0.heap.size 3 i0 (.int .i64 0) 1 8 Tryz.underlying49 hi0 hz0 hz1 hz2 rfl (by decide) _ _ _ rfl O2.out ⟨w1.heap.size, 0, none⟩ 1 1 [.int .i64 d.id] rfl rfl nw.out one.out (by unfold maxLen; omega) (by omega) SZ.out ?_))
      intro v' w4 hown hgrow _ _
      have HO4 := Lib.hid hown
      have B4 := Lib.hid (BZ.out.grown hgrow SZ.out (fun j hj => (O2.out.lt j hj).1))
      clear hown hgrow
      go_wp2_with fail
      go_ret
      refine ⟨v', rfl, ?_, B4.out⟩
      have := HO4.out
      rw [HN.out] at this
      simpa [idV, HID.out] using this
  | succ h ih =>
    intro b xs s w hnd hhb hB hown hlen
    have IH := Lib.hid ih
    obtain ⟨d, hd, hl, hk0, hk1, hre, hkk⟩ := id hnd
    have HL := Lib.hid hl
    have HD := Lib.hid hd
    have hm : may4 d.r := by have := hnd.may; rw [rOf_some hd] at this; exact this
    have PB := Lib.hid ((HM.out.part b d hd).later hB)
    obtain ⟨z0, z1, z2, z3, z4, -, -⟩ := PB.out.cells
    rw [hl] at z0
    have CP := Lib.hid (HP.out w hB d.r hm)
    have HO := Lib.hid hown
    have HB := Lib.hid hB
    have HKK := Lib.hid hkk
    have EF : fnd σ P (h + 1) b = if P d.r then d.kids.flatMap (fnd σ P h) else [] := by simp only [fnd, rOf_some hd, kidsOf_some hd]
    obtain ⟨r, hr⟩ : ∃ r, r = P d.r := ⟨_, rfl⟩
    rw [← hr] at CP EF
    unfold ptr
    cases r with
    | false =>
      rw [EF]
      rw [if_neg Bool.false_ne_true, List.append_nil]
      clear hd hl hk0 hk1 hre hkk hm hB hown hlen EF hr hhb hnd ih
      go_enter Tryz.func47, Tryz.ntmps47
      go_wp2_with fail
      refine (CP.out).mono ?_
      rintro e w1 ⟨rfl, hb1⟩
      have B1 := Lib.hid (HB.out.trans (hb1.mono HB.out.size))
      have O1 := Lib.hid (HO.out.kept (row := none) ⟨hb1.os, hb1.tape, hb1.output, hb1.size, fun j hj _ => hb1.block j hj⟩ (by cases s.ownBlock <;> simp))
      clear hb1
      go_wp2_with fail
      go_ret
      exact ⟨s, rfl, O1.out, B1.out⟩
    | true =>
      rw [EF] at hlen ⊢
      rw [if_pos rfl] at hlen ⊢
      have HLEN := Lib.hid hlen
      have hn20 : d.kids.length ≤ 20 := Nat.le_trans hk1 HHI.out
      have HHB := Lib.hid (show h ≤ 3000 by omega)
      have hne : ¬ (h : Int) = -1 := by omega
      clear hd hl hk0 hk1 hre hkk hm hB hown hlen EF hr hhb hnd ih
      go_enter Tryz.func47, Tryz.ntmps47
      go_wp2_with fail
      refine (CP.out).mono ?_
      rintro e w1 ⟨rfl, hb1⟩
      have B1 := Lib.hid (HB.out.trans (hb1.mono HB.out.size))
      have O1 := Lib.hid (HO.out.kept (row := none) ⟨hb1.os, hb1.tape, hb1.output, hb1.size, fun j hj _ => hb1.block j hj⟩ (by cases s.ownBlock <;> simp))
      have P1 := Lib.hid (PB.out.later hb1)
      obtain ⟨z0, z1, z2, z3, z4, -, z6⟩ := P1.out.cells
      rw [HL.out] at z0
      obtain ⟨A, c, hsv, -, -, hrow⟩ := (HM.out.part b d HD.out).kids
      obtain ⟨m, em⟩ : ∃ m, m = d.kids.length := ⟨_, rfl⟩
      rw [hsv, ← em] at z6
      rw [← em] at hn20
      have EM := Lib.hid em
      have HR := Lib.hid hrow
      have HR0 := Lib.hid (show FiR w0 σ P h xs d.kids s (.int .i64 0) w1 from ⟨0, Nat.zero_le _, rfl, by simpa using O1.out, B1.out⟩)
      clear hb1 hsv hrow em
      have hm2 : (m : Int) ≤ 20 := by omega
      go_wp2_with fail
      go_loopw [1, 36] (fun s i wr => FiR w0 σ P h xs d.kids s i wr) (fun _ i _ => m - (intOf i).toNat)
      case atStart => exact HR0.out
      case round =>
        obtain ⟨j, hj, rfl, hown, hB⟩ := hrel
        rw [← EM.out] at hj
        have HO := Lib.hid hown
        have HBW := Lib.hid hB
        clear hown hB HR0 z0 z1 z2 z3 z4 z6
        by_cases hlt : j < m
        · have hlz : (j : Int) < (m : Int) := by omega
          have hj0 : (0 : Int) ≤ (j : Int) := by omega
          have hjl : j < d.kids.length := by rw [← EM.out]; exact hlt
          obtain ⟨g, eA, hg, hcell⟩ := HR.out (by rw [← EM.out]; omega)
          subst eA
          obtain ⟨k, hk⟩ : ∃ k, k = d.kids[j] := ⟨_, rfl⟩
          have c1 : _root_.Go.World.cell? _ ⟨g, j, none⟩ = some (ptr k) := (HBW.out.cell (p := ⟨g, j, none⟩) hg).trans (by rw [hk]; exact hcell j hjl)
          have FP := fnd_part xs d.kids j hjl HLEN.out
          rw [← hk] at FP
          have KM : k ∈ d.kids := by rw [hk]; exact List.getElem_mem hjl
          have C := Lib.hid (IH.out k _ _ _ (HKK.out k KM) HHB.out HBW.out HO.out FP.1)
          have HF := Lib.hid FP.2
          unfold ptr at c1 C
          clear hk FP KM hcell hg
          go_wp2_with fail
          refine (C.out).mono ?_
          rintro e w2 ⟨s2, rfl, hown, hB⟩
          rw [HF.out] at hown
          have O2 := Lib.hid hown
          have B2 := Lib.hid hB
          clear hown hB c1
          go_wp2_with fail
          go_roundw
          case rel => (repeat apply Exists.intro); refine ⟨⟨j + 1, by omega, by go_num, O2.out, B2.out⟩, rfl⟩
          case measure => simp [intOf]; omega
        · have hlz : ¬ (j : Int) < (m : Int) := by omega
          have O3 := HO.out
          rw [List.take_of_length_le (by rw [← EM.out]; omega)] at O3
          have HO3 := Lib.hid O3
          clear O3
          go_wp2_with fail
          go_ret
          exact ⟨_, rfl, HO3.out, HBW.out⟩
set_option maxHeartbeats 2000000 in
theorem find_win (q : Nat) (P : R4 → Bool) (σ : St) (V : Nat → Value) (lo hi : Nat) (w0 : World) (hM : Mem w0 σ V) (hP : Wants 33 q P w0) (hh : hi ≤ 20) : ∀ (h b : Nat) (xs : List Nat) (s : Value) (w : World), Nd σ lo hi h b → h ≤ 3000 → Below w0.heap.size w0 w → w.ownsRow w0.heap.size 3 1 s xs.length (idV σ xs) → (xs ++ fnd σ P h b).length ≤ 1000000 →
    Calls Tryz.prog 47 #[ptr b, s, .func (.func 33) #[] #[.pointer (some ⟨q, 0, none⟩)]] w (FiE w0 σ (xs ++ fnd σ P h b)) := by
  have HM := Lib.hid hM
  have HP := Lib.hid hP
  have HHI := Lib.hid hh
  clear hM hP hh
  intro h
  induction h with
  | zero =>
    intro b xs s w hnd hhb hB hown hlen
    obtain ⟨d, hd, hl, hk, hm⟩ := hnd
    have HL := Lib.hid hl
    have PB := Lib.hid ((HM.out.part b d hd).later hB)
    obtain ⟨z0, z1, z2, z3, z4, z5, -⟩ := PB.out.cells
    rw [hl] at z0
    have CP := Lib.hid (HP.out w hB d.r hm)
    have HO := Lib.hid hown
    have HB := Lib.hid hB
    have EF : fnd σ P 0 b = if P d.r then [b] else [] := by simp only [fnd, rOf_some hd]
    have HID := Lib.hid (idOf_some hd)
    obtain ⟨i0, hi0, hz0, hz1, hz2⟩ := info_parts infoI
    obtain ⟨r, hr⟩ : ∃ r, r = P d.r := ⟨_, rfl⟩
    rw [← hr] at CP EF
    unfold ptr
    cases r with
    | false =>
      rw [EF]
      rw [if_neg Bool.false_ne_true, List.append_nil]
      clear hd hl hk hm hB hown hlen EF hr hhb
      go_enter Tryz.func47, Tryz.ntmps47
      go_wp2_with fail
      refine (CP.out).mono ?_
      rintro e w1 ⟨rfl, hb1⟩
      have B1 := Lib.hid (HB.out.trans (hb1.mono HB.out.size))
      have O1 := Lib.hid (HO.out.kept (row := none) ⟨hb1.os, hb1.tape, hb1.output, hb1.size, fun j hj _ => hb1.block j hj⟩ (by cases s.ownBlock <;> simp))
      clear hb1
      go_wp2_with fail
      go_ret
      exact ⟨s, rfl, O1.out, B1.out⟩
    | true =>
      rw [EF] at hlen ⊢
      rw [if_pos rfl] at hlen ⊢
      rw [List.length_append] at hlen
      obtain ⟨n, hn⟩ : ∃ n, n = xs.length := ⟨_, rfl⟩
      have hn1 : n + 1 ≤ 1000000 := by rw [hn]; simpa using hlen
      rw [← hn] at HO
      have HN := Lib.hid hn
      clear hd hl hk hm hB hown hlen EF hr hhb hn
      go_enter Tryz.func47, Tryz.ntmps47
      go_wp2_with fail
      refine (CP.out).mono ?_
      rintro e w1 ⟨rfl, hb1⟩
      have B1 := Lib.hid (HB.out.trans (hb1.mono HB.out.size))
      have P1 := PB.out.later hb1
      obtain ⟨z0, z1, z2, z3, z4, z5, -⟩ := P1.cells
      rw [HL.out] at z0
      have O2 := Lib.hid (show (w1.alloc (.cells #[.int .i64 d.id] 3)).ownsRow w0.heap.size 3 1 s n (idV σ xs) from (HO.out.kept (row := none) ⟨hb1.os, hb1.tape, hb1.output, hb1.size, fun j hj _ => hb1.block j hj⟩ (by cases s.ownBlock <;> simp)).alloc _)
      have BZ := Lib.hid (B1.out.alloc B1.out.size (.cells #[.int .i64 d.id] 3))
      have nw : Hid (∀ j u, ([.int .i64 d.id] : List Value)[j]? = some u → (w1.alloc (.cells #[.int .i64 d.id] 3)).cell? ((⟨w1.heap.size, 0, none⟩ : Addr).add j) = some u) := Lib.hid fun j u hj => by
        match j, hj with
        | 0, hj => simp at hj; subst hj; simp [Addr.add, go_sem]
        | j + 1, hj => simp at hj
      have one : Hid (∀ u ∈ ([.int .i64 d.id] : List Value), u.oneCell' = true) := Lib.hid fun u hu => by simp at hu; subst hu; rfl
      have SZ := Lib.hid (show w0.heap.size ≤ (w1.alloc (.cells #[.int .i64 d.id] 3)).heap.size from BZ.out.size)
      clear hb1
      go_wp2_with (first | (at_builtin; refine wpList_append_own_at _ rfl _ _ 49 rfl w0.heap.size 3 i0 (.int .i64 0) 1 8 Tryz.underlying49 hi0 hz0 hz1 hz2 rfl (by decide) _ _ _ rfl O2.out ⟨w1.heap.size, 0, none⟩ 1 1 [.int .i64 d.id] rfl rfl nw.out one.out (by unfold maxLen; omega) (by omega) SZ.out ?_))
      intro v' w4 hown hgrow _ _
      have HO4 := Lib.hid hown
      have B4 := Lib.hid (BZ.out.grown hgrow SZ.out (fun j hj => (O2.out.lt j hj).1))
      clear hown hgrow
      go_wp2_with fail
      go_ret
      refine ⟨v', rfl, ?_, B4.out⟩
      have := HO4.out
      rw [HN.out] at this
      simpa [idV, HID.out] using this
  | succ h ih =>
    intro b xs s w hnd hhb hB hown hlen
    have IH := Lib.hid ih
    obtain ⟨d, hd, hl, hk0, hk1, hre, hkk⟩ := id hnd
    have HL := Lib.hid hl
    have HD := Lib.hid hd
    have hm : may4 d.r := by have := hnd.may; rw [rOf_some hd] at this; exact this
    have PB := Lib.hid ((HM.out.part b d hd).later hB)
    obtain ⟨z0, z1, z2, z3, z4, -, -⟩ := PB.out.cells
    rw [hl] at z0
    have CP := Lib.hid (HP.out w hB d.r hm)
    have HO := Lib.hid hown
    have HB := Lib.hid hB
    have HKK := Lib.hid hkk
    have EF : fnd σ P (h + 1) b = if P d.r then d.kids.flatMap (fnd σ P h) else [] := by simp only [fnd, rOf_some hd, kidsOf_some hd]
    obtain ⟨r, hr⟩ : ∃ r, r = P d.r := ⟨_, rfl⟩
    rw [← hr] at CP EF
    unfold ptr
    cases r with
    | false =>
      rw [EF]
      rw [if_neg Bool.false_ne_true, List.append_nil]
      clear hd hl hk0 hk1 hre hkk hm hB hown hlen EF hr hhb hnd ih
      go_enter Tryz.func47, Tryz.ntmps47
      go_wp2_with fail
      refine (CP.out).mono ?_
      rintro e w1 ⟨rfl, hb1⟩
      have B1 := Lib.hid (HB.out.trans (hb1.mono HB.out.size))
      have O1 := Lib.hid (HO.out.kept (row := none) ⟨hb1.os, hb1.tape, hb1.output, hb1.size, fun j hj _ => hb1.block j hj⟩ (by cases s.ownBlock <;> simp))
      clear hb1
      go_wp2_with fail
      go_ret
      exact ⟨s, rfl, O1.out, B1.out⟩
    | true =>
      rw [EF] at hlen ⊢
      rw [if_pos rfl] at hlen ⊢
      have HLEN := Lib.hid hlen
      have hn20 : d.kids.length ≤ 20 := Nat.le_trans hk1 HHI.out
      have HHB := Lib.hid (show h ≤ 3000 by omega)
      have hne : ¬ (h : Int) = -1 := by omega
      clear hd hl hk0 hk1 hre hkk hm hB hown hlen EF hr hhb hnd ih
      go_enter Tryz.func47, Tryz.ntmps47
      go_wp2_with fail
      refine (CP.out).mono ?_
      rintro e w1 ⟨rfl, hb1⟩
      have B1 := Lib.hid (HB.out.trans (hb1.mono HB.out.size))
      have O1 := Lib.hid (HO.out.kept (row := none) ⟨hb1.os, hb1.tape, hb1.output, hb1.size, fun j hj _ => hb1.block j hj⟩ (by cases s.ownBlock <;> simp))
      have P1 := Lib.hid (PB.out.later hb1)
      obtain ⟨z0, z1, z2, z3, z4, -, z6⟩ := P1.out.cells
      rw [HL.out] at z0
      obtain ⟨A, c, hsv, -, -, hrow⟩ := (HM.out.part b d HD.out).kids
      obtain ⟨m, em⟩ : ∃ m, m = d.kids.length := ⟨_, rfl⟩
      rw [hsv, ← em] at z6
      rw [← em] at hn20
      have EM := Lib.hid em
      have HR := Lib.hid hrow
      have HR0 := Lib.hid (show FiR w0 σ P h xs d.kids s (.int .i64 0) w1 from ⟨0, Nat.zero_le _, rfl, by simpa using O1.out, B1.out⟩)
      clear hb1 hsv hrow em
      have hm2 : (m : Int) ≤ 20 := by omega
      go_wp2_with fail
      go_loopw [1, 36] (fun s i wr => FiR w0 σ P h xs d.kids s i wr) (fun _ i _ => m - (intOf i).toNat)
      case atStart => exact HR0.out
      case round =>
        obtain ⟨j, hj, rfl, hown, hB⟩ := hrel
        rw [← EM.out] at hj
        have HO := Lib.hid hown
        have HBW := Lib.hid hB
        clear hown hB HR0 z0 z1 z2 z3 z4 z6
        by_cases hlt : j < m
        · have hlz : (j : Int) < (m : Int) := by omega
          have hj0 : (0 : Int) ≤ (j : Int) := by omega
          have hjl : j < d.kids.length := by rw [← EM.out]; exact hlt
          obtain ⟨g, eA, hg, hcell⟩ := HR.out (by rw [← EM.out]; omega)
          subst eA
          obtain ⟨k, hk⟩ : ∃ k, k = d.kids[j] := ⟨_, rfl⟩
          have c1 : _root_.Go.World.cell? _ ⟨g, j, none⟩ = some (ptr k) := (HBW.out.cell (p := ⟨g, j, none⟩) hg).trans (by rw [hk]; exact hcell j hjl)
          have FP := fnd_part xs d.kids j hjl HLEN.out
          rw [← hk] at FP
          have KM : k ∈ d.kids := by rw [hk]; exact List.getElem_mem hjl
          have C := Lib.hid (IH.out k _ _ _ (HKK.out k KM) HHB.out HBW.out HO.out FP.1)
          have HF := Lib.hid FP.2
          unfold ptr at c1 C
          clear hk FP KM hcell hg
          go_wp2_with fail
          refine (C.out).mono ?_
          rintro e w2 ⟨s2, rfl, hown, hB⟩
          rw [HF.out] at hown
          have O2 := Lib.hid hown
          have B2 := Lib.hid hB
          clear hown hB c1
          go_wp2_with fail
          go_roundw
          case rel => (repeat apply Exists.intro); refine ⟨⟨j + 1, by omega, by go_num, O2.out, B2.out⟩, rfl⟩
          case measure => simp [intOf]; omega
        · have hlz : ¬ (j : Int) < (m : Int) := by omega
          have O3 := HO.out
          rw [List.take_of_length_le (by rw [← EM.out]; omega)] at O3
          have HO3 := Lib.hid O3
          clear O3
          go_wp2_with fail
          go_ret
          exact ⟨_, rfl, HO3.out, HBW.out⟩
end Go.Proofs.YtobkgamcjfjghaaGreat.Rt
/-
  What At's and Window's function values tell of a rectangle.
-/
namespace Go.Proofs.YtobkgamcjfjghaaGreat.Rt
open Go.RowKit Go.Joins Go.Proofs.YtobkgamcjfjghaaGreat.Pt Go.Proofs.YtobkgamcjfjghaaGreat.Rc Go.Proofs.YtobkgamcjfjghaaGreat.Rs
set_option linter.unusedVariables false
set_option linter.unusedSimpArgs false
set_option maxRecDepth 100000

theorem at_wants (q : Nat) (px py : Int) (w : World) (h0 : w.cell? ⟨q, 0, none⟩ = some (.int .i64 px)) (h1 : w.cell? ⟨q, 1, none⟩ = some (.int .i64 py)) :
    Wants 31 q (fun r => inB r.x1 r.y1 r.x2 r.y2 px py) w := by
  intro W hB r _
  have z0 := cell_later hB h0
  have z1 := cell_later hB h1
  have Z := Lib.hid (And.intro z0 z1)
  have BQ := Lib.hid ((Below.refl W.heap.size W).alloc (Nat.le_refl _) (.cells #[.int .i64 r.x1, .int .i64 r.y1, .int .i64 r.x2, .int .i64 r.y2] 26))
  have y0 := cell_later BQ.out z0
  have y1 := cell_later BQ.out z1
  clear h0 h1 hB z0 z1
  go_enter Tryz.func31, Tryz.ntmps31
  go_wp2_with (first | (go_at_call 32; refine (in_any r.x1 r.y1 r.x2 r.y2 px py _).mono ?_; rintro e w1 ⟨rfl, hb1⟩))
  go_ret
  exact ⟨rfl, BQ.out.trans (hb1.mono BQ.out.size)⟩
/-- Two rectangles have a point in common. -/
def meetB (o r : R4) : Bool := ordB (mx o.x1 r.x1) (mx o.y1 r.y1) (mn o.x2 r.x2) (mn o.y2 r.y2)
theorem win_wants (q : Nat) (o : R4) (w : World) (h0 : w.cell? ⟨q, 0, none⟩ = some (.int .i64 o.x1)) (h1 : w.cell? ⟨q, 1, none⟩ = some (.int .i64 o.y1)) (h2 : w.cell? ⟨q, 2, none⟩ = some (.int .i64 o.x2)) (h3 : w.cell? ⟨q, 3, none⟩ = some (.int .i64 o.y2)) :
    Wants 33 q (meetB o) w := by
  intro W hB r _
  have z0 := cell_later hB h0
  have z1 := cell_later hB h1
  have z2 := cell_later hB h2
  have z3 := cell_later hB h3
  have BQ := Lib.hid ((Below.refl W.heap.size W).alloc (Nat.le_refl _) (.cells #[.int .i64 r.x1, .int .i64 r.y1, .int .i64 r.x2, .int .i64 r.y2] 26))
  have y0 := cell_later BQ.out z0
  have y1 := cell_later BQ.out z1
  have y2 := cell_later BQ.out z2
  have y3 := cell_later BQ.out z3
  clear h0 h1 h2 h3 hB z0 z1 z2 z3
  cases hm : meetB o r
  · have MN := Lib.hid fun W => meet_no o.x1 o.y1 o.x2 o.y2 r.x1 r.y1 r.x2 r.y2 W hm
    clear hm
    go_enter Tryz.func33, Tryz.ntmps33
    go_wp2_with (first | (go_at_call 34; refine (MN.out _).mono ?_; rintro e w1 ⟨rfl, hb1⟩; have B2 := Lib.hid ((BQ.out.trans (hb1.mono BQ.out.size)).alloc (BQ.out.trans (hb1.mono BQ.out.size)).size (.cells #[.int .i64 0, .int .i64 0, .int .i64 0, .int .i64 0] 26)); clear hb1))
    go_ret
    exact ⟨rfl, B2.out⟩
  · have MN := Lib.hid fun W => meet_yes o.x1 o.y1 o.x2 o.y2 r.x1 r.y1 r.x2 r.y2 W hm
    clear hm
    go_enter Tryz.func33, Tryz.ntmps33
    go_wp2_with (first | (go_at_call 34; refine (MN.out _).mono ?_; rintro e w1 ⟨rfl, hb1⟩; have B2 := Lib.hid (BQ.out.trans (hb1.mono BQ.out.size)); clear hb1))
    go_ret
    exact ⟨rfl, B2.out.alloc B2.out.size _⟩
end Go.Proofs.YtobkgamcjfjghaaGreat.Rt
/-
  The library's functions that the code calls, each by what it answers (slices_Sort_int, slices_Sort_int_none): laid at this program by the shelf, without conditions of our own.
-/
namespace Go.Proofs
open Go.Shelf
def Tryz.lays189_ren : Go.Shelf.Ren := ⟨fun | 189 => 48 | 125 => 60 | 257 => 59 | 128 => 79 | 129 => 80 | 294 => 70 | 295 => 71 | 296 => 72 | 297 => 73 | 298 => 74 | 299 => 75 | 216 => 76 | 300 => 77 | 301 => 78 | 328 => 98 | 329 => 99 | 330 => 100 | 331 => 101 | 332 => 102 | 215 => 103 | 343 => 119 | n => n, fun | 28 => 49 | 3 => 3 | 46 => 97 | 0 => 0 | 51 => 118 | 53 => 120 | 4 => 4 | 183 => 110 | 182 => 109 | 131 => 115 | 5 => 5 | 9 => 9 | 218 => 139 | 222 => 143 | 228 => 161 | 229 => 162 | n => n, fun | n => n⟩
theorem Tryz.lays189 : Go.Proofs.Lays.n189 Tryz.prog Tryz.lays189_ren := {
  mixed := by kernel_rfl
  f125 := Tryz.func60.trans (congrArg some (by kernel_rfl))
  f128 := Tryz.func79.trans (congrArg some (by kernel_rfl))
  f129 := Tryz.func80.trans (congrArg some (by kernel_rfl))
  f189 := Tryz.func48.trans (congrArg some (by kernel_rfl))
  f215 := Tryz.func103.trans (congrArg some (by kernel_rfl))
  f216 := Tryz.func76.trans (congrArg some (by kernel_rfl))
  f257 := Tryz.func59.trans (congrArg some (by kernel_rfl))
  f294 := Tryz.func70.trans (congrArg some (by kernel_rfl))
  f295 := Tryz.func71.trans (congrArg some (by kernel_rfl))
  f296 := Tryz.func72.trans (congrArg some (by kernel_rfl))
  f297 := Tryz.func73.trans (congrArg some (by kernel_rfl))
  f298 := Tryz.func74.trans (congrArg some (by kernel_rfl))
  f299 := Tryz.func75.trans (congrArg some (by kernel_rfl))
  f300 := Tryz.func77.trans (congrArg some (by kernel_rfl))
  f301 := Tryz.func78.trans (congrArg some (by kernel_rfl))
  f328 := Tryz.func98.trans (congrArg some (by kernel_rfl))
  f329 := Tryz.func99.trans (congrArg some (by kernel_rfl))
  f330 := Tryz.func100.trans (congrArg some (by kernel_rfl))
  f331 := Tryz.func101.trans (congrArg some (by kernel_rfl))
  f332 := Tryz.func102.trans (congrArg some (by kernel_rfl))
  f343 := Tryz.func119.trans (congrArg some (by kernel_rfl))
  t0 := Tryz.underlying0
  a0 := Tryz.isAgg0
  z0 := Tryz.sizeOf0
  v0 := Tryz.zeroValue0
  t3 := Tryz.underlying3
  a3 := Tryz.isAgg3
  z3 := Tryz.sizeOf3
  v3 := Tryz.zeroValue3
  t4 := Tryz.underlying4
  a4 := Tryz.isAgg4
  z4 := Tryz.sizeOf4
  v4 := Tryz.zeroValue4
  t5 := Tryz.underlying5
  a5 := Tryz.isAgg5
  z5 := Tryz.sizeOf5
  v5 := Tryz.zeroValue5
  t9 := Tryz.underlying9
  a9 := Tryz.isAgg9
  z9 := Tryz.sizeOf9
  v9 := Tryz.zeroValue9
  t28 := Tryz.underlying49
  a28 := Tryz.isAgg49
  z28 := Tryz.sizeOf49
  v28 := Tryz.zeroValue49
  t46 := Tryz.underlying97
  a46 := Tryz.isAgg97
  z46 := Tryz.sizeOf97
  v46 := Tryz.zeroValue97
  t51 := Tryz.underlying118
  a51 := Tryz.isAgg118
  z51 := Tryz.sizeOf118
  v51 := Tryz.zeroValue118
  t53 := Tryz.underlying120
  a53 := Tryz.isAgg120
  z53 := Tryz.sizeOf120
  v53 := Tryz.zeroValue120
  t131 := Tryz.underlying115
  a131 := Tryz.isAgg115
  z131 := Tryz.sizeOf115
  v131 := Tryz.zeroValue115
  t182 := Tryz.underlying109
  a182 := Tryz.isAgg109
  z182 := Tryz.sizeOf109
  v182 := Tryz.zeroValue109
  t183 := Tryz.underlying110
  a183 := Tryz.isAgg110
  z183 := Tryz.sizeOf110
  v183 := Tryz.zeroValue110
  t218 := Tryz.underlying139
  a218 := Tryz.isAgg139
  z218 := Tryz.sizeOf139
  v218 := Tryz.zeroValue139
  t222 := Tryz.underlying143
  a222 := Tryz.isAgg143
  z222 := Tryz.sizeOf143
  v222 := Tryz.zeroValue143
  t228 := Tryz.underlying161
  a228 := Tryz.isAgg161
  z228 := Tryz.sizeOf161
  v228 := Tryz.zeroValue161
  t229 := Tryz.underlying162
  a229 := Tryz.isAgg162
  z229 := Tryz.sizeOf162
  v229 := Tryz.zeroValue162 }
open Go.Sort Go.RowKit in
theorem Tryz.slices_Sort_int (blk off cap : Nat) (zs : List Int) (w : World) (hH : Holds (Value.int .i64) w blk off zs.toArray) (hblk : blk < w.heap.size) (hsz : zs.length < 4611686018427387904) :
    Calls Tryz.prog 48 #[.slice (some ⟨blk, off, none⟩) zs.length cap] w fun e w' =>
      e = .returned (.tuple #[]) ∧ ∃ n os, w' = grow (putRow (Value.int .i64) (Sort.ahead w n) blk off (zs.mergeSort fun x y => decide (x ≤ y)).toArray) os := Any.slices_Sort_int Tryz.lays189 blk off cap zs w hH hblk hsz
open Go.RowKit Go.Sort in
theorem Tryz.slices_Sort_int_none (p : Option Addr) (cap : Nat) (w : World) :
    Calls Tryz.prog 48 #[.slice p 0 cap] w fun e w' => e = .returned (.tuple #[]) ∧ w' = w := Any.slices_Sort_int_none Tryz.lays189 p cap w
end Go.Proofs
/-
  Contract of Tree.found: the numbers of the wanted items, rising, in a row of the call's own (for At's and for Window's function value).
-/
namespace Go.Proofs.YtobkgamcjfjghaaGreat.Rt
open Go.RowKit Go.Joins Go.Proofs.YtobkgamcjfjghaaGreat.Pt Go.Proofs.YtobkgamcjfjghaaGreat.Rc Go.Proofs.YtobkgamcjfjghaaGreat.Rs
set_option linter.unusedVariables false
set_option linter.unusedSimpArgs false
set_option maxHeartbeats 2000000
set_option maxRecDepth 100000
theorem Nd.low {σ : St} {lo lo2 hi : Nat} (hl : lo2 ≤ lo) : ∀ {h b : Nat}, Nd σ lo hi h b → Nd σ lo2 hi h b
  | 0, b, hn => hn
  | h + 1, b, ⟨d, h1, h2, h3, h4, h5, h6⟩ => ⟨d, h1, h2, Nat.le_trans hl h3, h4, h5, fun k hk => (h6 k hk).low hl⟩
/-- A tree's root, whatever the number of its kids. -/
theorem Tree.nd {σ : St} {lo hi rlo h b : Nat} {E G : List Nat} (ht : Tree σ lo hi rlo h b E G) : Nd σ 0 hi (h + 1) b := by
  obtain ⟨d, h1, h2, h3, h4, h5, h6, h7, h8⟩ := ht
  exact ⟨d, h1, h2, Nat.zero_le _, h5, h6, fun k hk => (h3 k hk).low (Nat.zero_le _)⟩
theorem gr_below {z : Nat} {w X : World} {g : Nat} (hz : z ≤ w.heap.size) (hg : w.grownBy X (some g)) (h : z ≤ g) : Below z w X :=
  (Below.refl z w).grown hg hz (fun k e => by cases e; exact h)
/-- The sort, at a row of the call's own. -/
theorem sortI_any {z : Nat} (l : List Int) (s : Value) (w : World) (hz : z ≤ w.heap.size) (hl : l.length ≤ 1000000) (hr : w.ownsRow z 3 1 s l.length (l.map (Value.int .i64))) :
    Calls Tryz.prog 48 #[s] w fun e w' => e = .returned (.tuple #[]) ∧ w'.ownsRow z 3 1 s (l.mergeSort fun x y => decide (x ≤ y)).length ((l.mergeSort fun x y => decide (x ≤ y)).map (Value.int .i64)) ∧ Below z w w' := by
  have hlen : (l.mergeSort fun x y => decide (x ≤ y)).length = l.length := (List.mergeSort_perm l _).length_eq
  by_cases h0 : l.length = 0
  · have hln : l = [] := List.length_eq_zero_iff.1 h0
    obtain ⟨A, c, rfl⟩ : ∃ A c, s = .slice A 0 c := by
      rcases hr.2 with ⟨e, e2⟩ | ⟨g, c, cur, e, _⟩
      · exact ⟨none, 0, e⟩
      · exact ⟨_, c, by rw [e, h0]⟩
    refine (Tryz.slices_Sort_int_none A c w).mono ?_
    rintro e w' ⟨rfl, rfl⟩
    refine ⟨rfl, ?_, Below.refl _ _⟩
    rw [hln] at hr ⊢
    simpa using hr
  · have hr0 := hr
    rcases hr.2 with ⟨e, e2⟩ | ⟨g, c, cur, rfl, k1, k2, k3, k4, k5, k6⟩
    · omega
    have hg : g < w.heap.size := (Array.getElem?_eq_some_iff.1 k2).1
    refine (Tryz.slices_Sort_int g 0 c l w (holds_of_blockI k2 (by simpa using k6)) hg (by omega)).mono ?_
    rintro e w' ⟨rfl, m, os, rfl⟩
    refine ⟨rfl, ?_, gr_below hz (grownBy_sortedI _) k1⟩
    have := ownsRow_sortedI (w := w) (base := z) (g := g) (cap := c) (n := m) (os := os) (ss := l) (ts := l.mergeSort fun x y => decide (x ≤ y)) hlen k1 k2 k3 k4 k5
    rw [hlen]
    exact this
/-- What found tells. -/
def FoE (l : List Int) (w : World) (e : Ending) (w' : World) : Prop :=
  ∃ s, e = .returned s ∧ w'.ownsRow w.heap.size 3 1 s (l.mergeSort fun x y => decide (x ≤ y)).length ((l.mergeSort fun x y => decide (x ≤ y)).map (Value.int .i64)) ∧ Below w.heap.size w w'
def wanted (σ : St) (P : R4 → Bool) (l : List Nat) : List Int := (l.filter fun k => P (rOf σ k)).map (idOf σ)
theorem found_at (t o mb root q h : Nat) (P : R4 → Bool) (σ : St) (V : Nat → Value) (lo hi rlo : Nat) (E G : List Nat) (w : World) (hM : Mem w σ V) (hT : TAt w t o mb root) (hP : Wants 31 q P w) (hh : hi ≤ 20) (ht : Tree σ lo hi rlo h root E G) (h3 : h + 1 ≤ 3000) (hG : G.length ≤ 1000000) (hm : ∀ a b, holdsR a b → P b = true → P a = true) :
    Calls Tryz.prog 30 #[ptr t, .func (.func 31) #[] #[.pointer (some ⟨q, 0, none⟩)]] w (FoE (wanted σ P (lvs σ (h + 1) root)) w) := by
  have hlv : (lvs σ (h + 1) root).length ≤ 1000000 := by
    obtain ⟨d, k1, k2, k3, k4, k5, k6, k7, k8⟩ := ht
    rw [k8.length_eq]
    exact hG
  have hf : fnd σ P (h + 1) root = (lvs σ (h + 1) root).filter fun k => P (rOf σ k) := ht.nd.fnd hm
  have hfl : (fnd σ P (h + 1) root).length ≤ 1000000 := by rw [hf]; exact Nat.le_trans (List.length_filter_le _ _) hlv
  have CF := Lib.hid (find_at q P σ V 0 hi w hM hP hh (h + 1) root [] (.slice none 0 0) w ht.nd h3 (Below.refl _ _) (World.ownsRow_nil _ _ _ _) (by simpa using hfl))
  have EL := Lib.hid (show wanted σ P (lvs σ (h + 1) root) = (fnd σ P (h + 1) root).map (idOf σ) by unfold wanted; rw [hf])
  obtain ⟨-, -, t2⟩ := hT.cells
  have HFL := Lib.hid hfl
  unfold ptr at CF t2 ⊢
  clear hM hT hP ht hm hf hfl hlv hG
  go_enter Tryz.func30, Tryz.ntmps30
  go_wp2_with fail
  refine Calls.mono CF.out ?_
  rintro e w1 ⟨s, rfl, hrow, hb1⟩
  have B1 := Lib.hid hb1
  rw [List.nil_append] at hrow
  have CS := Lib.hid (sortI_any (z := w.heap.size) ((fnd σ P (h + 1) root).map (idOf σ)) s w1 hb1.size (by rw [List.length_map]; exact HFL.out) (by
    rw [List.length_map, List.map_map]
    exact hrow))
  clear hb1 hrow CF
  go_wp2_with fail
  refine Calls.mono CS.out ?_
  rintro e w2 ⟨rfl, hrow, hb2⟩
  rw [← EL.out] at hrow
  have R2 := Lib.hid hrow
  have B2 := Lib.hid hb2
  clear hrow hb2 CS
  go_wp2_with fail
  go_ret
  exact ⟨s, rfl, R2.out, B1.out.trans B2.out⟩
theorem found_win (t o mb root q h : Nat) (P : R4 → Bool) (σ : St) (V : Nat → Value) (lo hi rlo : Nat) (E G : List Nat) (w : World) (hM : Mem w σ V) (hT : TAt w t o mb root) (hP : Wants 33 q P w) (hh : hi ≤ 20) (ht : Tree σ lo hi rlo h root E G) (h3 : h + 1 ≤ 3000) (hG : G.length ≤ 1000000) (hm : ∀ a b, holdsR a b → P b = true → P a = true) :
    Calls Tryz.prog 30 #[ptr t, .func (.func 33) #[] #[.pointer (some ⟨q, 0, none⟩)]] w (FoE (wanted σ P (lvs σ (h + 1) root)) w) := by
  have hlv : (lvs σ (h + 1) root).length ≤ 1000000 := by
    obtain ⟨d, k1, k2, k3, k4, k5, k6, k7, k8⟩ := ht
    rw [k8.length_eq]
    exact hG
  have hf : fnd σ P (h + 1) root = (lvs σ (h + 1) root).filter fun k => P (rOf σ k) := ht.nd.fnd hm
  have hfl : (fnd σ P (h + 1) root).length ≤ 1000000 := by rw [hf]; exact Nat.le_trans (List.length_filter_le _ _) hlv
  have CF := Lib.hid (find_win q P σ V 0 hi w hM hP hh (h + 1) root [] (.slice none 0 0) w ht.nd h3 (Below.refl _ _) (World.ownsRow_nil _ _ _ _) (by simpa using hfl))
  have EL := Lib.hid (show wanted σ P (lvs σ (h + 1) root) = (fnd σ P (h + 1) root).map (idOf σ) by unfold wanted; rw [hf])
  obtain ⟨-, -, t2⟩ := hT.cells
  have HFL := Lib.hid hfl
  unfold ptr at CF t2 ⊢
  clear hM hT hP ht hm hf hfl hlv hG
  go_enter Tryz.func30, Tryz.ntmps30
  go_wp2_with fail
  refine Calls.mono CF.out ?_
  rintro e w1 ⟨s, rfl, hrow, hb1⟩
  have B1 := Lib.hid hb1
  rw [List.nil_append] at hrow
  have CS := Lib.hid (sortI_any (z := w.heap.size) ((fnd σ P (h + 1) root).map (idOf σ)) s w1 hb1.size (by rw [List.length_map]; exact HFL.out) (by
    rw [List.length_map, List.map_map]
    exact hrow))
  clear hb1 hrow CF
  go_wp2_with fail
  refine Calls.mono CS.out ?_
  rintro e w2 ⟨rfl, hrow, hb2⟩
  rw [← EL.out] at hrow
  have R2 := Lib.hid hrow
  have B2 := Lib.hid hb2
  clear hrow hb2 CS
  go_wp2_with fail
  go_ret
  exact ⟨s, rfl, R2.out, B1.out.trans B2.out⟩
end Go.Proofs.YtobkgamcjfjghaaGreat.Rt
/-
  The whole index (tree, parts, map of items), and what Len and Get tell of it.
-/
namespace Go.Proofs.YtobkgamcjfjghaaGreat.Rt
open Go.RowKit Go.Joins Go.Maps Go.Proofs.YtobkgamcjfjghaaGreat.Pt Go.Proofs.YtobkgamcjfjghaaGreat.Rc Go.Proofs.YtobkgamcjfjghaaGreat.Rs
set_option linter.unusedVariables false
set_option linter.unusedSimpArgs false
set_option maxHeartbeats 2000000
set_option maxRecDepth 100000
/-- All items below a sound part are items. -/
theorem Nd.leaf {σ : St} {lo hi : Nat} : ∀ {h b : Nat}, Nd σ lo hi h b → ∀ k ∈ lvs σ h b, Nd σ lo hi 0 k
  | 0, b, hn, k, hk => by
    simp [lvs] at hk
    subst hk
    exact hn
  | h + 1, b, ⟨d, h1, h2, h3, h4, h5, h6⟩, k, hk => by
    rw [lvs_self h1] at hk
    obtain ⟨j, hj, hk⟩ := List.mem_flatMap.1 hk
    exact (h6 j hj).leaf k hk
theorem Tree.item {σ : St} {lo hi rlo h b k : Nat} {E G : List Nat} (ht : Tree σ lo hi rlo h b E G) (hk : k ∈ G) : ∃ d, σ k = some d ∧ d.lvl = -1 ∧ d.kids = [] ∧ may4 d.r := by
  obtain ⟨d, h1, h2, h3, h4, h5, h6, h7, h8⟩ := id ht
  exact ht.nd.leaf k ((h8.mem_iff).2 hk)
/-- The index: its tree, its parts, its items' map; G are its items. -/
structure Idx (w : World) (t o : Nat) (σ : St) (V : Nat → Value) (mb root h : Nat) (M : Int → Option Nat) (G : List Nat) : Prop where
  mem : Mem w σ V
  tree : TAt w t o mb root
  map : MapAt w mb M G.length
  sound : Tree σ (leastN o) o 2 h root [] G
  known : ∀ i k, M i = some k ↔ k ∈ G ∧ idOf σ k = i
section
variable {w w' : World} {t o mb root h : Nat} {σ : St} {V : Nat → Value} {M : Int → Option Nat} {G : List Nat}
theorem Idx.later (x : Idx w t o σ V mb root h M G) (hb : Below w.heap.size w w') : Idx w' t o σ V mb root h M G :=
  ⟨x.mem.later hb, x.tree.later hb, x.map.later hb, x.sound, x.known⟩
end
theorem len_any (t o mb root h : Nat) (σ : St) (V : Nat → Value) (M : Int → Option Nat) (G : List Nat) (w : World) (x : Idx w t o σ V mb root h M G) :
    Calls Tryz.prog 15 #[ptr t] w fun e w' => e = .returned (.int .i64 (G.length : Int)) ∧ w' = w := by
  obtain ⟨-, t1, -⟩ := x.tree.cells
  have ln := x.map.len 3
  obtain ⟨n, hn⟩ : ∃ n, n = G.length := ⟨_, rfl⟩
  rw [← hn] at ln ⊢
  unfold ptr
  clear x hn
  go_enter Tryz.func15, Tryz.ntmps15
  go_wp2_with fail
  go_ret
  exact ⟨rfl, rfl⟩
def GetE (w : World) (σ : St) (o : Option Nat) (e : Ending) (w' : World) : Prop :=
  Below w.heap.size w w' ∧ ((o = none ∧ e = .returned (.tuple #[.agg #[.int .i64 0, .int .i64 0, .int .i64 0, .int .i64 0], .bool false])) ∨
    ∃ k d, o = some k ∧ σ k = some d ∧ e = .returned (.tuple #[.agg #[.int .i64 d.r.x1, .int .i64 d.r.y1, .int .i64 d.r.x2, .int .i64 d.r.y2], .bool true]))
theorem get_any (t o mb root h : Nat) (σ : St) (V : Nat → Value) (M : Int → Option Nat) (G : List Nat) (i : Int) (w : World) (x : Idx w t o σ V mb root h M G) (hi : wf64 i) :
    Calls Tryz.prog 14 #[ptr t, .int .i64 i] w (GetE w σ (M i)) := by
  obtain ⟨wa, hwa⟩ : ∃ v, v = w.alloc (.cells #[.int .i64 0, .int .i64 0, .int .i64 0, .int .i64 0] 26) := ⟨_, rfl⟩
  have hb : Below w.heap.size w wa := by rw [hwa]; exact (Below.refl _ _).alloc (Nat.le_refl _) _
  have xa := x.later hb
  obtain ⟨-, t1, -⟩ := xa.tree.cells
  obtain ⟨v, hrun, hv⟩ := xa.map.look hi
  have BA := Lib.hid hb
  have XA := Lib.hid xa
  unfold ptr
  cases hM : M i with
  | none =>
    rw [hM] at hrun
    simp only [Option.isSome_none] at hrun
    rw [hwa] at hrun t1
    clear x hv xa hb hM
    go_enter Tryz.func14, Tryz.ntmps14
    go_wp2_with fail
    refine bodyPost_ret (v := .tuple #[.agg #[.int .i64 0, .int .i64 0, .int .i64 0, .int .i64 0], .bool false]) (by simp [results, Tryz.results14, go_sem]) rfl ?_
    exact ⟨by rw [← hwa]; exact BA.out, Or.inl ⟨rfl, rfl⟩⟩
  | some k =>
    obtain ⟨d, hd, -, -, -⟩ := xa.sound.item (((xa.known i k).1 hM).1)
    obtain ⟨-, z1, z2, z3, z4, -, -⟩ := (xa.mem.part k d hd).cells
    have ev := hv k hM
    subst ev
    have HD := Lib.hid hd
    rw [hM] at hrun
    simp only [Option.isSome_some] at hrun
    unfold ptr at hrun
    rw [hwa] at hrun t1 z1 z2 z3 z4
    clear x hv xa hb hM hd
    go_enter Tryz.func14, Tryz.ntmps14
    go_wp2_with fail
    refine bodyPost_ret (v := .tuple #[.agg #[.int .i64 d.r.x1, .int .i64 d.r.y1, .int .i64 d.r.x2, .int .i64 d.r.y2], .bool true]) (by simp [results, Tryz.results14, go_sem]) rfl ?_
    exact ⟨(Below.refl _ _).alloc (Nat.le_refl _) _, Or.inr ⟨k, d, rfl, HD.out, rfl⟩⟩
end Go.Proofs.YtobkgamcjfjghaaGreat.Rt
namespace Go.Proofs.YtobkgamcjfjghaaGreat.Rt
open Go.Proofs.YtobkgamcjfjghaaGreat.Rc Go.Proofs.YtobkgamcjfjghaaGreat.Rs
set_option linter.unusedVariables false
set_option linter.unusedSimpArgs false
/-- All inner parts (no items) at a part and below it. -/
def inn (σ : St) : Nat → Nat → List Nat
  | 0, _ => []
  | h + 1, b => b :: (kidsOf σ b).flatMap (inn σ h)
/-- The inner parts below a part of level l. -/
def below (σ : St) (p : Nat × Nat) : List Nat := (kidsOf σ p.1).flatMap (inn σ p.2)
theorem inn_eq (σ : St) (l b : Nat) : inn σ (l + 1) b = b :: below σ (b, l) := rfl
theorem below_leaf (σ : St) (b : Nat) : below σ (b, 0) = [] := by
  unfold below
  rw [List.flatMap_eq_nil_iff]
  intro k _
  rfl
theorem inn_sub (σ : St) : ∀ (h b : Nat), (inn σ h b).Sublist (blks σ h b)
  | 0, b => by simp [inn]
  | h + 1, b => by
    simp only [inn, blks]
    refine List.Sublist.cons_cons _ ?_
    induction kidsOf σ b with
    | nil => simp
    | cons a l ih =>
      rw [List.flatMap_cons, List.flatMap_cons]
      exact (inn_sub σ h a).append ih
/-- i of the parts L are told; the kids of the told ones lie in L, from K on. -/
structure Bf (σ : St) (lo hi h root i : Nat) (L : List (Nat × Nat)) (K : List Nat) : Prop where
  le : i ≤ L.length
  klen : K.length = i
  sound : ∀ p ∈ L, Nd σ lo hi (p.2 + 1) p.1
  start : ∀ (p : Nat) (hp : p < i) (hk : p < K.length) (hl : p < L.length), 1 ≤ L[p].2 → p < K[p] ∧ ∀ (j : Nat) (hj : j < (kidsOf σ L[p].1).length), L[K[p] + j]? = some ((kidsOf σ L[p].1)[j], L[p].2 - 1)
  all : (L.map Prod.fst ++ (L.drop i).flatMap (below σ)).Perm (inn σ (h + 1) root)
  head : L[0]? = some (root, h)
section
variable {σ : St} {lo hi h root i : Nat} {L : List (Nat × Nat)} {K : List Nat}
theorem Bf.begin (hn : Nd σ lo hi (h + 1) root) : Bf σ lo hi h root 0 [(root, h)] [] :=
  ⟨Nat.zero_le _, rfl, fun p hp => by simp at hp; subst hp; exact hn, fun p hp => absurd hp (Nat.not_lt_zero _), by simp [inn_eq], rfl⟩
theorem Bf.len (x : Bf σ lo hi h root i L K) : L.length ≤ (inn σ (h + 1) root).length := by
  have := x.all.length_eq
  rw [List.length_append, List.length_map] at this
  omega
/-- A part of level 0 is told. -/
theorem Bf.leaf {b s : Nat} (x : Bf σ lo hi h root i L K) (hi' : i < L.length) (hb : L[i] = (b, 0)) : Bf σ lo hi h root (i + 1) L (K ++ [s]) := by
  refine ⟨hi', by rw [List.length_append, x.klen]; rfl, x.sound, fun p hp hk hl h1 => ?_, ?_, x.head⟩
  · by_cases e : p = i
    · subst e
      rw [hb] at h1
      simp at h1
    · have hpk : p < K.length := by rw [x.klen]; omega
      rw [List.getElem_append_left hpk]
      exact x.start p (by omega) hpk hl h1
  · have := x.all
    rw [List.drop_eq_getElem_cons hi', List.flatMap_cons, hb, below_leaf, List.nil_append] at this
    exact this
/-- A part above is told: its kids are to be told behind all others. -/
theorem Bf.node {b l : Nat} (x : Bf σ lo hi h root i L K) (hi' : i < L.length) (hb : L[i] = (b, l + 1)) : Bf σ lo hi h root (i + 1) (L ++ (kidsOf σ b).map fun k => (k, l)) (K ++ [L.length]) := by
  have sb := x.sound _ (List.getElem_mem hi')
  rw [hb] at sb
  obtain ⟨d, d1, d2, d3, d4, d5, d6⟩ := sb
  have kd : kidsOf σ b = d.kids := kidsOf_some d1
  refine ⟨by rw [List.length_append]; omega, by rw [List.length_append, x.klen]; rfl, fun p hp => ?_, fun p hp hk hl h1 => ?_, ?_, ?_⟩
  · rcases List.mem_append.1 hp with hp | hp
    · exact x.sound p hp
    · obtain ⟨k, hk, rfl⟩ := List.mem_map.1 hp
      rw [kd] at hk
      exact d6 k hk
  · have hpl : p < L.length := by omega
    rw [List.getElem_append_left hpl] at h1
    by_cases e : p = i
    · subst e
      have eK : (K ++ [L.length])[p] = L.length := by
        rw [List.getElem_append_right (by rw [x.klen]; exact Nat.le_refl _)]
        simp
      rw [eK]
      refine ⟨hi', fun j hj => ?_⟩
      rw [List.getElem?_append_right (Nat.le_add_right _ _), Nat.add_sub_cancel_left]
      simp only [List.getElem_append_left hpl, hb] at hj ⊢
      rw [List.getElem?_map, List.getElem?_eq_getElem hj]
      rfl
    · have hpk : p < K.length := by rw [x.klen]; omega
      have := x.start p (by omega) hpk hpl h1
      simp only [List.getElem_append_left hpk, List.getElem_append_left hpl]
      refine ⟨this.1, fun j hj => ?_⟩
      have g := this.2 j hj
      rw [List.getElem?_append_left]
      · exact g
      · exact (List.getElem?_eq_some_iff.1 g).1
  · refine List.Perm.trans ?_ x.all
    have e1 : (L ++ (kidsOf σ b).map fun k => (k, l)).drop (i + 1) = L.drop (i + 1) ++ (kidsOf σ b).map fun k => (k, l) := List.drop_append_of_le_length (by omega)
    have e2 : ((kidsOf σ b).map fun k => (k, l)).map Prod.fst = kidsOf σ b := by simp [Function.comp_def]
    have e3 : (L.drop i).flatMap (below σ) = (kidsOf σ b).flatMap (inn σ (l + 1)) ++ (L.drop (i + 1)).flatMap (below σ) := by
      rw [List.drop_eq_getElem_cons hi', List.flatMap_cons, hb]
      rfl
    have e4 : ((kidsOf σ b).map fun k => (k, l)).flatMap (below σ) = (kidsOf σ b).flatMap fun k => below σ (k, l) := by rw [List.flatMap_map]
    have e5 : ∀ ks : List Nat, (ks.flatMap (inn σ (l + 1))).Perm (ks ++ ks.flatMap fun k => below σ (k, l)) := by
      intro ks
      induction ks with
      | nil => simp
      | cons a ks ih =>
        rw [List.flatMap_cons, List.flatMap_cons, inn_eq]
        rw [List.perm_iff_count] at ih ⊢
        intro y
        have := ih y
        simp only [List.count_append, List.count_cons, List.cons_append] at this ⊢
        omega
    rw [e1, List.map_append, e2, List.flatMap_append, e4, e3]
    have := e5 (kidsOf σ b)
    rw [List.perm_iff_count] at this ⊢
    intro y
    have := this y
    simp only [List.count_append] at this ⊢
    omega
  · rw [List.getElem?_append_left (by omega)]
    exact x.head
/-- All are told. -/
theorem Bf.done (x : Bf σ lo hi h root L.length L K) : (L.map Prod.fst).Perm (inn σ (h + 1) root) := by
  have := x.all
  rw [List.drop_length, List.flatMap_nil, List.append_nil] at this
  exact this
end
end Go.Proofs.YtobkgamcjfjghaaGreat.Rt
