/-
  Contracts of cmp.Compare, cmp.Or and the small functions of package rsplit: each tells some number. Memory that was there is left as it was.
-/
import Derived.Test.YtobkgamcjfjghaaGreatMf02
import Derived.Test.YtobkgamcjfjghaaGreatMf01
import Derived.Deep.QuietTactic
import Derived.BigQuiet
/-
  A slice of points in memory, and a rectangle of the call's own in memory: what is known of them stays known behind whatever only makes memory. No program here.
-/
namespace Go.Proofs.YtobkgamcjfjghaaGreat.Pts
open Go.RowKit

/-- A slice that holds these points, in blocks below B. -/
def PtsAt (w : World) (B : Nat) (A : Option Addr) (l : List (Int × Int)) : Prop :=
  l ≠ [] → ∃ b off, A = some ⟨b, off, none⟩ ∧ b < B ∧ ∀ (k : Nat) (h : k < l.length), w.cell? ⟨b, off + k * 2, none⟩ = some (.int .i64 l[k].1) ∧ w.cell? ⟨b, off + k * 2 + 1, none⟩ = some (.int .i64 l[k].2)
theorem PtsAt.later {w w' : World} {B : Nat} {A : Option Addr} {l : List (Int × Int)} (h : PtsAt w B A l) (hb : Below B w w') : PtsAt w' B A l := by
  intro hl
  obtain ⟨b, off, e, hB, hc⟩ := h hl
  exact ⟨b, off, e, hB, fun k hk => ⟨(hb.cell (p := ⟨b, off + k * 2, none⟩) hB).trans (hc k hk).1, (hb.cell (p := ⟨b, off + k * 2 + 1, none⟩) hB).trans (hc k hk).2⟩⟩
theorem PtsAt.wide {w : World} {B B' : Nat} {A : Option Addr} {l : List (Int × Int)} (h : PtsAt w B A l) (hB : B ≤ B') : PtsAt w B' A l := by
  intro hl
  obtain ⟨b, off, e, hb, hc⟩ := h hl
  exact ⟨b, off, e, by omega, hc⟩

/-- A rectangle in block g, that may be written. -/
def Rc4 (W : World) (g : Nat) (x1 y1 x2 y2 : Int) : Prop :=
  W.cell? ⟨g, 0, none⟩ = some (.int .i64 x1) ∧ W.cell? ⟨g, 1, none⟩ = some (.int .i64 y1) ∧ W.cell? ⟨g, 2, none⟩ = some (.int .i64 x2) ∧ W.cell? ⟨g, 3, none⟩ = some (.int .i64 y2) ∧
  W.frozen? ⟨g, 0, none⟩ = false ∧ W.frozen? ⟨g, 1, none⟩ = false ∧ W.frozen? ⟨g, 2, none⟩ = false ∧ W.frozen? ⟨g, 3, none⟩ = false
section
variable {W w1 : World} {g : Nat} {x1 y1 x2 y2 : Int}
theorem Rc4.lt (h : Rc4 W g x1 y1 x2 y2) : g < W.heap.size := World.block_lt_of_cell? _ ⟨g, 0, none⟩ h.1
theorem Rc4.below {B : Nat} (h : Rc4 W g x1 y1 x2 y2) (hb : Below B W w1) (hg : g < B) : Rc4 w1 g x1 y1 x2 y2 := by
  obtain ⟨a, b, c, d, e, f, i, j⟩ := h
  have hc := fun o => hb.cell (p := ⟨g, o, none⟩) hg
  have hf := fun o => hb.frozen (p := ⟨g, o, none⟩) hg
  exact ⟨(hc 0).trans a, (hc 1).trans b, (hc 2).trans c, (hc 3).trans d, (hf 0).trans e, (hf 1).trans f, (hf 2).trans i, (hf 3).trans j⟩
theorem Rc4.later (h : Rc4 W g x1 y1 x2 y2) (hb : Below W.heap.size W w1) : Rc4 w1 g x1 y1 x2 y2 := h.below hb h.lt
theorem Rc4.alloc (h : Rc4 W g x1 y1 x2 y2) (o : Obj) : Rc4 (W.alloc o) g x1 y1 x2 y2 := h.later ((Below.refl _ _).alloc (Nat.le_refl _) _)
theorem Rc4.drew (h : Rc4 W g x1 y1 x2 y2) : Rc4 W.drew g x1 y1 x2 y2 := h
theorem Rc4.new (W : World) (x1 y1 x2 y2 : Int) (t : TypeId) : Rc4 (W.alloc (.cells #[.int .i64 x1, .int .i64 y1, .int .i64 x2, .int .i64 y2] t)) W.heap.size x1 y1 x2 y2 := by
  refine ⟨?_, ?_, ?_, ?_, ?_, ?_, ?_, ?_⟩ <;> simp [go_sem]
theorem below_far {p : Addr} {v : Value} (W : World) : Below p.block W (W.setCell p v) := (Below.refl _ _).setCell (Nat.le_refl _) _
theorem cell_far (W : World) {p q : Addr} (v : Value) (h : p.block ≠ q.block) : (W.setCell p v).cell? q = W.cell? q := World.cell?_setCell_other W p q v (fun e => h (by rw [e]))
theorem frozen_set (W : World) (p q : Addr) (v : Value) : (W.setCell p v).frozen? q = W.frozen? q := by simp [go_sem]
theorem Rc4.far (h : Rc4 W g x1 y1 x2 y2) {p : Addr} (v : Value) (hp : p.block ≠ g) : Rc4 (W.setCell p v) g x1 y1 x2 y2 := by
  obtain ⟨a, b, c, d, e, f, i, j⟩ := h
  exact ⟨(cell_far W v hp).trans a, (cell_far W v hp).trans b, (cell_far W v hp).trans c, (cell_far W v hp).trans d, (frozen_set ..).trans e, (frozen_set ..).trans f, (frozen_set ..).trans i, (frozen_set ..).trans j⟩
/-- All four written. -/
theorem Rc4.set (h : Rc4 W g x1 y1 x2 y2) (a b c d : Int) :
    Rc4 ((((W.setCell ⟨g, 0, none⟩ (.int .i64 a)).setCell ⟨g, 1, none⟩ (.int .i64 b)).setCell ⟨g, 2, none⟩ (.int .i64 c)).setCell ⟨g, 3, none⟩ (.int .i64 d)) g a b c d := by
  obtain ⟨h0, h1, h2, h3, f0, f1, f2, f3⟩ := h
  refine ⟨?_, ?_, ?_, ?_, ?_, ?_, ?_, ?_⟩ <;> simp [go_sem, *]
end
end Go.Proofs.YtobkgamcjfjghaaGreat.Pts
/-
  The least rectangle of a list of points: plain arithmetic, no program here.
-/
namespace Go.Proofs.YtobkgamcjfjghaaGreat.Rc
open Go.Proofs.YtobkgamcjfjghaaGreat.Pt

/-- Four coordinates. -/
structure R4 where
  x1 : Int
  y1 : Int
  x2 : Int
  y2 : Int
/-- Joined with a point. -/
def stepR (r : R4) (p : Int × Int) : R4 := ⟨mn r.x1 p.1, mn r.y1 p.2, mx r.x2 p.1, mx r.y2 p.2⟩
def singR (p : Int × Int) : R4 := ⟨p.1, p.2, p.1, p.2⟩
/-- The first k points of a list, joined; it starts from the first one. -/
def accR (p : Int × Int) (l : List (Int × Int)) (k : Nat) : R4 := (l.take k).foldl stepR (singR p)
theorem accR_zero (p : Int × Int) (l : List (Int × Int)) : accR p l 0 = singR p := by simp [accR]
theorem accR_succ (p : Int × Int) (l : List (Int × Int)) (k : Nat) (h : k < l.length) : accR p l (k + 1) = stepR (accR p l k) l[k] := by
  unfold accR
  rw [List.take_succ_eq_append_getElem h, List.foldl_append]; rfl
def pmay (p : Int × Int) : Bool := mayB p.1 p.2
def okR (r : R4) : Prop := inR r.x1 = true ∧ inR r.y1 = true ∧ inR r.x2 = true ∧ inR r.y2 = true
theorem okR_sing {p : Int × Int} (h : pmay p = true) : okR (singR p) := by
  obtain ⟨h1, h2⟩ := mayB_iff.1 h
  exact ⟨h1, h2, h1, h2⟩
theorem okR_step {r : R4} {p : Int × Int} (h : okR r) (hp : pmay p = true) : okR (stepR r p) := by
  obtain ⟨h1, h2⟩ := mayB_iff.1 hp
  exact ⟨mn_inR h.1 h1, mn_inR h.2.1 h2, mx_inR h.2.2.1 h1, mx_inR h.2.2.2 h2⟩
theorem okR_fold : ∀ (l : List (Int × Int)) (r : R4), okR r → l.all pmay = true → okR (l.foldl stepR r)
  | [], _, h, _ => h
  | p :: l, r, h, ha => by
    simp only [List.all_cons, Bool.and_eq_true] at ha
    exact okR_fold l _ (okR_step h ha.1) ha.2
theorem okR_acc {p : Int × Int} {l : List (Int × Int)} {k : Nat} (hp : pmay p = true) (h : (l.take k).all pmay = true) : okR (accR p l k) := okR_fold _ _ (okR_sing hp) h
theorem all_succ {l : List (Int × Int)} {k : Nat} (hk : k < l.length) (h : (l.take k).all pmay = true) (h1 : pmay l[k] = true) : (l.take (k + 1)).all pmay = true := by
  rw [List.take_succ_eq_append_getElem hk, List.all_append, h]; simp [h1]
theorem all_no {l : List (Int × Int)} {k : Nat} (hk : k < l.length) (h1 : pmay l[k] = false) : l.all pmay = false := by
  rw [← Bool.not_eq_true, List.all_eq_true]
  intro h
  have := h _ (List.getElem_mem hk)
  rw [h1] at this; cases this
/-- The least rectangle, or a zero one. -/
def ofR (l : List (Int × Int)) : R4 := match l with
  | [] => ⟨0, 0, 0, 0⟩
  | p :: t => if (p :: t).all pmay then accR p (p :: t) (p :: t).length else ⟨0, 0, 0, 0⟩
def ofB (l : List (Int × Int)) : Bool := !l.isEmpty && l.all pmay
theorem ofR_no {l : List (Int × Int)} (h : l.all pmay = false) : ofR l = ⟨0, 0, 0, 0⟩ := by
  cases l with
  | nil => rfl
  | cons p t => simp only [ofR, h]; rfl
theorem ofB_no {l : List (Int × Int)} (h : l.all pmay = false) : ofB l = false := by unfold ofB; rw [h]; simp
theorem ofR_yes {p : Int × Int} {t : List (Int × Int)} (h : (p :: t).all pmay = true) : ofR (p :: t) = accR p (p :: t) (p :: t).length := by simp only [ofR, h]; rfl
theorem ofB_yes {p : Int × Int} {t : List (Int × Int)} (h : (p :: t).all pmay = true) : ofB (p :: t) = true := by unfold ofB; rw [h]; rfl
end Go.Proofs.YtobkgamcjfjghaaGreat.Rc
namespace Go.Proofs.YtobkgamcjfjghaaGreat.Rs
open Go.RowKit Go.Proofs.YtobkgamcjfjghaaGreat.Pt Go.Proofs.YtobkgamcjfjghaaGreat.Rc Go.Proofs.YtobkgamcjfjghaaGreat.Pts
set_option linter.unusedVariables false
set_option linter.unusedSimpArgs false
set_option maxHeartbeats 4000000
set_option maxRecDepth 100000
theorem below2 (w : World) (o1 o2 : Obj) : Below w.heap.size w ((w.alloc o1).alloc o2) := ((Below.refl _ _).alloc (Nat.le_refl _) _).alloc (by simp) _
/-- A rectangle as a value. -/
def rv (r : R4) : Value := .agg #[.int .i64 r.x1, .int .i64 r.y1, .int .i64 r.x2, .int .i64 r.y2]
theorem nanI_any (x : Int) (w : World) : Calls Tryz.prog 117 #[.int .i64 x] w fun e w' => e = .returned (.bool false) ∧ w = w' := by
  go_enter Tryz.func117, Tryz.ntmps117
  go_wp2
  go_ret
  exact ⟨by simp, rfl⟩
theorem nanU_any (x : Int) (w : World) : Calls Tryz.prog 123 #[.int .u64 x] w fun e w' => e = .returned (.bool false) ∧ w = w' := by
  go_enter Tryz.func123, Tryz.ntmps123
  go_wp2
  go_ret
  exact ⟨by simp, rfl⟩
theorem cmpI_any (x y : Int) (w : World) : Calls Tryz.prog 96 #[.int .i64 x, .int .i64 y] w fun e w' => ∃ n : Int, e = .returned (.int .i64 n) ∧ w = w' := by
  go_enter Tryz.func96, Tryz.ntmps96
  go_wp2_with (go_at_call 117; refine (nanI_any _ _).mono ?_; rintro e w' ⟨rfl, rfl⟩)
  all_goals
    go_ret
    exact ⟨_, rfl, rfl⟩
theorem cmpU_any (x y : Int) (w : World) : Calls Tryz.prog 114 #[.int .u64 x, .int .u64 y] w fun e w' => ∃ n : Int, e = .returned (.int .i64 n) ∧ w = w' := by
  go_enter Tryz.func114, Tryz.ntmps114
  go_wp2_with (go_at_call 123; refine (nanU_any _ _).mono ?_; rintro e w' ⟨rfl, rfl⟩)
  all_goals
    go_ret
    exact ⟨_, rfl, rfl⟩
/-- At the head of a round: nothing but the counter. -/
def OrR (n : Nat) (w : World) (v8 : Value) (wr : World) : Prop := ∃ k : Nat, v8 = .int .i64 (k : Int) ∧ k ≤ n ∧ wr = w
theorem or_any (b o n c : Nat) (w : World) (hn : n ≤ 100) (hc : ∀ k, k < n → ∃ x : Int, w.cell? ⟨b, o + k, none⟩ = some (.int .i64 x)) : Calls Tryz.prog 113 #[.slice (some ⟨b, o, none⟩) n c] w fun e w' => ∃ x : Int, e = .returned (.int .i64 x) ∧ w = w' := by
  have HC := Lib.hid hc
  clear hc
  go_enter Tryz.func113, Tryz.ntmps113
  go_wp2_with fail
  go_loopw [8] (fun v8 wr => OrR n w v8 wr) (fun v8 _ => n - (intOf v8).toNat)
  case atStart => exact ⟨0, rfl, Nat.zero_le _, rfl⟩
  case round =>
    obtain ⟨k, rfl, hk, rfl⟩ := hrel
    by_cases hlt : k < n
    · have hlz : (k : Int) < (n : Int) := by omega
      obtain ⟨x, hx⟩ := HC.out k hlt
      by_cases h0 : x = 0
      · subst h0
        go_wp2_with fail
        go_roundw
        case rel => exact ⟨k + 1, by go_num, by omega, rfl⟩
        case measure => simp [intOf]; omega
      · have hb : (x != 0) = true := by simpa using h0
        go_wp2_with fail
        go_ret
        exact ⟨x, rfl, rfl⟩
    · have hlz : ¬ (k : Int) < (n : Int) := by omega
      go_wp2_with fail
      go_ret
      first | exact ⟨_, rfl, rfl⟩ | exact ⟨⟨_, rfl⟩, rfl⟩ | exact ⟨0, rfl⟩
theorem between_any (x y : Int) (w : World) : Calls Tryz.prog 118 #[.int .i64 x, .int .i64 y] w fun e w' => ∃ n : Int, e = .returned (.int .i64 n) ∧ w = w' := by
  have hn := run_mn Tryz.prog
  have hx := run_mx Tryz.prog
  go_enter Tryz.func118, Tryz.ntmps118
  go_wp2
  go_ret
  exact ⟨_, rfl, rfl⟩
/-- It may be. -/
def may4 (r : R4) : Prop := rmayB r.x1 r.y1 r.x2 r.y2 = true
theorem may0 : may4 ⟨0, 0, 0, 0⟩ := (show rmayB 0 0 0 0 = true by decide)
theorem meet_may {ax1 ay1 ax2 ay2 bx1 by1 bx2 by2 : Int} (ha : may4 ⟨ax1, ay1, ax2, ay2⟩) (hb : may4 ⟨bx1, by1, bx2, by2⟩) (h : ordB (mx ax1 bx1) (mx ay1 by1) (mn ax2 bx2) (mn ay2 by2) = true) : may4 ⟨mx ax1 bx1, mx ay1 by1, mn ax2 bx2, mn ay2 by2⟩ := by
  unfold may4 at *
  simp only [rmayB_iff, mayB_iff, inR_iff, ordB_iff] at *
  unfold mx mn at *
  split <;> split <;> split <;> split <;> simp_all <;> omega
theorem join_may {a b : R4} (ha : may4 a) (hb : may4 b) : may4 ⟨mn a.x1 b.x1, mn a.y1 b.y1, mx a.x2 b.x2, mx a.y2 b.y2⟩ := by
  unfold may4 at *
  simp only [rmayB_iff, mayB_iff, inR_iff, ordB_iff] at *
  unfold mx mn at *
  split <;> split <;> split <;> split <;> omega
theorem overlap_any (a b : R4) (w : World) (ha : may4 a) (hb : may4 b) : Calls Tryz.prog 111 #[rv a, rv b] w fun e w' => ∃ n : Int, e = .returned (.int .i64 n) ∧ Below w.heap.size w w' := by
  obtain ⟨ax1, ay1, ax2, ay2⟩ := a
  obtain ⟨bx1, by1, bx2, by2⟩ := b
  unfold rv
  dsimp only
  have HM : ∃ (r : R4) (is : Bool), may4 r ∧ ∀ W, Calls Tryz.prog 34 #[.agg #[.int .i64 ax1, .int .i64 ay1, .int .i64 ax2, .int .i64 ay2], .agg #[.int .i64 bx1, .int .i64 by1, .int .i64 bx2, .int .i64 by2]] W fun e w' => e = .returned (.tuple #[.agg #[.int .i64 r.x1, .int .i64 r.y1, .int .i64 r.x2, .int .i64 r.y2], .bool is]) ∧ Below W.heap.size W w' := by
    cases h : ordB (mx ax1 bx1) (mx ay1 by1) (mn ax2 bx2) (mn ay2 by2) with
    | false => exact ⟨⟨0, 0, 0, 0⟩, false, may0, fun W => meet_no ax1 ay1 ax2 ay2 bx1 by1 bx2 by2 W h⟩
    | true =>
      refine ⟨⟨mx ax1 bx1, mx ay1 by1, mn ax2 bx2, mn ay2 by2⟩, true, ?_, fun W => meet_yes ax1 ay1 ax2 ay2 bx1 by1 bx2 by2 W h⟩
      exact meet_may ha hb h
  obtain ⟨r, is, hr, hm⟩ := HM
  have CM := Lib.hid hm
  have CA := Lib.hid (fun W => area_any r.x1 r.y1 r.x2 r.y2 W hr)
  obtain ⟨rx1, ry1, rx2, ry2⟩ := r
  dsimp only at CM CA
  obtain ⟨n, hn⟩ : ∃ n, n = areaI rx1 ry1 rx2 ry2 := ⟨_, rfl⟩
  rw [← hn] at CA
  clear hm ha hb hr hn
  have HB := Lib.hid ((below2 w (.cells #[.int .i64 ax1, .int .i64 ay1, .int .i64 ax2, .int .i64 ay2] 26) (.cells #[.int .i64 bx1, .int .i64 by1, .int .i64 bx2, .int .i64 by2] 26)))
  go_enter Tryz.func111, Tryz.ntmps111
  go_wp2_with fail
  refine Calls.mono (CM.out _) ?_
  rintro e w1 ⟨rfl, hb1⟩
  have B1 := Lib.hid (HB.out.trans (hb1.mono HB.out.size))
  clear hb1
  go_wp2_with fail
  refine Calls.mono (CA.out _) ?_
  rintro e w2 ⟨rfl, hb2⟩
  have B2 := Lib.hid ((B1.out.alloc B1.out.size _).trans (hb2.mono (B1.out.alloc B1.out.size _).size))
  clear hb2
  go_wp2_with fail
  go_ret
  exact ⟨n, rfl, B2.out⟩
end Go.Proofs.YtobkgamcjfjghaaGreat.Rs
