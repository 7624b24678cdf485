/-
  The contract of turnsBack of layer 3 (poly), for a list of 1 to 70 points that may be. Memory that was there is left as it was.
-/
import Derived.Deep.RegionHeld3
import Derived.Below
import Derived.Test.YthakngphffoooaaMt04
import Derived.IntWalk
/-
  A region that draws its order and holds calls beside new blocks: whatever order is drawn, each call gives its one value, and each new block lies by itself. No program here.
-/
namespace Go.Proofs.Ythakngphffoooaa.Batch
open Go Go.RowKit
set_option linter.unusedVariables false

section
variable {P : Program} {ops : Array Oper} {Q : Exit → Act → World → Prop} {md : Region.Mode} {S : World → Prop}

def dstOf (ops : Array Oper) (i : Nat) : Option Tmp := (ops[i]?).bind (·.dst)

/-- An operation does as it does, whatever stands where it does not look. -/
theorem wpOp_put {j : Nat} {oj : Oper} {x : Option Tmp} {v : Value} (hj : ops[j]? = some oj) (hsj : ∀ cs b, oj.op ≠ .select cs b)
    (h1 : ∀ d, x = some d → d ∉ oj.looksAt ops) (h2 : ∀ d, x = some d → oj.dst ≠ some d) (hQ : ∀ c a w, Q (.panic c) a w → Q (.panic c) (a.put x v) w)
    {K : Act → World → Prop} {a : Act} {w : World} (h : wpOp P ops Q j (fun a' w' => K (a'.put x v) w') a w) : wpOp P ops Q j K (a.put x v) w := by
  unfold wpOp at *
  simp only [hj] at *
  rw [wanted_put oj a x v h1]
  split
  · rename_i hw
    simp only [hw, if_true] at h
    rcases h with h | ⟨hasks, hlets⟩
    case inr => exact .inr ⟨by unfold Oper.asks at *; rw [execOp_put oj hsj a x v h1]; exact hasks, hlets⟩
    refine .inl ?_
    unfold Oper.wp at *
    rw [execOp_put oj hsj a x v h1]
    generalize (execOp a.eval oj).run P w = r at *
    cases r with
    | ok n w' =>
      cases n <;> simp only [Oper.upon] at h ⊢
      case value u => rw [Act.put_comm a v u h2]; exact h
      case skip => rw [Act.put_comm a v undef h2]; exact h
      case defer d => rw [Act.put_defers, Act.put_comm _ v undef h2]; exact h
      case enter f args =>
        refine Calls.mono h fun e w'' he => ?_
        cases e with
        | returned u => simp only at he ⊢; rw [Act.put_comm a v u h2]; exact he
        | panicked c => exact hQ _ _ _ he
        | outgrown => exact he
      case row row args => exact Rows.mono h fun u w'' he => by rw [Act.put_comm a v u h2]; exact he
    | halt x w' =>
      cases x <;> simp only [Oper.upon] at h ⊢
      case panic u => exact hQ _ _ _ h
  · rename_i hw
    simp only [hw] at h
    rw [Act.put_comm a v undef h2]; exact h

/-- All of them, in the list's order. -/
def puts (ops : Array Oper) (vals : Nat → Value) : List Nat → Act → Act
  | [], a => a
  | i :: rest, a => puts ops vals rest (a.put (dstOf ops i) (vals i))
def marks : List Nat → Array Bool → Array Bool
  | [], l => l
  | i :: rest, l => marks rest (l.setIfInBounds i true)
/-- Apart from each other, two by two. -/
def apartB (ops : Array Oper) (rem : List Nat) : Bool := rem.all fun i => rem.all fun j => i == j || (match ops[i]?, ops[j]? with
  | some oi, some oj => oi.apart ops oj
  | _, _ => false)
theorem apartB_spec {rem : List Nat} (h : apartB ops rem = true) {i j : Nat} (hi : i ∈ rem) (hj : j ∈ rem) (hne : i ≠ j) :
    ∃ oi oj, ops[i]? = some oi ∧ ops[j]? = some oj ∧ oi.apart ops oj = true := by
  unfold apartB at h
  rw [List.all_eq_true] at h
  have h1 := h i hi
  rw [List.all_eq_true] at h1
  have h2 := h1 j hj
  have hb : (i == j) = false := by simpa using hne
  rw [hb, Bool.false_or] at h2
  cases e1 : ops[i]? with
  | none => rw [e1] at h2; simp at h2
  | some oi =>
    cases e2 : ops[j]? with
    | none => rw [e1, e2] at h2; simp at h2
    | some oj => rw [e1, e2] at h2; exact ⟨oi, oj, rfl, rfl, h2⟩
theorem apart_dst {rem : List Nat} (h : apartB ops rem = true) {i j : Nat} (hi : i ∈ rem) (hj : j ∈ rem) (hne : i ≠ j) : ∀ d, dstOf ops i = some d → dstOf ops j ≠ some d := by
  obtain ⟨oi, oj, e1, e2, ha⟩ := apartB_spec h hi hj hne
  obtain ⟨_, h2, _⟩ := Oper.apart_spec ha
  intro d hd
  unfold dstOf at *
  rw [e1] at hd
  rw [e2]
  exact h2 d hd
theorem apartB_sub {rem rem' : List Nat} (h : apartB ops rem = true) (hs : ∀ i ∈ rem', i ∈ rem) : apartB ops rem' = true := by
  unfold apartB at *
  rw [List.all_eq_true] at *
  intro i hi
  have h1 := h i (hs i hi)
  rw [List.all_eq_true] at *
  exact fun j hj => h1 j (hs j hj)

theorem puts_congr {vals vals' : Nat → Value} : ∀ (rem : List Nat) (a : Act), (∀ i ∈ rem, vals i = vals' i) → puts ops vals rem a = puts ops vals' rem a
  | [], _, _ => rfl
  | i :: rest, a, h => by
    unfold puts
    rw [h i (List.mem_cons_self ..)]
    exact puts_congr rest _ fun j hj => h j (List.mem_cons_of_mem _ hj)
theorem puts_erase {vals : Nat → Value} : ∀ (rem : List Nat) (a : Act) (i : Nat), apartB ops rem = true → rem.Nodup → i ∈ rem → puts ops vals rem a = puts ops vals (rem.erase i) (a.put (dstOf ops i) (vals i))
  | [], _, _, _, _, h => by cases h
  | x :: xs, a, i, ha, hn, h => by
    by_cases e : x = i
    · subst e; rw [List.erase_cons_head]; rfl
    · have hi : i ∈ xs := by rcases List.mem_cons.1 h with h | h; exact absurd h.symm e; exact h
      rw [List.erase_cons_tail (by simpa using e)]
      unfold puts
      rw [puts_erase xs _ i (apartB_sub ha fun j hj => List.mem_cons_of_mem _ hj) (List.nodup_cons.1 hn).2 hi, Act.put_comm a (vals x) (vals i) (apart_dst ha (List.mem_cons_self ..) h e)]
theorem marks_erase : ∀ (rem : List Nat) (l : Array Bool) (i : Nat), i ∈ rem → marks rem l = marks (rem.erase i) (l.setIfInBounds i true)
  | [], _, _, h => by cases h
  | x :: xs, l, i, h => by
    by_cases e : x = i
    · subst e; rw [List.erase_cons_head]; rfl
    · have hi : i ∈ xs := by rcases List.mem_cons.1 h with h | h; exact absurd h.symm e; exact h
      rw [List.erase_cons_tail (by simpa using e)]
      unfold marks
      rw [marks_erase xs _ i hi, Array.setIfInBounds_comm _ _ e]

/-- What may come up is among them, till all have. -/
def onlyB (md : Region.Mode) (ops : Array Oper) : Nat → List Nat → Array Bool → Bool
  | 0, rem, _ => rem.isEmpty
  | n + 1, rem, l => !(Region.ready md ops l).isEmpty && (Region.ready md ops l).all fun i => rem.contains i && onlyB md ops n (rem.erase i) (l.setIfInBounds i true)

/-- One of them, run: its value and the world behind it. A call gives v; else it lays the new block o. -/
inductive Kind
  | gives (v : Value)
  | lays (o : Obj)
def Kind.run : Kind → World → Value → World → Prop
  | .gives v0, w, v, w' => v = v0 ∧ Below w.heap.size w w'
  | .lays o, w, v, w' => v = .pointer (some ⟨w.heap.size, 0, none⟩) ∧ w' = w.alloc o
/-- What is known of it when all have come up. -/
def Kind.left : Kind → World → Value → World → Prop
  | .gives v0, _, v, _ => v = v0
  | .lays o, w, v, W => ∃ g, v = .pointer (some ⟨g, 0, none⟩) ∧ w.heap.size ≤ g ∧ g < W.heap.size ∧ W.heap[g]? = some o
theorem Kind.run_below : ∀ {k : Kind} {w w' : World} {v : Value}, k.run w v w' → Below w.heap.size w w'
  | .gives _, _, _, _, h => h.2
  | .lays _, w, _, _, h => by rw [h.2]; exact (Below.refl _ _).alloc (Nat.le_refl _) _
theorem Kind.run_left : ∀ {k : Kind} {w w' : World} {v : Value}, k.run w v w' → k.left w v w'
  | .gives _, _, _, _, h => h.1
  | .lays o, w, _, w', h => by
    obtain ⟨rfl, rfl⟩ := h
    exact ⟨_, rfl, Nat.le_refl _, by simp, by show (w.heap.push o)[w.heap.size]? = some o; simp⟩
theorem Kind.left_later : ∀ {k : Kind} {w W W' : World} {v : Value}, k.left w v W → Below W.heap.size W W' → k.left w v W'
  | .gives _, _, _, _, _, h, _ => h
  | .lays o, w, W, W', v, ⟨g, e, h1, h2, h3⟩, hb => ⟨g, e, h1, Nat.lt_of_lt_of_le h2 hb.size, by rw [hb.block g h2]; exact h3⟩
theorem Kind.left_from : ∀ {k : Kind} {w w1 W : World} {v : Value}, k.left w1 v W → w.heap.size ≤ w1.heap.size → k.left w v W
  | .gives _, _, _, _, _, h, _ => h
  | .lays o, w, w1, W, v, ⟨g, e, h1, h2, h3⟩, hb => ⟨g, e, Nat.le_trans hb h1, h2, h3⟩
/-- No two blocks are one. -/
def Two (v u : Value) : Prop := ∀ g h, v = .pointer (some ⟨g, 0, none⟩) → u = .pointer (some ⟨h, 0, none⟩) → g ≠ h
def isPtr : Kind → Bool
  | .gives _ => false
  | .lays _ => true
structure Ends (kind : Nat → Kind) (rem : List Nat) (vals : Nat → Value) (w W : World) : Prop where
  below : Below w.heap.size w W
  each : ∀ i ∈ rem, (kind i).left w (vals i) W
  two : ∀ i ∈ rem, ∀ j ∈ rem, i ≠ j → isPtr (kind i) = true → isPtr (kind j) = true → Two (vals i) (vals j)

theorem batch (hs : Region.noSelect ops = true) (hQ : ∀ c a d v w, Q (.panic c) a w → Q (.panic c) (a.put (some d) v) w) (kind : Nat → Kind) :
    ∀ (n : Nat) (rem : List Nat) (fuel : Nat) (l : Array Bool) (a : Act) (w : World), onlyB md ops n rem l = true → apartB ops rem = true → rem.Nodup →
      (∀ i ∈ rem, ∀ w, S w → ∀ K : Act → World → Prop, (∀ v w', S w' → (kind i).run w v w' → K (a.put (dstOf ops i) v) w') → wpOp P ops Q i (fun a' w' => S w' ∧ K a' w') a w) →
      S w → (∀ vals W, Ends kind rem vals w W → S W → wpAnyH P md ops Q S fuel (marks rem l) (puts ops vals rem a) W) → wpAnyH P md ops Q S (fuel + n) l a w
  | 0, rem, fuel, l, a, w, ho, _, _, _, hS, H => by
    unfold onlyB at ho
    obtain rfl : rem = [] := by simpa using ho
    exact H (fun _ => undef) w ⟨Below.refl _ _, fun _ h => by (cases h), fun _ h => by (cases h)⟩ hS
  | n + 1, rem, fuel, l, a, w, ho, ha, hn, hst, hS, H => by
    unfold onlyB at ho
    rw [Bool.and_eq_true, List.all_eq_true] at ho
    obtain ⟨hne, hall⟩ := ho
    refine ⟨fun h0 => by rw [h0] at hne; simp at hne, fun i hi => ?_⟩
    have hi2 := hall i hi
    rw [Bool.and_eq_true] at hi2
    obtain ⟨hc, ho'⟩ := hi2
    have hir : i ∈ rem := by simpa using hc
    refine hst i hir w hS _ fun v w' hS' hrun => ?_
    have hsub : ∀ j ∈ rem.erase i, j ∈ rem := fun j hj => List.mem_of_mem_erase hj
    have hne' : ∀ j ∈ rem.erase i, i ≠ j := fun j hj e => by subst e; exact ((List.Nodup.mem_erase_iff hn).1 hj).1 rfl
    refine batch hs hQ kind n (rem.erase i) fuel (l.setIfInBounds i true) (a.put (dstOf ops i) v) w' ho' (apartB_sub ha hsub) (hn.erase i) (fun j hj W hW K hK => ?_) hS' (fun vals W hE hSW => ?_)
    · obtain ⟨oi, oj, e1, e2, hap⟩ := apartB_spec ha hir (hsub j hj) (hne' j hj)
      obtain ⟨h1, h2, _⟩ := Oper.apart_spec hap
      have ed : dstOf ops i = oi.dst := by unfold dstOf; rw [e1]; rfl
      have ej : dstOf ops j = oj.dst := by unfold dstOf; rw [e2]; rfl
      rw [ed] at hK ⊢
      refine wpOp_put e2 (Region.noSelect_spec hs j oj · · e2) h1 h2 (fun c a w h => by cases oi.dst with | none => exact h | some d => exact hQ c a d v w h) ?_
      refine hst j (hsub j hj) W hW (fun a' w' => K (a'.put oi.dst v) w') fun u W' hS2 hr => ?_
      have := hK u W' hS2 hr
      rw [ej] at this ⊢
      rw [← Act.put_comm a v u h2]; exact this
    · rw [← marks_erase rem l i hir] at *
      have e : puts ops vals (rem.erase i) (a.put (dstOf ops i) v) = puts ops (fun k => if k = i then v else vals k) rem a := by
        rw [puts_erase rem a i ha hn hir]
        simp only [if_true]
        exact puts_congr _ _ fun j hj => by rw [if_neg (hne' j hj).symm]
      rw [e]
      have hb := Kind.run_below hrun
      refine H _ W ⟨hb.trans (hE.below.mono hb.size), fun j hj => ?_, fun j hj k hk hjk pj pk => ?_⟩ hSW
      · by_cases hji : j = i
        · subst hji; rw [if_pos rfl]; exact Kind.left_later (Kind.run_left hrun) hE.below
        · rw [if_neg hji]; exact Kind.left_from (hE.each j ((List.Nodup.mem_erase_iff hn).2 ⟨hji, hj⟩)) hb.size
      · have mem : ∀ j ∈ rem, j ≠ i → j ∈ rem.erase i := fun j hj hji => (List.Nodup.mem_erase_iff hn).2 ⟨hji, hj⟩
        have low : ∀ j ∈ rem, j ≠ i → isPtr (kind j) = true → ∀ g, vals j = .pointer (some ⟨g, 0, none⟩) → w'.heap.size ≤ g := fun j hj hji hp g hg => by
          have := hE.each j (mem j hj hji)
          cases hk : kind j with
          | gives v0 => rw [hk] at hp; cases hp
          | lays o =>
            rw [hk] at this
            obtain ⟨g', e', h1, _⟩ := this
            rw [hg] at e'
            simp at e'
            omega
        have own : isPtr (kind i) = true → ∀ g, v = .pointer (some ⟨g, 0, none⟩) → g < w'.heap.size := fun hp g hg => by
          have := Kind.run_left hrun
          cases hk : kind i with
          | gives v0 => rw [hk] at hp; cases hp
          | lays o =>
            rw [hk] at this
            obtain ⟨g', e', _, h2, _⟩ := this
            rw [hg] at e'
            simp at e'
            omega
        by_cases hji : j = i
        · subst hji
          rw [if_pos rfl, if_neg (Ne.symm hjk)]
          intro g h hg hh
          have := own pj g hg
          have := low k hk (Ne.symm hjk) pk h hh
          omega
        · by_cases hki : k = i
          · subst hki
            rw [if_neg hji, if_pos rfl]
            intro g h hg hh
            have := own pk h hh
            have := low j hj hji pj g hg
            omega
          · rw [if_neg hji, if_neg hki]
            exact hE.two j (mem j hj hji) k (mem k hk hki) hjk pj pk
end
end Go.Proofs.Ythakngphffoooaa.Batch
namespace Go.Proofs.Ythakngphffoooaa.Pl
open Go.RowKit Go.Proofs.Ythakngphffoooaa.Pt Go.Proofs.Ythakngphffoooaa.Rc Go.Proofs.Ythakngphffoooaa.Pts
set_option linter.unusedVariables false

/-- A point in a block of the call's own, that may be written. -/
def Pt2 (W : World) (g : Nat) (x y : Int) : Prop := W.cell? ⟨g, 0, none⟩ = some (.int .i64 x) ∧ W.cell? ⟨g, 1, none⟩ = some (.int .i64 y) ∧ W.frozen? ⟨g, 0, none⟩ = false ∧ W.frozen? ⟨g, 1, none⟩ = false
section
variable {W w1 : World} {g : Nat} {x y : Int}
theorem Pt2.lt (h : Pt2 W g x y) : g < W.heap.size := World.block_lt_of_cell? _ ⟨g, 0, none⟩ h.1
theorem Pt2.later (h : Pt2 W g x y) (hb : Below W.heap.size W w1) : Pt2 w1 g x y := by
  have hl := h.lt
  obtain ⟨a, b, c, d⟩ := h
  exact ⟨(hb.cell (p := ⟨g, 0, none⟩) hl).trans a, (hb.cell (p := ⟨g, 1, none⟩) hl).trans b, (hb.frozen (p := ⟨g, 0, none⟩) hl).trans c, (hb.frozen (p := ⟨g, 1, none⟩) hl).trans d⟩
theorem Pt2.of (x y : Int) (t : TypeId) (h : W.heap[g]? = some (.cells #[.int .i64 x, .int .i64 y] t)) : Pt2 W g x y := by
  refine ⟨?_, ?_, ?_, ?_⟩ <;> simp [go_sem, World.cell?, World.frozen?, h]
theorem Pt2.far (h : Pt2 W g x y) {p : Addr} (v : Value) (hp : p.block ≠ g) : Pt2 (W.setCell p v) g x y := by
  obtain ⟨a, b, e, f⟩ := h
  exact ⟨(cell_far W v hp).trans a, (cell_far W v hp).trans b, (frozen_set ..).trans e, (frozen_set ..).trans f⟩
theorem Pt2.set (h : Pt2 W g x y) (a b : Int) : Pt2 ((W.setCell ⟨g, 0, none⟩ (.int .i64 a)).setCell ⟨g, 1, none⟩ (.int .i64 b)) g a b := by
  obtain ⟨h0, h1, f0, f1⟩ := h
  refine ⟨?_, ?_, ?_, ?_⟩ <;> simp [go_sem, *]
end

def TurnsRel (w : World) (l : List Pnt) (i : Value) (wr : World) : Prop := ∃ k : Nat, k ≤ l.length ∧ i = .int .i64 k ∧ anyTo (turnF l) k = false ∧ Below w.heap.size w wr

set_option maxHeartbeats 4000000 in
theorem turnsBack_any (l : List Pnt) (A : Option Addr) (c : Nat) (w : World) (hA : PtsAt w w.heap.size A l) (h0 : 0 < l.length) (hn : l.length ≤ 70) (hm : l.all pmay = true) :
    Calls Try.prog 63 #[.slice A l.length c] w fun e w' => e = .returned (.bool (turnsB l)) ∧ Below w.heap.size w w' := by
  have M := Lib.hid (fun i => all_any hm h0 i)
  have C := Lib.hid (fun j W (h : Below w.heap.size w W) (hj : 0 ≤ j) => at_any l A c j W ((hA.later h).wide h.size) h0 hn hj)
  obtain ⟨b, off, rfl, hb, hc⟩ := hA (by intro h; subst h; simp at h0)
  have HC := Lib.hid hc
  obtain ⟨n, e⟩ : ∃ n, n = l.length := ⟨_, rfl⟩
  rw [← e] at hn h0 C ⊢
  have E := Lib.hid e
  clear e hA hm hc
  go_enter Try.func63, Try.ntmps63
  go_wp2_with fail
  go_loopw [9] (fun i wr => TurnsRel w l i wr) (fun i _ => n - (intOf i).toNat)
  case atStart => exact ⟨0, Nat.zero_le _, rfl, rfl, Below.refl _ _⟩
  case round =>
    obtain ⟨k, hk, rfl, hno, hB⟩ := hrel
    have HN := Lib.hid hno
    clear hno
    by_cases hlt : k < n
    · have hkl : k < l.length := by rw [← E.out]; exact hlt
      obtain ⟨p, hp⟩ : ∃ p, p = at_ l (k : Int) := ⟨_, rfl⟩
      obtain ⟨q, hq⟩ : ∃ q, q = at_ l ((k : Int) + 1) := ⟨_, rfl⟩
      obtain ⟨r, hr⟩ : ∃ r, r = at_ l ((k : Int) + 2) := ⟨_, rfl⟩
      have HS : Hid (∀ W, Below w.heap.size w W → W.cell? ⟨b, off + k * 2, none⟩ = some (.int .i64 p.1) ∧ W.cell? ⟨b, off + k * 2 + 1, none⟩ = some (.int .i64 p.2) ∧ Below w.heap.size w W) := Lib.hid fun W h => by
        rw [hp, at_nat hkl]
        exact ⟨(h.cell (p := ⟨b, off + k * 2, none⟩) hb).trans (HC.out k hkl).1, (h.cell (p := ⟨b, off + k * 2 + 1, none⟩) hb).trans (HC.out k hkl).2, h⟩
      have m1 : mayB p.1 p.2 = true := by rw [hp]; exact M.out _
      have m2 : mayB q.1 q.2 = true := by rw [hq]; exact M.out _
      have m3 : mayB r.1 r.2 = true := by rw [hr]; exact M.out _
      have D1 := Lib.hid (fun W h => C.out ((k : Int) + 1) W h (by omega))
      have D2 := Lib.hid (fun W h => C.out ((k : Int) + 2) W h (by omega))
      rw [← hq] at D1
      rw [← hr] at D2
      have HP := Lib.hid hp
      have HQ := Lib.hid hq
      have HR := Lib.hid hr
      clear hp hq hr C
      have hk0 : (0 : Int) ≤ (k : Int) := by omega
      have hk1 : (k : Int) < (n : Int) := by omega
      have x1 := IntWalk.i64_in ((k : Int) + 1) (by omega)
      have x2 := IntWalk.i64_in ((k : Int) + 2) (by omega)
      go_wp2_with fail
      refine wp_region_held_drew (S := (fun W => W.cell? ⟨b, off + k * 2, none⟩ = some (.int .i64 p.1) ∧ W.cell? ⟨b, off + k * 2 + 1, none⟩ = some (.int .i64 p.2) ∧ Below w.heap.size w W)) (by kernel_rfl) (HS.out _ hB.drew) (fun hHeld => ?_)
      refine wpAnyH_take (i := 0) (v := ?v0) rfl (by kernel_rfl) (by kernel_rfl) (by kernel_rfl) (fun _ _ _ h => h) (Or.inl ⟨by rfl, ?y0⟩) hHeld ?r0
      case y0 => (intro W hSw; simp only [List.getElem_toArray, List.getElem_cons_zero]; go_simp; try (with_reducible rfl))
      simp only [List.getElem_toArray, List.getElem_cons_zero, Act.put, List.setIfInBounds_toArray, List.set_cons_zero, List.set_cons_succ]
      refine wpAnyH_take (i := 1) (v := ?v1) rfl (by kernel_rfl) (by kernel_rfl) (by kernel_rfl) (fun _ _ _ h => h) (Or.inl ⟨by rfl, ?y1⟩) hHeld ?r1
      case y1 => (intro W hSw; simp only [List.getElem_toArray, List.getElem_cons_succ, List.getElem_cons_zero]; go_simp; try (with_reducible rfl))
      simp only [List.getElem_toArray, List.getElem_cons_succ, List.getElem_cons_zero, Act.put, List.setIfInBounds_toArray, List.set_cons_zero, List.set_cons_succ]
      refine wpAnyH_take (i := 2) (v := ?v2) rfl (by kernel_rfl) (by kernel_rfl) (by kernel_rfl) (fun _ _ _ h => h) (Or.inl ⟨by rfl, ?y2⟩) hHeld ?r2
      case y2 => (intro W hSw; simp only [List.getElem_toArray, List.getElem_cons_succ, List.getElem_cons_zero]; go_simp; try (with_reducible rfl))
      simp only [List.getElem_toArray, List.getElem_cons_succ, List.getElem_cons_zero, Act.put, List.setIfInBounds_toArray, List.set_cons_zero, List.set_cons_succ]
      refine wpAnyH_take (i := 3) (v := ?v3) rfl (by kernel_rfl) (by kernel_rfl) (by kernel_rfl) (fun _ _ _ h => h) (Or.inl ⟨by rfl, ?y3⟩) hHeld ?r3
      case y3 => (intro W hSw; simp only [List.getElem_toArray, List.getElem_cons_succ, List.getElem_cons_zero]; go_simp; try (with_reducible rfl))
      simp only [List.getElem_toArray, List.getElem_cons_succ, List.getElem_cons_zero, Act.put, List.setIfInBounds_toArray, List.set_cons_zero, List.set_cons_succ]
      refine wpAnyH_take (i := 4) (v := ?v4) rfl (by kernel_rfl) (by kernel_rfl) (by kernel_rfl) (fun _ _ _ h => h) (Or.inl ⟨by rfl, ?y4⟩) hHeld ?r4
      case y4 => (intro W hSw; simp only [List.getElem_toArray, List.getElem_cons_succ, List.getElem_cons_zero]; go_simp; try (with_reducible rfl))
      simp only [List.getElem_toArray, List.getElem_cons_succ, List.getElem_cons_zero, Act.put, List.setIfInBounds_toArray, List.set_cons_zero, List.set_cons_succ]
      refine wpAnyH_take (i := 5) (v := ?v5) rfl (by kernel_rfl) (by kernel_rfl) (by kernel_rfl) (fun _ _ _ h => h) (Or.inl ⟨by rfl, ?y5⟩) hHeld ?r5
      case y5 => (intro W hSw; simp only [List.getElem_toArray, List.getElem_cons_succ, List.getElem_cons_zero]; go_simp; try (with_reducible rfl))
      simp only [List.getElem_toArray, List.getElem_cons_succ, List.getElem_cons_zero, Act.put, List.setIfInBounds_toArray, List.set_cons_zero, List.set_cons_succ]
      refine wpAnyH_take (i := 6) (v := ?v6) rfl (by kernel_rfl) (by kernel_rfl) (by kernel_rfl) (fun _ _ _ h => h) (Or.inl ⟨by rfl, ?y6⟩) hHeld ?r6
      case y6 => (intro W hSw; simp only [List.getElem_toArray, List.getElem_cons_succ, List.getElem_cons_zero]; go_simp; try (with_reducible rfl))
      simp only [List.getElem_toArray, List.getElem_cons_succ, List.getElem_cons_zero, Act.put, List.setIfInBounds_toArray, List.set_cons_zero, List.set_cons_succ]
      refine wpAnyH_take (i := 8) (v := ?v8) rfl (by kernel_rfl) (by kernel_rfl) (by kernel_rfl) (fun _ _ _ h => h) (Or.inl ⟨by rfl, ?y8⟩) hHeld ?r8
      case y8 => (intro W hSw; simp only [List.getElem_toArray, List.getElem_cons_succ, List.getElem_cons_zero]; go_simp; try (with_reducible rfl))
      simp only [List.getElem_toArray, List.getElem_cons_succ, List.getElem_cons_zero, Act.put, List.setIfInBounds_toArray, List.set_cons_zero, List.set_cons_succ]
      refine wpAnyH_take (i := 9) (v := ?v9) rfl (by kernel_rfl) (by kernel_rfl) (by kernel_rfl) (fun _ _ _ h => h) (Or.inl ⟨by rfl, ?y9⟩) hHeld ?r9
      case y9 => (intro W hSw; simp only [List.getElem_toArray, List.getElem_cons_succ, List.getElem_cons_zero]; go_simp; try (with_reducible rfl))
      simp only [List.getElem_toArray, List.getElem_cons_succ, List.getElem_cons_zero, Act.put, List.setIfInBounds_toArray, List.set_cons_zero, List.set_cons_succ]
      refine wpAnyH_take (i := 10) (v := ?v10) rfl (by kernel_rfl) (by kernel_rfl) (by kernel_rfl) (fun _ _ _ h => h) (Or.inl ⟨by rfl, ?y10⟩) hHeld ?r10
      case y10 => (intro W hSw; simp only [List.getElem_toArray, List.getElem_cons_succ, List.getElem_cons_zero]; go_simp; try (with_reducible rfl))
      simp only [List.getElem_toArray, List.getElem_cons_succ, List.getElem_cons_zero, Act.put, List.setIfInBounds_toArray, List.set_cons_zero, List.set_cons_succ]
      refine Batch.batch (by kernel_rfl) (fun _ _ _ _ _ h => h) (fun i => if i = 7 then .gives (.agg #[.int .i64 q.1, .int .i64 q.2]) else if i = 11 then .gives (.agg #[.int .i64 r.1, .int .i64 r.2]) else .lays (.cells #[.int .i64 0, .int .i64 0] 28)) 5 [7, 11, 12, 13, 14] 3 _ _ _ (by kernel_rfl) (by kernel_rfl) (by decide) ?st hHeld ?fin
      case st =>
        intro i hi
        simp only [List.mem_cons, List.not_mem_nil, or_false] at hi
        rcases hi with rfl | rfl | rfl | rfl | rfl
        · intro W hW K hK
          replace hK := fun w' (h1 : _) (h2 : Below W.heap.size W w') => hK (.agg #[.int .i64 q.1, .int .i64 q.2]) w' h1 (show Batch.Kind.run (.gives _) W _ w' from ⟨rfl, h2⟩)
          simp only [Batch.dstOf, List.getElem?_toArray, List.getElem?_cons_succ, List.getElem?_cons_zero, Option.bind_some, Act.put, List.setIfInBounds_toArray, List.set_cons_zero, List.set_cons_succ] at hK
          refine wpOp_step rfl (fun K' hK' => ?_)
          have HK := Lib.hid hK
          have HK1 := Lib.hid hK'
          clear hK hK'
          simp only [List.getElem_toArray, List.getElem_cons_succ, List.getElem_cons_zero]
          go_simp
          go_at_call 67
          refine (D1.out _ hW.2.2).mono ?_
          rintro e w1 ⟨rfl, hb1⟩
          try go_wp2_with fail
          have hS1 := HS.out _ (hW.2.2.trans (hb1.mono hW.2.2.size))
          exact HK1.out _ _ ⟨hS1, HK.out _ hS1 hb1⟩
        · intro W hW K hK
          replace hK := fun w' (h1 : _) (h2 : Below W.heap.size W w') => hK (.agg #[.int .i64 r.1, .int .i64 r.2]) w' h1 (show Batch.Kind.run (.gives _) W _ w' from ⟨rfl, h2⟩)
          simp only [Batch.dstOf, List.getElem?_toArray, List.getElem?_cons_succ, List.getElem?_cons_zero, Option.bind_some, Act.put, List.setIfInBounds_toArray, List.set_cons_zero, List.set_cons_succ] at hK
          refine wpOp_step rfl (fun K' hK' => ?_)
          have HK := Lib.hid hK
          have HK1 := Lib.hid hK'
          clear hK hK'
          simp only [List.getElem_toArray, List.getElem_cons_succ, List.getElem_cons_zero]
          go_simp
          go_at_call 67
          refine (D2.out _ hW.2.2).mono ?_
          rintro e w1 ⟨rfl, hb1⟩
          try go_wp2_with fail
          have hS1 := HS.out _ (hW.2.2.trans (hb1.mono hW.2.2.size))
          exact HK1.out _ _ ⟨hS1, HK.out _ hS1 hb1⟩
        all_goals
          intro W hW K hK
          replace hK := fun (h1 : _) => hK (.pointer (some ⟨W.heap.size, 0, none⟩)) (W.alloc (.cells #[.int .i64 0, .int .i64 0] 28)) h1 (show Batch.Kind.run (.lays _) W _ _ from ⟨rfl, rfl⟩)
          simp only [Batch.dstOf, List.getElem?_toArray, List.getElem?_cons_succ, List.getElem?_cons_zero, Option.bind_some, Act.put, List.setIfInBounds_toArray, List.set_cons_zero, List.set_cons_succ] at hK
          refine wpOp_step rfl (fun K' hK' => ?_)
          have HK := Lib.hid hK
          have HK1 := Lib.hid hK'
          clear hK hK'
          simp only [List.getElem_toArray, List.getElem_cons_succ, List.getElem_cons_zero]
          go_simp
          have hS1 := HS.out _ (hW.2.2.alloc hW.2.2.size (.cells #[.int .i64 0, .int .i64 0] 28))
          exact HK1.out _ _ ⟨hS1, HK.out hS1⟩
      case fin =>
        intro vals W hE hSW
        have e7 : vals 7 = (.agg #[.int .i64 q.1, .int .i64 q.2]) := hE.each 7 (by decide)
        have e11 : vals 11 = (.agg #[.int .i64 r.1, .int .i64 r.2]) := hE.each 11 (by decide)
        obtain ⟨g4, e12, l4, u4, b4⟩ : ∃ g, vals 12 = .pointer (some ⟨g, 0, none⟩) ∧ _ ≤ g ∧ g < W.heap.size ∧ W.heap[g]? = some (.cells #[.int .i64 0, .int .i64 0] 28) := hE.each 12 (by decide)
        obtain ⟨g5, e13, l5, u5, b5⟩ : ∃ g, vals 13 = .pointer (some ⟨g, 0, none⟩) ∧ _ ≤ g ∧ g < W.heap.size ∧ W.heap[g]? = some (.cells #[.int .i64 0, .int .i64 0] 28) := hE.each 13 (by decide)
        obtain ⟨g6, e14, l6, u6, b6⟩ : ∃ g, vals 14 = .pointer (some ⟨g, 0, none⟩) ∧ _ ≤ g ∧ g < W.heap.size ∧ W.heap[g]? = some (.cells #[.int .i64 0, .int .i64 0] 28) := hE.each 14 (by decide)
        have n45 : g4 ≠ g5 := hE.two 12 (by decide) 13 (by decide) (by decide) rfl rfl g4 g5 e12 e13
        have n46 : g4 ≠ g6 := hE.two 12 (by decide) 14 (by decide) (by decide) rfl rfl g4 g6 e12 e14
        have n56 : g5 ≠ g6 := hE.two 13 (by decide) 14 (by decide) (by decide) rfl rfl g5 g6 e13 e14
        have s4 := Pt2.of 0 0 _ b4
        have s5 := Pt2.of 0 0 _ b5
        have s6 := Pt2.of 0 0 _ b6
        have BW := hSW.2.2
        have z := hB.size
        simp at l4 l5 l6
        simp only [Batch.puts, Batch.marks, e7, e11, e12, e13, e14, Batch.dstOf, List.getElem?_toArray, List.getElem?_cons_succ, List.getElem?_cons_zero, Option.bind_some, Act.put, List.setIfInBounds_toArray, List.set_cons_zero, List.set_cons_succ]
        clear e7 e11 e12 e13 e14 b4 b5 b6 hE hSW hHeld
        refine wpAnyH_ready (rs := [15]) (by kernel_rfl) (by simp) (AllReadyH.cons rfl (fun K hK => ?_) AllReadyH.nil)
        simp only [List.getElem_toArray, List.getElem_cons_succ, List.getElem_cons_zero]
        have a4 := s4
        obtain ⟨a0, a1, a2, a3⟩ := a4
        go_simp
        clear a0 a1 a2 a3
        have t4 := s4.set p.1 p.2
        have B4 : Below w.heap.size w ((W.setCell ⟨g4, 0, none⟩ (.int .i64 p.1)).setCell ⟨g4, 1, none⟩ (.int .i64 p.2)) := (BW.setCell (by simp; omega) _).setCell (by simp; omega) _
        have t5 := (s5.far (p := ⟨g4, 0, none⟩) (.int .i64 p.1) n45).far (p := ⟨g4, 1, none⟩) (.int .i64 p.2) n45
        have t6 := (s6.far (p := ⟨g4, 0, none⟩) (.int .i64 p.1) n46).far (p := ⟨g4, 1, none⟩) (.int .i64 p.2) n46
        clear s4 s5 s6
        generalize (W.setCell ⟨g4, 0, none⟩ (.int .i64 p.1)).setCell ⟨g4, 1, none⟩ (.int .i64 p.2) = W1 at t4 t5 t6 B4 ⊢
        have s4 := t4; have s5 := t5; have s6 := t6; have BW1 := B4
        clear t4 t5 t6 BW B4
        have BW := BW1
        clear BW1
        refine hK.out _ _ (HS.out _ BW) (fun _ => ?_)
        clear hK K
        refine wpAnyH_ready (rs := [16]) (by kernel_rfl) (by simp) (AllReadyH.cons rfl (fun K hK => ?_) AllReadyH.nil)
        simp only [List.getElem_toArray, List.getElem_cons_succ, List.getElem_cons_zero]
        have a5 := s5
        obtain ⟨a0, a1, a2, a3⟩ := a5
        go_simp
        clear a0 a1 a2 a3
        have t5 := s5.set q.1 q.2
        have B5 : Below w.heap.size w ((W1.setCell ⟨g5, 0, none⟩ (.int .i64 q.1)).setCell ⟨g5, 1, none⟩ (.int .i64 q.2)) := (BW.setCell (by simp; omega) _).setCell (by simp; omega) _
        have t4 := (s4.far (p := ⟨g5, 0, none⟩) (.int .i64 q.1) n45.symm).far (p := ⟨g5, 1, none⟩) (.int .i64 q.2) n45.symm
        have t6 := (s6.far (p := ⟨g5, 0, none⟩) (.int .i64 q.1) n56).far (p := ⟨g5, 1, none⟩) (.int .i64 q.2) n56
        clear s4 s5 s6
        generalize (W1.setCell ⟨g5, 0, none⟩ (.int .i64 q.1)).setCell ⟨g5, 1, none⟩ (.int .i64 q.2) = W2 at t4 t5 t6 B5 ⊢
        have s4 := t4; have s5 := t5; have s6 := t6; have BW1 := B5
        clear t4 t5 t6 BW B5
        have BW := BW1
        clear BW1
        refine hK.out _ _ (HS.out _ BW) (fun _ => ?_)
        clear hK K
        refine wpAnyH_ready (rs := [17]) (by kernel_rfl) (by simp) (AllReadyH.cons rfl (fun K hK => ?_) AllReadyH.nil)
        simp only [List.getElem_toArray, List.getElem_cons_succ, List.getElem_cons_zero]
        have a6 := s6
        obtain ⟨a0, a1, a2, a3⟩ := a6
        go_simp
        clear a0 a1 a2 a3
        have t6 := s6.set r.1 r.2
        have B6 : Below w.heap.size w ((W2.setCell ⟨g6, 0, none⟩ (.int .i64 r.1)).setCell ⟨g6, 1, none⟩ (.int .i64 r.2)) := (BW.setCell (by simp; omega) _).setCell (by simp; omega) _
        have t4 := (s4.far (p := ⟨g6, 0, none⟩) (.int .i64 r.1) n46.symm).far (p := ⟨g6, 1, none⟩) (.int .i64 r.2) n46.symm
        have t5 := (s5.far (p := ⟨g6, 0, none⟩) (.int .i64 r.1) n56.symm).far (p := ⟨g6, 1, none⟩) (.int .i64 r.2) n56.symm
        clear s4 s5 s6
        generalize (W2.setCell ⟨g6, 0, none⟩ (.int .i64 r.1)).setCell ⟨g6, 1, none⟩ (.int .i64 r.2) = W3 at t4 t5 t6 B6 ⊢
        have s4 := t4; have s5 := t5; have s6 := t6; have BW1 := B6
        clear t4 t5 t6 BW B6
        have BW := BW1
        clear BW1
        refine hK.out _ _ (HS.out _ BW) (fun _ => ?_)
        clear hK K
        refine wpAnyH_done (by kernel_rfl) ?_ _
        have a4 := s4; have a5 := s5; have a6 := s6
        obtain ⟨x0, x1, _, _⟩ := a4
        obtain ⟨y0, y1, _, _⟩ := a5
        obtain ⟨z0, z1, _, _⟩ := a6
        clear l4 l5 l6 u4 u5 u6 n45 n46 n56
        go_wp2_with fail
        refine (on_any _ _ _ _ _ _ _ m1 m2 m3).mono ?_
        rintro e w4 ⟨rfl, hb4⟩
        have B4 := BW.trans (hb4.mono BW.size)
        have t4 := s4.later hb4; have t5 := s5.later hb4; have t6 := s6.later hb4
        clear hb4 s4 s5 s6 x0 x1 y0 y1 z0 z1
        obtain ⟨x0, x1, _, _⟩ := t4
        obtain ⟨y0, y1, _, _⟩ := t5
        obtain ⟨z0, z1, _, _⟩ := t6
        cases h1 : onB p.1 p.2 q.1 q.2 r.1 r.2
        · go_wp2_with fail
          refine (on_any _ _ _ _ _ _ _ m2 m3 m1).mono ?_
          rintro e w5 ⟨rfl, hb5⟩
          have B5 := B4.trans (hb5.mono B4.size)
          clear hb5 x0 x1 y0 y1 z0 z1
          cases h2 : onB q.1 q.2 r.1 r.2 p.1 p.2
          · go_wp2_with fail
            go_roundw
            case rel => exact ⟨k + 1, by omega, by go_num, anyTo_next HN.out (by unfold turnF onP; rw [← HP.out, ← HQ.out, ← HR.out, h1, h2]; rfl), B5⟩
            case measure => simp [intOf]; omega
          · go_wp2_with fail
            rw [show turnsB l = true from anyTo_yes hkl (by unfold turnF onP; rw [← HP.out, ← HQ.out, ← HR.out, h2]; simp)]
            go_ret
            exact ⟨rfl, B5⟩
        · go_wp2_with fail
          rw [show turnsB l = true from anyTo_yes hkl (by unfold turnF onP; rw [← HP.out, ← HQ.out, ← HR.out, h1]; simp)]
          go_ret
          exact ⟨rfl, B4⟩
    · have hkn : k = n := by have := E.out; omega
      have HT : Hid (turnsB l = false) := Lib.hid (by unfold turnsB; rw [← E.out, ← hkn]; exact HN.out)
      clear hkn
      go_wp2_with fail
      rw [HT.out]
      go_ret
      exact ⟨rfl, hB⟩
end Go.Proofs.Ythakngphffoooaa.Pl
