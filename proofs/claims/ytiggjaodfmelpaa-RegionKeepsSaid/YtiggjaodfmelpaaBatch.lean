/-
  A region that draws its order and holds calls beside new blocks: whatever order is drawn, each call gives its one value, and each new block lies by itself. No program here.
-/
import Derived.Deep.RegionHeld3
import Derived.Below
namespace Go.Proofs.Ytiggjaodfmelpaa.Batch
open Go Go.RowKit
set_option linter.unusedVariables false

section
variable {P : Program} {ops : Array Oper} {Q : Exit → Act → World → Prop} {md : Region.Mode} {S : World → Prop}

def dstOf (ops : Array Oper) (i : Nat) : Option Tmp := (ops[i]?).bind (·.dst)

/-- An operation does as it does, whatever stands where it does not look. -/
theorem wpOp_put {j : Nat} {oj : Oper} {x : Option Tmp} {v : Value} (hj : ops[j]? = some oj) (hsj : ∀ cs b, oj.op ≠ .select cs b)
    (h1 : ∀ d, x = some d → d ∉ oj.looksAt ops) (h2 : ∀ d, x = some d → oj.dst ≠ some d) (hQ : ∀ c a w, Q (.panic c) a w → Q (.panic c) (a.put x v) w)
    {K : Act → World → Prop} {a : Act} {w : World} (h : wpOp P ops Q j (fun a' w' => K (a'.put x v) w') a w) : wpOp P ops Q j K (a.put x v) w := by
  unfold wpOp at *
  simp only [hj] at *
  rw [wanted_put oj a x v h1]
  split
  · rename_i hw
    simp only [hw, if_true] at h
    rcases h with h | ⟨hasks, hlets⟩
    case inr => exact .inr ⟨by unfold Oper.asks at *; rw [execOp_put oj hsj a x v h1]; exact hasks, hlets⟩
    refine .inl ?_
    unfold Oper.wp at *
    rw [execOp_put oj hsj a x v h1]
    generalize (execOp a.eval oj).run P w = r at *
    cases r with
    | ok n w' =>
      cases n <;> simp only [Oper.upon] at h ⊢
      case value u => rw [Act.put_comm a v u h2]; exact h
      case skip => rw [Act.put_comm a v undef h2]; exact h
      case defer d => rw [Act.put_defers, Act.put_comm _ v undef h2]; exact h
      case enter f args =>
        refine Calls.mono h fun e w'' he => ?_
        cases e with
        | returned u => simp only at he ⊢; rw [Act.put_comm a v u h2]; exact he
        | panicked c => exact hQ _ _ _ he
        | outgrown => exact he
      case row row args => exact Rows.mono h fun u w'' he => by rw [Act.put_comm a v u h2]; exact he
    | halt x w' =>
      cases x <;> simp only [Oper.upon] at h ⊢
      case panic u => exact hQ _ _ _ h
  · rename_i hw
    simp only [hw] at h
    rw [Act.put_comm a v undef h2]; exact h

/-- All of them, in the list's order. -/
def puts (ops : Array Oper) (vals : Nat → Value) : List Nat → Act → Act
  | [], a => a
  | i :: rest, a => puts ops vals rest (a.put (dstOf ops i) (vals i))
def marks : List Nat → Array Bool → Array Bool
  | [], l => l
  | i :: rest, l => marks rest (l.setIfInBounds i true)
/-- Apart from each other, two by two. -/
def apartB (ops : Array Oper) (rem : List Nat) : Bool := rem.all fun i => rem.all fun j => i == j || (match ops[i]?, ops[j]? with
  | some oi, some oj => oi.apart ops oj
  | _, _ => false)
theorem apartB_spec {rem : List Nat} (h : apartB ops rem = true) {i j : Nat} (hi : i ∈ rem) (hj : j ∈ rem) (hne : i ≠ j) :
    ∃ oi oj, ops[i]? = some oi ∧ ops[j]? = some oj ∧ oi.apart ops oj = true := by
  unfold apartB at h
  rw [List.all_eq_true] at h
  have h1 := h i hi
  rw [List.all_eq_true] at h1
  have h2 := h1 j hj
  have hb : (i == j) = false := by simpa using hne
  rw [hb, Bool.false_or] at h2
  cases e1 : ops[i]? with
  | none => rw [e1] at h2; simp at h2
  | some oi =>
    cases e2 : ops[j]? with
    | none => rw [e1, e2] at h2; simp at h2
    | some oj => rw [e1, e2] at h2; exact ⟨oi, oj, rfl, rfl, h2⟩
theorem apart_dst {rem : List Nat} (h : apartB ops rem = true) {i j : Nat} (hi : i ∈ rem) (hj : j ∈ rem) (hne : i ≠ j) : ∀ d, dstOf ops i = some d → dstOf ops j ≠ some d := by
  obtain ⟨oi, oj, e1, e2, ha⟩ := apartB_spec h hi hj hne
  obtain ⟨_, h2, _⟩ := Oper.apart_spec ha
  intro d hd
  unfold dstOf at *
  rw [e1] at hd
  rw [e2]
  exact h2 d hd
theorem apartB_sub {rem rem' : List Nat} (h : apartB ops rem = true) (hs : ∀ i ∈ rem', i ∈ rem) : apartB ops rem' = true := by
  unfold apartB at *
  rw [List.all_eq_true] at *
  intro i hi
  have h1 := h i (hs i hi)
  rw [List.all_eq_true] at *
  exact fun j hj => h1 j (hs j hj)

theorem puts_congr {vals vals' : Nat → Value} : ∀ (rem : List Nat) (a : Act), (∀ i ∈ rem, vals i = vals' i) → puts ops vals rem a = puts ops vals' rem a
  | [], _, _ => rfl
  | i :: rest, a, h => by
    unfold puts
    rw [h i (List.mem_cons_self ..)]
    exact puts_congr rest _ fun j hj => h j (List.mem_cons_of_mem _ hj)
theorem puts_erase {vals : Nat → Value} : ∀ (rem : List Nat) (a : Act) (i : Nat), apartB ops rem = true → rem.Nodup → i ∈ rem → puts ops vals rem a = puts ops vals (rem.erase i) (a.put (dstOf ops i) (vals i))
  | [], _, _, _, _, h => by cases h
  | x :: xs, a, i, ha, hn, h => by
    by_cases e : x = i
    · subst e; rw [List.erase_cons_head]; rfl
    · have hi : i ∈ xs := by rcases List.mem_cons.1 h with h | h; exact absurd h.symm e; exact h
      rw [List.erase_cons_tail (by simpa using e)]
      unfold puts
      rw [puts_erase xs _ i (apartB_sub ha fun j hj => List.mem_cons_of_mem _ hj) (List.nodup_cons.1 hn).2 hi, Act.put_comm a (vals x) (vals i) (apart_dst ha (List.mem_cons_self ..) h e)]
theorem marks_erase : ∀ (rem : List Nat) (l : Array Bool) (i : Nat), i ∈ rem → marks rem l = marks (rem.erase i) (l.setIfInBounds i true)
  | [], _, _, h => by cases h
  | x :: xs, l, i, h => by
    by_cases e : x = i
    · subst e; rw [List.erase_cons_head]; rfl
    · have hi : i ∈ xs := by rcases List.mem_cons.1 h with h | h; exact absurd h.symm e; exact h
      rw [List.erase_cons_tail (by simpa using e)]
      unfold marks
      rw [marks_erase xs _ i hi, Array.setIfInBounds_comm _ _ e]

/-- What may come up is among them, till all have. -/
def onlyB (md : Region.Mode) (ops : Array Oper) : Nat → List Nat → Array Bool → Bool
  | 0, rem, _ => rem.isEmpty
  | n + 1, rem, l => !(Region.ready md ops l).isEmpty && (Region.ready md ops l).all fun i => rem.contains i && onlyB md ops n (rem.erase i) (l.setIfInBounds i true)

/-- One of them, run: its value and the world behind it. A call gives v; else it lays the new block o. -/
inductive Kind
  | gives (v : Value)
  | lays (o : Obj)
def Kind.run : Kind → World → Value → World → Prop
  | .gives v0, w, v, w' => v = v0 ∧ Below w.heap.size w w'
  | .lays o, w, v, w' => v = .pointer (some ⟨w.heap.size, 0, none⟩) ∧ w' = w.alloc o
/-- What is known of it when all have come up. -/
def Kind.left : Kind → World → Value → World → Prop
  | .gives v0, _, v, _ => v = v0
  | .lays o, w, v, W => ∃ g, v = .pointer (some ⟨g, 0, none⟩) ∧ w.heap.size ≤ g ∧ g < W.heap.size ∧ W.heap[g]? = some o
theorem Kind.run_below : ∀ {k : Kind} {w w' : World} {v : Value}, k.run w v w' → Below w.heap.size w w'
  | .gives _, _, _, _, h => h.2
  | .lays _, w, _, _, h => by rw [h.2]; exact (Below.refl _ _).alloc (Nat.le_refl _) _
theorem Kind.run_left : ∀ {k : Kind} {w w' : World} {v : Value}, k.run w v w' → k.left w v w'
  | .gives _, _, _, _, h => h.1
  | .lays o, w, _, w', h => by
    obtain ⟨rfl, rfl⟩ := h
    exact ⟨_, rfl, Nat.le_refl _, by simp, by show (w.heap.push o)[w.heap.size]? = some o; simp⟩
theorem Kind.left_later : ∀ {k : Kind} {w W W' : World} {v : Value}, k.left w v W → Below W.heap.size W W' → k.left w v W'
  | .gives _, _, _, _, _, h, _ => h
  | .lays o, w, W, W', v, ⟨g, e, h1, h2, h3⟩, hb => ⟨g, e, h1, Nat.lt_of_lt_of_le h2 hb.size, by rw [hb.block g h2]; exact h3⟩
theorem Kind.left_from : ∀ {k : Kind} {w w1 W : World} {v : Value}, k.left w1 v W → w.heap.size ≤ w1.heap.size → k.left w v W
  | .gives _, _, _, _, _, h, _ => h
  | .lays o, w, w1, W, v, ⟨g, e, h1, h2, h3⟩, hb => ⟨g, e, Nat.le_trans hb h1, h2, h3⟩
/-- No two blocks are one. -/
def Two (v u : Value) : Prop := ∀ g h, v = .pointer (some ⟨g, 0, none⟩) → u = .pointer (some ⟨h, 0, none⟩) → g ≠ h
def isPtr : Kind → Bool
  | .gives _ => false
  | .lays _ => true
structure Ends (kind : Nat → Kind) (rem : List Nat) (vals : Nat → Value) (w W : World) : Prop where
  below : Below w.heap.size w W
  each : ∀ i ∈ rem, (kind i).left w (vals i) W
  two : ∀ i ∈ rem, ∀ j ∈ rem, i ≠ j → isPtr (kind i) = true → isPtr (kind j) = true → Two (vals i) (vals j)

theorem batch (hs : Region.noSelect ops = true) (hQ : ∀ c a d v w, Q (.panic c) a w → Q (.panic c) (a.put (some d) v) w) (kind : Nat → Kind) :
    ∀ (n : Nat) (rem : List Nat) (fuel : Nat) (l : Array Bool) (a : Act) (w : World), onlyB md ops n rem l = true → apartB ops rem = true → rem.Nodup →
      (∀ i ∈ rem, ∀ w, S w → ∀ K : Act → World → Prop, (∀ v w', S w' → (kind i).run w v w' → K (a.put (dstOf ops i) v) w') → wpOp P ops Q i (fun a' w' => S w' ∧ K a' w') a w) →
      S w → (∀ vals W, Ends kind rem vals w W → S W → wpAnyH P md ops Q S fuel (marks rem l) (puts ops vals rem a) W) → wpAnyH P md ops Q S (fuel + n) l a w
  | 0, rem, fuel, l, a, w, ho, _, _, _, hS, H => by
    unfold onlyB at ho
    obtain rfl : rem = [] := by simpa using ho
    exact H (fun _ => undef) w ⟨Below.refl _ _, fun _ h => by (cases h), fun _ h => by (cases h)⟩ hS
  | n + 1, rem, fuel, l, a, w, ho, ha, hn, hst, hS, H => by
    unfold onlyB at ho
    rw [Bool.and_eq_true, List.all_eq_true] at ho
    obtain ⟨hne, hall⟩ := ho
    refine ⟨fun h0 => by rw [h0] at hne; simp at hne, fun i hi => ?_⟩
    have hi2 := hall i hi
    rw [Bool.and_eq_true] at hi2
    obtain ⟨hc, ho'⟩ := hi2
    have hir : i ∈ rem := by simpa using hc
    refine hst i hir w hS _ fun v w' hS' hrun => ?_
    have hsub : ∀ j ∈ rem.erase i, j ∈ rem := fun j hj => List.mem_of_mem_erase hj
    have hne' : ∀ j ∈ rem.erase i, i ≠ j := fun j hj e => by subst e; exact ((List.Nodup.mem_erase_iff hn).1 hj).1 rfl
    refine batch hs hQ kind n (rem.erase i) fuel (l.setIfInBounds i true) (a.put (dstOf ops i) v) w' ho' (apartB_sub ha hsub) (hn.erase i) (fun j hj W hW K hK => ?_) hS' (fun vals W hE hSW => ?_)
    · obtain ⟨oi, oj, e1, e2, hap⟩ := apartB_spec ha hir (hsub j hj) (hne' j hj)
      obtain ⟨h1, h2, _⟩ := Oper.apart_spec hap
      have ed : dstOf ops i = oi.dst := by unfold dstOf; rw [e1]; rfl
      have ej : dstOf ops j = oj.dst := by unfold dstOf; rw [e2]; rfl
      rw [ed] at hK ⊢
      refine wpOp_put e2 (Region.noSelect_spec hs j oj · · e2) h1 h2 (fun c a w h => by cases oi.dst with | none => exact h | some d => exact hQ c a d v w h) ?_
      refine hst j (hsub j hj) W hW (fun a' w' => K (a'.put oi.dst v) w') fun u W' hS2 hr => ?_
      have := hK u W' hS2 hr
      rw [ej] at this ⊢
      rw [← Act.put_comm a v u h2]; exact this
    · rw [← marks_erase rem l i hir] at *
      have e : puts ops vals (rem.erase i) (a.put (dstOf ops i) v) = puts ops (fun k => if k = i then v else vals k) rem a := by
        rw [puts_erase rem a i ha hn hir]
        simp only [if_true]
        exact puts_congr _ _ fun j hj => by rw [if_neg (hne' j hj).symm]
      rw [e]
      have hb := Kind.run_below hrun
      refine H _ W ⟨hb.trans (hE.below.mono hb.size), fun j hj => ?_, fun j hj k hk hjk pj pk => ?_⟩ hSW
      · by_cases hji : j = i
        · subst hji; rw [if_pos rfl]; exact Kind.left_later (Kind.run_left hrun) hE.below
        · rw [if_neg hji]; exact Kind.left_from (hE.each j ((List.Nodup.mem_erase_iff hn).2 ⟨hji, hj⟩)) hb.size
      · have mem : ∀ j ∈ rem, j ≠ i → j ∈ rem.erase i := fun j hj hji => (List.Nodup.mem_erase_iff hn).2 ⟨hji, hj⟩
        have low : ∀ j ∈ rem, j ≠ i → isPtr (kind j) = true → ∀ g, vals j = .pointer (some ⟨g, 0, none⟩) → w'.heap.size ≤ g := fun j hj hji hp g hg => by
          have := hE.each j (mem j hj hji)
          cases hk : kind j with
          | gives v0 => rw [hk] at hp; cases hp
          | lays o =>
            rw [hk] at this
            obtain ⟨g', e', h1, _⟩ := this
            rw [hg] at e'
            simp at e'
            omega
        have own : isPtr (kind i) = true → ∀ g, v = .pointer (some ⟨g, 0, none⟩) → g < w'.heap.size := fun hp g hg => by
          have := Kind.run_left hrun
          cases hk : kind i with
          | gives v0 => rw [hk] at hp; cases hp
          | lays o =>
            rw [hk] at this
            obtain ⟨g', e', _, h2, _⟩ := this
            rw [hg] at e'
            simp at e'
            omega
        by_cases hji : j = i
        · subst hji
          rw [if_pos rfl, if_neg (Ne.symm hjk)]
          intro g h hg hh
          have := own pj g hg
          have := low k hk (Ne.symm hjk) pk h hh
          omega
        · by_cases hki : k = i
          · subst hki
            rw [if_neg hji, if_pos rfl]
            intro g h hg hh
            have := own pk h hh
            have := low j hj hji pj g hg
            omega
          · rw [if_neg hji, if_neg hki]
            exact hE.two j (mem j hj hji) k (mem k hk hki) hjk pj pk
end
end Go.Proofs.Ytiggjaodfmelpaa.Batch
