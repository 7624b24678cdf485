/-
  Two slices of points that a call makes side by side, each appended to again and again; and what a polygon's turned, turned round and moved points are to it. No program here.
-/
import Derived.Test.YtiggjaodfmelpaaPlBool
import Derived.Test.YtiggjaodfmelpaaPts
import Derived.Maps.AppendAt
import Derived.OwnWalk
namespace Go.Proofs.Ytiggjaodfmelpaa.Pl
open Go.RowKit Go.Proofs.Ytiggjaodfmelpaa.Pt Go.Proofs.Ytiggjaodfmelpaa.Rc Go.Proofs.Ytiggjaodfmelpaa.Pts
set_option linter.unusedVariables false

def cellsL (ps : List Pnt) : List Value := ps.flatMap fun p => [.int .i64 p.1, .int .i64 p.2]
theorem cellsL_app (ps : List Pnt) (p : Pnt) : cellsL (ps ++ [p]) = cellsL ps ++ [.int .i64 p.1, .int .i64 p.2] := by unfold cellsL; simp
theorem cellsL_get : ∀ (ps : List Pnt) (k : Nat) (h : k < ps.length), (cellsL ps)[k * 2]? = some (.int .i64 ps[k].1) ∧ (cellsL ps)[k * 2 + 1]? = some (.int .i64 ps[k].2)
  | [], _, h => by simp at h
  | p :: ps, 0, _ => by simp [cellsL]
  | p :: ps, k + 1, h => by
    have := cellsL_get ps k (by simpa using h)
    have e : cellsL (p :: ps) = .int .i64 p.1 :: .int .i64 p.2 :: cellsL ps := by simp [cellsL]
    rw [e, show (k + 1) * 2 = k * 2 + 1 + 1 by omega]
    simpa using this
/-- The two slices. -/
structure Pair (W : World) (base : Nat) (t : TypeId) (v u : Value) (ps qs : List Pnt) : Prop where
  one : W.ownsRow base t 2 v ps.length (cellsL ps)
  two : W.ownsRow base t 2 u qs.length (cellsL qs)
  apart : ∀ g, v.ownBlock = some g → u.ownBlock ≠ some g
theorem own_lt {W : World} {base n : Nat} {t : TypeId} {v : Value} {xs : List Value} (h : W.ownsRow base t 2 v n xs) {g : Nat} (hg : v.ownBlock = some g) : g < W.heap.size ∧ base ≤ g := by
  rcases h.2 with ⟨rfl, _⟩ | ⟨g', cap, cur, rfl, hb, hh, _⟩
  · simp [Value.ownBlock] at hg
  · simp [Value.ownBlock] at hg
    subst hg
    exact ⟨(Array.getElem?_eq_some_iff.1 hh).1, hb⟩
theorem own_later {W w1 : World} {base n : Nat} {t : TypeId} {v : Value} {xs : List Value} (h : W.ownsRow base t 2 v n xs) (hb : Below W.heap.size W w1) : w1.ownsRow base t 2 v n xs :=
  h.kept (row := none) ⟨hb.os, hb.tape, hb.output, hb.size, fun k hk _ => hb.block k hk⟩ (by cases v.ownBlock <;> simp)
theorem Pair.later {W w1 : World} {base : Nat} {t : TypeId} {v u : Value} {ps qs : List Pnt} (h : Pair W base t v u ps qs) (hb : Below W.heap.size W w1) : Pair w1 base t v u ps qs := ⟨own_later h.one hb, own_later h.two hb, h.apart⟩
theorem Pair.start (W : World) (base : Nat) (t : TypeId) : Pair W base t (.slice none 0 0) (.slice none 0 0) [] [] := ⟨World.ownsRow_nil _ _ _ _, World.ownsRow_nil _ _ _ _, fun g h => by simp [Value.ownBlock] at h⟩
theorem Pair.left {W w1 : World} {base : Nat} {t : TypeId} {v v' u : Value} {ps qs : List Pnt} {p : Pnt} (h : Pair W base t v u ps qs)
    (ho : w1.ownsRow base t 2 v' (ps.length + 1) (cellsL ps ++ [.int .i64 p.1, .int .i64 p.2])) (hg : W.grownBy w1 v.ownBlock) (ha : v'.ownBlock = v.ownBlock ∨ v'.ownBlock = some W.heap.size) : Pair w1 base t v' u (ps ++ [p]) qs := by
  refine ⟨by rw [cellsL_app, List.length_append]; exact ho, h.two.kept hg ?_, fun g hv => ?_⟩
  · cases hu : u.ownBlock with
    | none => exact Or.inl rfl
    | some g => exact Or.inr fun e => h.apart g e.symm hu
  · rcases ha with ha | ha
    · exact h.apart g (ha ▸ hv)
    · intro hu
      have := (own_lt h.two hu).1
      rw [ha] at hv
      simp at hv
      omega
theorem Pair.right {W w1 : World} {base : Nat} {t : TypeId} {v u u' : Value} {ps qs : List Pnt} {p : Pnt} (h : Pair W base t v u ps qs)
    (ho : w1.ownsRow base t 2 u' (qs.length + 1) (cellsL qs ++ [.int .i64 p.1, .int .i64 p.2])) (hg : W.grownBy w1 u.ownBlock) (ha : u'.ownBlock = u.ownBlock ∨ u'.ownBlock = some W.heap.size) : Pair w1 base t v u' ps (qs ++ [p]) := by
  refine ⟨h.one.kept hg ?_, by rw [cellsL_app, List.length_append]; exact ho, fun g hv => ?_⟩
  · cases hv : v.ownBlock with
    | none => exact Or.inl rfl
    | some g => exact Or.inr fun e => h.apart g hv e.symm
  · rcases ha with ha | ha
    · rw [ha]; exact h.apart g hv
    · rw [ha]
      intro hu
      have := (own_lt h.one hv).1
      simp at hu
      omega
theorem grown_below {W w1 v : World} {base n : Nat} {t : TypeId} {u : Value} {xs : List Value} (hB : Below v.heap.size v W) (h : W.ownsRow v.heap.size t 2 u n xs) (hg : W.grownBy w1 u.ownBlock) : Below v.heap.size v w1 :=
  hB.grown hg hB.size fun k hk => (own_lt h hk).2
theorem news_pt (W : World) (x y : Int) (t : TypeId) : ∀ j u, ([.int .i64 x, .int .i64 y] : List Value)[j]? = some u → (W.alloc (.cells #[.int .i64 x, .int .i64 y] t)).cell? ((⟨W.heap.size, 0, none⟩ : Addr).add j) = some u := by
  intro j u hj
  match j, hj with
  | 0, hj => simp at hj; subst hj; simp [Addr.add, go_sem]
  | 1, hj => simp at hj; subst hj; simp [Addr.add, go_sem]
  | j + 2, hj => simp at hj
theorem one_pt (x y : Int) : ∀ u ∈ ([.int .i64 x, .int .i64 y] : List Value), u.oneCell' = true := by
  intro u hu
  simp at hu
  rcases hu with rfl | rfl <;> rfl
theorem own_pts {W : World} {base : Nat} {t : TypeId} {v : Value} {ps : List Pnt} (h : W.ownsRow base t 2 v ps.length (cellsL ps)) (h0 : 0 < ps.length) : ∃ g cap, v = .slice (some ⟨g, 0, none⟩) ps.length cap ∧ PtsAt W W.heap.size (some ⟨g, 0, none⟩) ps := by
  have h2 := h
  rcases h.2 with ⟨rfl, e⟩ | ⟨g, cap, cur, rfl, _, hh, _⟩
  · omega
  · refine ⟨g, cap, rfl, fun _ => ⟨g, 0, rfl, (Array.getElem?_eq_some_iff.1 hh).1, fun k hk => ?_⟩⟩
    obtain ⟨c1, c2⟩ := cellsL_get ps k hk
    have d1 := h2.cellAt (k * 2) (by omega)
    have d2 := h2.cellAt (k * 2 + 1) (by omega)
    rw [c1] at d1
    rw [c2] at d2
    exact ⟨by simpa using d1, by simpa using d2⟩

/-- The first k of the points from vertex m on; of the points turned round. -/
def turnedL (l : List Pnt) (m k : Nat) : List Pnt := (List.range k).map fun (i : Nat) => at_ l ((i : Int) + m)
def roundL (l : List Pnt) (k : Nat) : List Pnt := (List.range k).map fun (i : Nat) => at_ l ((l.length : Int) - 1 - i)
theorem turnedL_succ (l : List Pnt) (m k : Nat) : turnedL l m (k + 1) = turnedL l m k ++ [at_ l ((k : Int) + m)] := by unfold turnedL; rw [List.range_succ, List.map_append]; rfl
theorem roundL_succ (l : List Pnt) (k : Nat) : roundL l (k + 1) = roundL l k ++ [at_ l ((l.length : Int) - 1 - k)] := by unfold roundL; rw [List.range_succ, List.map_append]; rfl
theorem turnedL_len (l : List Pnt) (m k : Nat) : (turnedL l m k).length = k := by unfold turnedL; simp
theorem roundL_len (l : List Pnt) (k : Nat) : (roundL l k).length = k := by unfold roundL; simp

theorem turnedL_get (l : List Pnt) (m k i : Nat) (h : i < (turnedL l m k).length) : (turnedL l m k)[i] = at_ l ((i : Int) + m) := by simp [turnedL]
theorem roundL_get (l : List Pnt) (k i : Nat) (h : i < (roundL l k).length) : (roundL l k)[i] = at_ l ((l.length : Int) - 1 - i) := by simp [roundL]
theorem moveL_get (l : List Pnt) (d : Pnt) (i : Nat) (h : i < (moveL l d).length) : (moveL l d)[i] = addP (l[i]'(by simpa [moveL] using h)) d := by simp [moveL]
theorem bool_of {a b : Bool} (h : a = true ↔ b = true) : a = b := Bool.eq_iff_iff.2 h
/-- What PolyTurns asks of the points from vertex m on. -/
theorem turned_facts {l : List Pnt} (hs : simpleB l = true) (m : Nat) (p : Pnt) :
    simpleB (turnedL l m l.length) = true ∧ insB (turnedL l m l.length) p = insB l p ∧ twiceL (turnedL l m l.length) = twiceL l := by
  obtain ⟨hm, h3, hn⟩ := simpleB_all hs
  have h0 : 0 < l.length := by omega
  have hl := turnedL_len l m l.length
  obtain ⟨f1, f2, f3⟩ := turned_all (l := l) (t := turnedL l m l.length) (m := m) h0 hl (fun i hi => by
    rw [turnedL_get, ← at_natmod h0]; rfl)
  refine ⟨simpleB_iff.2 (f1 (simpleB_iff.1 hs)), bool_of ?_, ?_⟩
  · rw [insB_iff (by omega), insB_iff h0]; exact f2 p
  · unfold twiceL; rw [f3]
theorem round_facts {l : List Pnt} (hs : simpleB l = true) (p : Pnt) :
    simpleB (roundL l l.length) = true ∧ insB (roundL l l.length) p = insB l p ∧ twiceL (roundL l l.length) = twiceL l := by
  obtain ⟨hm, h3, hn⟩ := simpleB_all hs
  have h0 : 0 < l.length := by omega
  have hl := roundL_len l l.length
  obtain ⟨f1, f2, f3⟩ := round_all (l := l) (t := roundL l l.length) h0 hl (fun i hi => by
    have hi' : i < l.length := by omega
    rw [roundL_get, ← at_nat (show l.length - 1 - i < l.length by omega)]
    congr 1
    omega)
  refine ⟨simpleB_iff.2 (f1 (simpleB_iff.1 hs)), bool_of ?_, ?_⟩
  · rw [insB_iff (by omega), insB_iff h0]; exact f2 p
  · unfold twiceL; rw [f3, twiceI_neg]
theorem moved_facts {l : List Pnt} (hs : simpleB l = true) (d p : Pnt) :
    insB (moveL l d) (addP p d) = insB l p ∧ twiceL (moveL l d) = twiceL l := by
  obtain ⟨hm, h3, hn⟩ := simpleB_all hs
  have h0 : 0 < l.length := by omega
  have hl : (moveL l d).length = l.length := by unfold moveL; rw [List.length_map]
  obtain ⟨f2, f3⟩ := moved_all (l := l) (t := moveL l d) (d := d) h0 hl (fun i hi => moveL_get l d i hi)
  refine ⟨bool_of ?_, ?_⟩
  · rw [insB_iff (by omega), insB_iff h0]; exact f2 p
  · unfold twiceL; rw [f3]
theorem moved_may {l : List Pnt} {d : Pnt} (h : fineB l d = true) : (moveL l d).all pmay = true := by
  unfold fineB at h
  rw [Bool.and_eq_true, List.all_eq_true] at h
  unfold moveL
  rw [List.all_map, List.all_eq_true]
  exact fun p hp => h.2 p hp
theorem vertex_in {l : List Pnt} {k : Nat} (hk : k < l.length) : insB l l[k] = true := by
  rw [insB_iff (by omega), ← at_nat hk]
  exact InQ.vertex _ _ _
end Go.Proofs.Ytiggjaodfmelpaa.Pl
