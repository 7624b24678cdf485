/-
  Blocks that a call has made, and one that it may write: what is carried from world to world. No function of the program here.
-/
import Derived.Test.YtmfkpoojfpepaaaGreatDoorMp08
import Derived.Test.YtmfkpoojfpepaaaGreatDoorMp01
import Derived.Test.YtmfkpoojfpepaaaGreatDoorMp02
import Derived.Shelf.Spec.SearchS
import Derived.Ground.Names2Prog
import Derived.Shelf.SlIter.Nil
import Derived.Shelf.SortM.Plain
import Derived.Shelf.SortM.SortNone
import Derived.Ground.GgzProg
import Derived.Ground.SlgmProg
import Derived.Test.YtmfkpoojfpepaaaGreatDoorProg
import Derived.Test.YtmfkpoojfpepaaaGreatDoorMp03
import Derived.WalkKit
import Derived.WalkSpells
import Derived.Sort.Walk0
import Derived.Deep.LoopGhost
import Derived.Below
import Derived.Maps.AppendAt
/-
  Plain facts on filters' depths and numbers of nodes: may a filter be, at most so deep, with at most so many nodes? No program here.
-/
namespace Go.Proofs.YtmfkpoojfpepaaaGreatDoor.Fl
set_option linter.unusedVariables false
set_option linter.unusedSimpArgs false

mutual
/-- How deep a filter is. -/
def dep : Flt → Nat
  | .mk _ _ _ _ l => depL l + 1
def depL : List Flt → Nat
  | [] => 0
  | p :: r => max (dep p) (depL r)
end
def mayB (f : Flt) (deep n : Nat) : Bool := fine f && decide (dep f ≤ deep) && decide (sz f ≤ n)
/-- May a filter of kind k have these parts, at most so deep, with so many nodes? -/
def okU (k : Int) (d m : Nat) (ps : List Flt) : Bool := ps.all (fun q => !(joinedB k && decide (q.kind = k)) && fine q) && decide (depL ps ≤ d) && decide (szL ps ≤ m)
theorem fineL_all (k : Int) : ∀ ps : List Flt, fineL k ps = ps.all fun q => fine q && (decide (k = 3) || !decide (q.kind = k))
  | [] => rfl
  | p :: r => by rw [fineL, fineL_all k r, List.all_cons]
theorem joined_part {k : Int} (h : k = 1 ∨ k = 2 ∨ k = 3) (q : Flt) : (fine q && (decide (k = 3) || !decide (q.kind = k))) = (!(joinedB k && decide (q.kind = k)) && fine q) := by
  rcases h with rfl | rfl | rfl
  · cases fine q <;> simp [joinedB]
  · cases fine q <;> simp [joinedB]
  · cases fine q <;> simp [joinedB]
theorem leaf_whole {k : Int} (hk : k = 4 ∨ k = 5 ∨ k = 6) (n o : List UInt8) (vs : List Att) (lp : Nat) : wholeB k n o vs lp = (leafB k n o vs && decide (lp = 0)) := by
  rcases hk with rfl | rfl | rfl
  · show (leafQ n vs lp && opB o && decide (vs.length = 1)) = _
    match vs with
    | [] => simp [leafQ, leafB]
    | [v] => simp only [leafQ, leafB]; cases decide (lp = 0) <;> cases nameB n <;> cases hv : valB v <;> cases opB o <;> simp [hv]
    | v :: u :: r => simp [leafQ, leafB]
  · show (leafQ n vs lp && o == [] && decide (vs.length = 1) && firstText vs) = _
    match vs with
    | [] => simp [leafQ, leafB]
    | [v] => simp only [leafQ, leafB, firstText]; cases decide (lp = 0) <;> cases nameB n <;> cases hv : valB v <;> cases ho : (o == []) <;> cases ht : v.text <;> simp [hv, ht, ho]
    | v :: u :: r => simp [leafQ, leafB]
  · show (leafQ n vs lp && o == [] && decide (0 < vs.length) && sortB vs) = _
    match vs with
    | [] => simp [leafQ, leafB]
    | v :: r =>
      have e1 : decide ((v :: r).length ≤ 20) = decide (r.length < 20) := decide_eq_decide.2 (by simp only [List.length_cons]; omega)
      have e2 : (r.all fun u => valB u && u.text == v.text) = (r.all valB && r.all fun u => u.text == v.text) := by
        induction r with
        | nil => rfl
        | cons u r ih =>
          have := ih (decide_eq_decide.2 (by simp only [List.length_cons]; omega))
          simp only [List.all_cons, this]
          cases valB u <;> cases (u.text == v.text) <;> cases r.all valB <;> simp
      simp only [leafQ, leafB, e1, e2, sortB, List.all_cons, if_true]
      cases decide (lp = 0) <;> cases nameB n <;> cases valB v <;> cases ho : (o == []) <;> cases decide (r.length < 20) <;> cases r.all valB <;> cases (r.all fun u => u.text == v.text) <;> simp [ho]
theorem whole_kinds {k : Int} {n o : List UInt8} {vs : List Att} {lp : Nat} (h : wholeB k n o vs lp = true) : (k = 1 ∨ k = 2 ∨ k = 3) ∨ ((k = 7 ∨ k = 4 ∨ k = 5 ∨ k = 6) ∧ lp = 0) := by
  unfold wholeB at h
  split at h
  · omega
  split at h
  · omega
  split at h
  · simp at h; omega
  split at h
  · simp [leafQ] at h; omega
  split at h
  · simp [leafQ] at h; omega
  split at h
  · simp [leafQ] at h; omega
  · cases h
theorem all_congr {ps : List Flt} {p q : Flt → Bool} (h : ∀ x, p x = q x) : ps.all p = ps.all q := by rw [funext h]
theorem fine_eq (k : Int) (n o : List UInt8) (vs : List Att) (ps : List Flt) : fine (.mk k n o vs ps) = (wholeB k n o vs ps.length && ps.all fun q => !(joinedB k && decide (q.kind = k)) && fine q) := by
  rw [fine]
  by_cases h456 : k = 4 ∨ k = 5 ∨ k = 6
  · rw [if_pos h456, leaf_whole h456]
    match ps with
    | [] => simp
    | p :: r => simp
  · rw [if_neg h456]
    by_cases h12 : k = 1 ∨ k = 2
    · rw [if_pos h12, fineL_all, all_congr (joined_part (by omega))]
      unfold wholeB bareB
      rw [if_pos h12]
      cases vs <;> simp
    · rw [if_neg h12]
      by_cases h3 : k = 3
      · rw [if_pos h3, fineL_all, all_congr (joined_part (by omega))]
        unfold wholeB bareB
        rw [if_neg h12, if_pos h3]
        cases vs <;> simp
      · rw [if_neg h3]
        unfold wholeB bareB
        rw [if_neg h12, if_neg h3]
        by_cases h7 : k = 7
        · rw [if_pos h7]
          cases ps <;> cases vs <;> simp [h7, fineL]
        · rw [if_neg h7, if_neg (by omega), if_neg (by omega), if_neg (by omega)]
          simp [h7]
theorem may_eq (k : Int) (n o : List UInt8) (vs : List Att) (ps : List Flt) (d m : Nat) : mayB (.mk k n o vs ps) (d + 1) (m + 1) = (wholeB k n o vs ps.length && okU k d m ps) := by
  unfold mayB okU
  have e1 : decide (depL ps + 1 ≤ d + 1) = decide (depL ps ≤ d) := decide_eq_decide.2 (by omega)
  have e2 : decide (szL ps + 1 ≤ m + 1) = decide (szL ps ≤ m) := decide_eq_decide.2 (by omega)
  rw [fine_eq, dep, sz, e1, e2]
  simp only [Bool.and_assoc]
theorem dep_pos (f : Flt) : 1 ≤ dep f := by cases f; rw [dep]; omega
theorem may_flat (f : Flt) (n : Nat) : mayB f 0 n = false := by
  unfold mayB
  rw [decide_eq_false (show ¬ dep f ≤ 0 by have := dep_pos f; omega)]
  simp
theorem may_none (f : Flt) (d : Nat) : mayB f d 0 = false := by
  unfold mayB
  rw [decide_eq_false (show ¬ sz f ≤ 0 by have := sz_pos f; omega)]
  simp
theorem depL_app : ∀ l m : List Flt, depL (l ++ m) = max (depL l) (depL m)
  | [], m => by simp [depL]
  | p :: r, m => by rw [List.cons_append, depL, depL, depL_app r m]; omega
theorem szL_app' : ∀ l m : List Flt, szL (l ++ m) = szL l + szL m
  | [], m => by simp [szL]
  | p :: r, m => by rw [List.cons_append, szL, szL, szL_app' r m]; omega
theorem okU_nil (k : Int) (d m : Nat) : okU k d m [] = true := by simp [okU, depL, szL]
theorem okU_snoc {k : Int} {d m : Nat} {l : List Flt} (h : okU k d m l = true) (q : Flt) : okU k d m (l ++ [q]) = (!(joinedB k && decide (q.kind = k)) && mayB q d (m - szL l)) := by
  unfold okU mayB at *
  simp only [Bool.and_eq_true, decide_eq_true_eq] at h
  obtain ⟨⟨h1, h2⟩, h3⟩ := h
  have e1 : depL (l ++ [q]) = max (depL l) (dep q) := by rw [depL_app, depL, depL]; omega
  have e2 : szL (l ++ [q]) = szL l + sz q := by rw [szL_app', szL, szL]; omega
  have e3 : decide (max (depL l) (dep q) ≤ d) = decide (dep q ≤ d) := decide_eq_decide.2 (by omega)
  have e4 : decide (szL l + sz q ≤ m) = decide (sz q ≤ m - szL l) := decide_eq_decide.2 (by omega)
  rw [List.all_append, h1, Bool.true_and, e1, e2, e3, e4]
  simp only [List.all_cons, List.all_nil, Bool.and_true, Bool.and_assoc]
theorem okU_front {k : Int} {d m : Nat} {l r : List Flt} (h : okU k d m (l ++ r) = true) : okU k d m l = true := by
  unfold okU at *
  rw [List.all_append, depL_app, szL_app'] at h
  simp only [Bool.and_eq_true, decide_eq_true_eq] at h ⊢
  exact ⟨⟨h.1.1.1, by omega⟩, by omega⟩
theorem okU_szL {k : Int} {d m : Nat} {l : List Flt} (h : okU k d m l = true) : szL l ≤ m := by
  unfold okU at h
  simp only [Bool.and_eq_true, decide_eq_true_eq] at h
  exact h.2
theorem okU_take {k : Int} {d m j : Nat} {ps : List Flt} (h : okU k d m (ps.take j) = false) : okU k d m ps = false := by
  cases e : okU k d m ps with
  | false => rfl
  | true =>
    rw [← List.take_append_drop j ps] at e
    rw [okU_front e] at h
    cases h
theorem okU_step {k : Int} {d m j : Nat} {ps : List Flt} (h : okU k d m (ps.take j) = true) {q : Flt} (hq : ps[j]? = some q) : okU k d m (ps.take (j + 1)) = (!(joinedB k && decide (q.kind = k)) && mayB q d (m - szL (ps.take j))) := by
  rw [List.take_add_one, hq]
  exact okU_snoc h q
theorem szL_step {j : Nat} {ps : List Flt} {q : Flt} (hq : ps[j]? = some q) : szL (ps.take (j + 1)) = szL (ps.take j) + sz q := by
  rw [List.take_add_one, hq, szL_app']
  simp [szL]
theorem mayB_sz {f : Flt} {d n : Nat} (h : mayB f d n = true) : sz f ≤ n := by
  unfold mayB at h
  simp only [Bool.and_eq_true, decide_eq_true_eq] at h
  exact h.2
end Go.Proofs.YtmfkpoojfpepaaaGreatDoor.Fl
/-
  Plain facts on filters and schemas: a filter's names, whether it is well typed, what Check and Fits tell. No program here.
-/
namespace Go.Proofs.YtmfkpoojfpepaaaGreatDoor.Ck
open Go.Proofs.YtmfkpoojfpepaaaGreatDoor.Fl
set_option linter.unusedVariables false
set_option linter.unusedSimpArgs false

/-- Is there one among the first k? -/
def anyTo (f : Nat → Bool) : Nat → Bool
  | 0 => false
  | k + 1 => anyTo f k || f k
theorem anyTo_no {f : Nat → Bool} : ∀ {n : Nat}, anyTo f n = false ↔ ∀ i, i < n → f i = false
  | 0 => by simp [anyTo]
  | n + 1 => by
    rw [anyTo, Bool.or_eq_false_iff, anyTo_no]
    constructor
    · rintro ⟨h1, h2⟩ i hi
      rcases Nat.lt_or_ge i n with h | h
      · exact h1 i h
      · obtain rfl : i = n := by omega
        exact h2
    · exact fun h => ⟨fun i hi => h i (by omega), h n (by omega)⟩
theorem anyTo_yes {f : Nat → Bool} {n i : Nat} (h : i < n) (hf : f i = true) : anyTo f n = true := by
  rw [← Bool.not_eq_false, anyTo_no]
  intro hh
  rw [hh i h] at hf
  cases hf
theorem anyTo_next {f : Nat → Bool} {k : Nat} (h : anyTo f k = false) (hf : f k = false) : anyTo f (k + 1) = false := by rw [anyTo, h, hf]; rfl

/-- What amiss may be at a schema's i-th name. -/
def badN (l : List Nm) (i : Nat) : Bool := !(nameB (l.getD i [])) || (decide (0 < i) && !decide (l.getD (i - 1) [] < l.getD i []))
def schB (l : List Nm) (t : List Bool) : Bool := decide (l.length = t.length) && !anyTo (badN l) l.length
theorem sch_rising {l : List Nm} {t : List Bool} (h : schB l t = true) : Rising l ∧ l.length = t.length := by
  unfold schB at h
  rw [Bool.and_eq_true, decide_eq_true_eq, Bool.not_eq_true', anyTo_no] at h
  refine ⟨?_, h.1⟩
  have key : ∀ i j, i < j → (hj : j < l.length) → l.getD i [] < l.getD j [] := by
    intro i j hij
    induction j with
    | zero => omega
    | succ j ih =>
      intro hj
      have h1 := h.2 (j + 1) hj
      unfold badN at h1
      simp only [Bool.or_eq_false_iff, Bool.and_eq_false_iff, decide_eq_false_iff_not, Bool.not_eq_false', decide_eq_true_eq] at h1
      have h2 : l.getD j [] < l.getD (j + 1) [] := by
        rcases h1.2 with h3 | h3
        · omega
        · simpa using h3
      rcases Nat.lt_or_ge i j with h4 | h4
      · exact List.lt_trans (ih h4 (by omega)) h2
      · obtain rfl : i = j := by omega
        exact h2
  refine List.pairwise_iff_getElem.2 fun i j hi hj hij => ?_
  have := key i j hij hj
  simpa [List.getD_eq_getElem?_getD, hi, hj] using this

mutual
/-- All names in a filter. -/
def nms : Flt → List Nm
  | .mk _ n _ _ l => (if n = [] then [] else [n]) ++ nmsL l
def nmsL : List Flt → List Nm
  | [] => []
  | p :: r => nms p ++ nmsL r
end
mutual
def typB (l : List Nm) (t : List Bool) : Flt → Bool
  | .mk _ n _ vs ps => vs.all (fun v => v.text == isT l t n) && typL l t ps
def typL (l : List Nm) (t : List Bool) : List Flt → Bool
  | [] => true
  | p :: r => typB l t p && typL l t r
end
theorem nmsL_app : ∀ l m : List Flt, nmsL (l ++ m) = nmsL l ++ nmsL m
  | [], m => by simp [nmsL]
  | p :: r, m => by rw [List.cons_append, nmsL, nmsL, nmsL_app r m, List.append_assoc]
theorem nmsL_step {ps : List Flt} {j : Nat} {q : Flt} (h : ps[j]? = some q) : nmsL (ps.take (j + 1)) = nmsL (ps.take j) ++ nms q := by
  rw [List.take_add_one, h, nmsL_app]
  simp [nmsL]
theorem nmsL_mem : ∀ {l : List Flt} {q : Flt} {x : Nm}, q ∈ l → x ∈ nms q → x ∈ nmsL l
  | p :: r, q, x, hq, hx => by
    rw [nmsL, List.mem_append]
    rcases List.mem_cons.1 hq with rfl | h
    · exact .inl hx
    · exact .inr (nmsL_mem h hx)
theorem nms_part {f q : Flt} {x : Nm} (hq : q ∈ f.parts) (hx : x ∈ nms q) : x ∈ nms f := by
  obtain ⟨k, n, o, vs, ps⟩ := f
  rw [nms, List.mem_append]
  exact .inr (nmsL_mem hq hx)
theorem typL_all (l : List Nm) (t : List Bool) : ∀ ps : List Flt, typL l t ps = ps.all (typB l t)
  | [] => rfl
  | p :: r => by rw [typL, typL_all l t r, List.all_cons]
mutual
theorem nms_sz : ∀ f : Flt, (nms f).length ≤ sz f
  | .mk _ n _ _ l => by
    have := nmsL_sz l
    rw [nms, sz, List.length_append]
    split <;> simp <;> omega
theorem nmsL_sz : ∀ l : List Flt, (nmsL l).length ≤ szL l
  | [] => by simp [nmsL]
  | p :: r => by
    have := nms_sz p
    have := nmsL_sz r
    rw [nmsL, szL, List.length_append]
    omega
end
theorem nmsL_take_le : ∀ (ps : List Flt) (j : Nat), (nmsL (ps.take j)).length ≤ (nmsL ps).length
  | [], j => by simp
  | p :: r, 0 => by simp [nmsL]
  | p :: r, j + 1 => by have := nmsL_take_le r j; rw [List.take_succ_cons, nmsL, nmsL, List.length_append, List.length_append]; omega
theorem nmsL_one : ∀ {ps : List Flt} {q : Flt}, q ∈ ps → (nms q).length ≤ (nmsL ps).length
  | p :: r, q, h => by
    rw [nmsL, List.length_append]
    rcases List.mem_cons.1 h with rfl | h
    · omega
    · have := nmsL_one h; omega

/-- What Check tells: an error's number. -/
def chkN (l : List Nm) (t : List Bool) (f : Flt) : Nat :=
  if schB l t = true ∧ mayB f 10 60 = true then (if (nms f).all (hasN l t) = true then (if typB l t f = true then 0 else 4) else 9) else 1
/-- What amiss may be with an attribute's value. -/
def oddB (v : Att) : Bool := !(valB ⟨[], v.text, v.num, v.str⟩)
def attNms (a : List Att) : List Nm := a.map Att.name
/-- What Fits tells. -/
def fitN (l : List Nm) (t : List Bool) (a : List Att) : Nat :=
  if schB l t = true then
    (if 16 < a.length then 5 else if ¬ (attNms a).Nodup then 10 else if (attNms a).all (hasN l t) = true then (if a.any (fun v => !(v.text == isT l t v.name)) = true then 4 else if a.any oddB = true then 1 else 0) else 9)
  else 1

theorem cmp_may (nm : Nm) (v : Att) : mayB (.mk 4 nm [61] [v] []) 10 60 = (nameB nm && valB v) := by
  have h : opB [61] = true := by decide
  simp [mayB, fine, leafB, dep, depL, sz, szL, h]
theorem val_zero : valB ⟨[], false, 0, []⟩ = true := by simp [valB]
theorem name_a : nameB [97] = true := by rfl

mutual
theorem fine_part {k : Int} : ∀ {ps : List Flt}, fineL k ps = true → ∀ q ∈ ps, fine q = true
  | p :: r, h, q, hq => by
    rw [fineL, Bool.and_eq_true, Bool.and_eq_true] at h
    rcases List.mem_cons.1 hq with rfl | hq
    · exact h.1.1
    · exact fine_part h.2 q hq
end
theorem depL_mem : ∀ {ps : List Flt} {q : Flt}, q ∈ ps → dep q ≤ depL ps
  | p :: r, q, h => by
    rw [depL]
    rcases List.mem_cons.1 h with rfl | h
    · omega
    · have := depL_mem h; omega
theorem szL_mem : ∀ {ps : List Flt} {q : Flt}, q ∈ ps → sz q ≤ szL ps
  | p :: r, q, h => by
    rw [szL]
    rcases List.mem_cons.1 h with rfl | h
    · omega
    · have := szL_mem h; omega
theorem may_part {f q : Flt} (h : mayB f 10 60 = true) (hq : q ∈ f.parts) : mayB q 10 60 = true := by
  obtain ⟨k, n, o, vs, ps⟩ := f
  unfold mayB at h ⊢
  rw [Bool.and_eq_true, Bool.and_eq_true, decide_eq_true_eq, decide_eq_true_eq] at h ⊢
  obtain ⟨⟨h1, h2⟩, h3⟩ := h
  rw [dep] at h2
  rw [sz] at h3
  simp only [Flt.parts] at hq
  have e1 := depL_mem hq
  have e2 := szL_mem hq
  refine ⟨⟨?_, by omega⟩, by omega⟩
  rw [fine] at h1
  split at h1
  · rw [Bool.and_eq_true, List.isEmpty_iff] at h1
    rw [h1.2] at hq
    simp at hq
  · rw [Bool.and_eq_true] at h1
    exact fine_part h1.2 q hq
/-- A part of what is well typed is. -/
theorem chk_part {l : List Nm} {t : List Bool} {f q : Flt} (h : chkN l t f = 0) (hq : q ∈ f.parts) : chkN l t q = 0 := by
  unfold chkN at h
  split at h
  · rename_i h1
    split at h
    · rename_i h2
      split at h
      · rename_i h3
        unfold chkN
        rw [if_pos ⟨h1.1, may_part h1.2 hq⟩, if_pos, if_pos]
        · obtain ⟨k, n, o, vs, ps⟩ := f
          rw [typB, Bool.and_eq_true, typL_all] at h3
          exact List.all_eq_true.1 h3.2 q hq
        · rw [List.all_eq_true] at h2 ⊢
          exact fun x hx => h2 x (nms_part hq hx)
      · cases h
    · cases h
  · cases h
theorem chk_may {l : List Nm} {t : List Bool} {f : Flt} (h : chkN l t f = 0) : mayB f 10 60 = true := by
  unfold chkN at h
  split at h
  · rename_i h1
    exact h1.2
  · cases h
theorem may_nms {f : Flt} (h : mayB f 10 60 = true) : (nms f).length ≤ 60 := by
  have := nms_sz f
  unfold mayB at h
  rw [Bool.and_eq_true, decide_eq_true_eq] at h
  omega
theorem chk_codes (l : List Nm) (t : List Bool) (f : Flt) : chkN l t f = 0 ∨ chkN l t f = 1 ∨ chkN l t f = 4 ∨ chkN l t f = 9 := by
  unfold chkN
  split
  · split
    · split <;> simp
    · simp
  · simp
theorem fit_codes (l : List Nm) (t : List Bool) (a : List Att) : fitN l t a = 0 ∨ fitN l t a = 1 ∨ fitN l t a = 4 ∨ fitN l t a = 5 ∨ fitN l t a = 9 ∨ fitN l t a = 10 := by
  unfold fitN
  split
  · split
    · simp
    · split
      · simp
      · split
        · split
          · simp
          · split <;> simp
        · simp
  · simp
end Go.Proofs.YtmfkpoojfpepaaaGreatDoor.Ck
/-
  Names and types in memory: slices of strings and of bools, to be read; carried from world to world; such arguments opened. No function of the program here.
-/
namespace Go.Proofs.YtmfkpoojfpepaaaGreatDoor.Ck
open Go.RowKit Go.ChangeShapes Go.WideShapes Go.Deep Go.Joins Go.Proofs.YtmfkpoojfpepaaaGreatDoor.Fl
set_option linter.unusedVariables false
set_option linter.unusedSectionVars false

/-- A slice that begins at a holds l; its block is one of S. -/
def NmsAt (W : World) (S : Nat → Prop) (a : Option Addr) (l : List Nm) : Prop :=
  l.length ≤ maxLen ∧ (∀ s ∈ l, s.length ≤ maxLen) ∧ (0 < l.length → ∃ g o, a = some ⟨g, o, none⟩ ∧ S g ∧ ∀ (k : Nat) (h : k < l.length), W.cell? ⟨g, o + k, none⟩ = some (bs l[k]))
def BlsAt (W : World) (S : Nat → Prop) (a : Option Addr) (l : List Bool) : Prop :=
  l.length ≤ maxLen ∧ (0 < l.length → ∃ g o, a = some ⟨g, o, none⟩ ∧ S g ∧ ∀ (k : Nat) (h : k < l.length), W.cell? ⟨g, o + k, none⟩ = some (.bool l[k]))
theorem NmsAt.far {W V : World} {S T : Nat → Prop} {a : Option Addr} {l : List Nm} (h : NmsAt W S a l) (hS : ∀ g, S g → T g ∧ V.heap[g]? = W.heap[g]?) : NmsAt V T a l := by
  refine ⟨h.1, h.2.1, fun h0 => ?_⟩
  obtain ⟨g, o, e, hg, hc⟩ := h.2.2 h0
  obtain ⟨ht, hh⟩ := hS g hg
  have hq : ∀ x, V.cell? ⟨g, x, none⟩ = W.cell? ⟨g, x, none⟩ := fun x => World.cell?_of_block (w := W) (w' := V) (a := ⟨g, x, none⟩) hh
  exact ⟨g, o, e, ht, fun k hk => by simp only [hq]; exact hc k hk⟩
theorem BlsAt.far {W V : World} {S T : Nat → Prop} {a : Option Addr} {l : List Bool} (h : BlsAt W S a l) (hS : ∀ g, S g → T g ∧ V.heap[g]? = W.heap[g]?) : BlsAt V T a l := by
  refine ⟨h.1, fun h0 => ?_⟩
  obtain ⟨g, o, e, hg, hc⟩ := h.2 h0
  obtain ⟨ht, hh⟩ := hS g hg
  have hq : ∀ x, V.cell? ⟨g, x, none⟩ = W.cell? ⟨g, x, none⟩ := fun x => World.cell?_of_block (w := W) (w' := V) (a := ⟨g, x, none⟩) hh
  exact ⟨g, o, e, ht, fun k hk => by simp only [hq]; exact hc k hk⟩
theorem NmsAt.later {W V : World} {z : Nat} {a : Option Addr} {l : List Nm} (h : NmsAt W (Old z) a l) (hB : Below z W V) : NmsAt V (Old z) a l := h.far fun g hg => ⟨hg, hB.block g hg⟩
theorem BlsAt.later {W V : World} {z : Nat} {a : Option Addr} {l : List Bool} (h : BlsAt W (Old z) a l) (hB : Below z W V) : BlsAt V (Old z) a l := h.far fun g hg => ⟨hg, hB.block g hg⟩
theorem NmsAt.wide {W : World} {z z' : Nat} {a : Option Addr} {l : List Nm} (h : NmsAt W (Old z) a l) (hz : z ≤ z') : NmsAt W (Old z') a l := h.far fun g hg => ⟨Nat.lt_of_lt_of_le hg hz, rfl⟩
theorem BlsAt.wide {W : World} {z z' : Nat} {a : Option Addr} {l : List Bool} (h : BlsAt W (Old z) a l) (hz : z ≤ z') : BlsAt W (Old z') a l := h.far fun g hg => ⟨Nat.lt_of_lt_of_le hg hz, rfl⟩
/-- In a world that is later, all of the memory of old there. -/
theorem NmsAt.fit {W V : World} {z : Nat} {a : Option Addr} {l : List Nm} (h : NmsAt W (Old z) a l) (hB : Below z W V) (hz : z ≤ V.heap.size) : NmsAt V (Old V.heap.size) a l := (h.later hB).wide hz
theorem BlsAt.fit {W V : World} {z : Nat} {a : Option Addr} {l : List Bool} (h : BlsAt W (Old z) a l) (hB : Below z W V) (hz : z ≤ V.heap.size) : BlsAt V (Old V.heap.size) a l := (h.later hB).wide hz
theorem attsFit {W V : World} {z : Nat} {a : Option Addr} {l : List Att} (h : AttsAt W (Old z) a l) (hB : Below z W V) (hz : z ≤ V.heap.size) : AttsAt V (Old V.heap.size) a l :=
  (h.later hB).far fun g hg => ⟨Nat.lt_of_lt_of_le hg hz, rfl⟩

section
variable {H : Type} {enc : TypeId × Value → H} {P : Program} {w : World} {base : Nat} {spare : Nat → Bool} {held : Bool}
theorem open_nms {t e : TypeId} (ht : P.underlying t = some (.slice e)) (he : P.underlying e = some .string) (hc : P.cellsOf e = 1) {fuel : Nat} {cs : List Value} {x : DataW H × List MemPlace} (h : DataW.trod enc P w base spare held fuel t cs = some x) :
    ∃ (l : List Nm) (a : Option Addr) (c : Nat), cs = [.slice a l.length c] ∧ NmsAt w (Old w.heap.size) a l := by
  obtain ⟨l, a, c, e, hm, hq⟩ := open_elems (α := Nm) (Q := fun _ v cs' => cs' = [bs v] ∧ v.length ≤ maxLen) ht hc h (fun m _ i cs' x' h' => by
    obtain ⟨s, e, _, z⟩ := DataW.trod_string he h'
    exact ⟨s.data.toList, by rw [e, bs_list], by rw [size_list]; exact z⟩) (by omega) (fun i v cs' hq => by rw [hq.1]; rfl)
  refine ⟨l, a, c, e, hm, fun v hv => ?_, fun h0 => ?_⟩
  · obtain ⟨k, hk, rfl⟩ := List.getElem_of_mem hv
    obtain ⟨g, o, _, _, hq⟩ := hq (by omega)
    obtain ⟨cs', ⟨_, h2⟩, _⟩ := hq k hk
    exact h2
  · obtain ⟨g, o, e, hg, hq⟩ := hq h0
    refine ⟨g, o, e, hg, fun k hk => ?_⟩
    obtain ⟨cs', ⟨rfl, h2⟩, h3⟩ := hq k hk
    simpa using h3 0 (by omega)
theorem open_bls {t e : TypeId} (ht : P.underlying t = some (.slice e)) (he : P.underlying e = some .bool) (hc : P.cellsOf e = 1) {fuel : Nat} {cs : List Value} {x : DataW H × List MemPlace} (h : DataW.trod enc P w base spare held fuel t cs = some x) :
    ∃ (l : List Bool) (a : Option Addr) (c : Nat), cs = [.slice a l.length c] ∧ BlsAt w (Old w.heap.size) a l := by
  obtain ⟨l, a, c, e, hm, hq⟩ := open_elems (α := Bool) (Q := fun _ v cs' => cs' = [.bool v]) ht hc h (fun m _ i cs' x' h' => by
    obtain ⟨b, e, _⟩ := DataW.trod_bool he h'
    exact ⟨b, e⟩) (by omega) (fun i v cs' hq => by rw [hq]; rfl)
  refine ⟨l, a, c, e, hm, fun h0 => ?_⟩
  obtain ⟨g, o, e, hg, hq⟩ := hq h0
  refine ⟨g, o, e, hg, fun k hk => ?_⟩
  obtain ⟨cs', rfl, h3⟩ := hq k hk
  simpa using h3 0 (by omega)
end
end Go.Proofs.YtmfkpoojfpepaaaGreatDoor.Ck
/-
  slices.Sorted, maps.Keys and slices.BinarySearch of strings, each by what it answers: laid at this program by the shelf, without conditions of our own.
-/
namespace Go.Proofs
open Go.Shelf
def Tryz.keys19_ren : Go.Shelf.Ren := ⟨fun | 7 => 19 | 10 => 39 | n => n, fun | 23 => 53 | 26 => 9 | 3 => 54 | 28 => 50 | 0 => 0 | 27 => 49 | 33 => 62 | 4 => 4 | n => n, fun | n => n⟩
theorem Tryz.keys19 : Go.Proofs.SlLaysZ.n7 Tryz.prog Tryz.keys19_ren := {
  mixed := by kernel_rfl
  f7 := ⟨Tryz.f19.name, by decide, Tryz.func19.trans (congrArg some (by kernel_rfl))⟩
  f10 := ⟨Tryz.f39.name, by decide, Tryz.func39.trans (congrArg some (by kernel_rfl))⟩
  t0 := Tryz.underlying0
  a0 := Tryz.isAgg0
  z0 := Tryz.sizeOf0
  v0 := Tryz.zeroValue0
  t4 := Tryz.underlying4
  a4 := Tryz.isAgg4
  z4 := Tryz.sizeOf4
  v4 := Tryz.zeroValue4
  t23 := Tryz.underlying53
  a23 := Tryz.isAgg53
  z23 := Tryz.sizeOf53
  v23 := Tryz.zeroValue53
  t26 := Tryz.underlying9
  a26 := Tryz.isAgg9
  z26 := Tryz.sizeOf9
  v26 := Tryz.zeroValue9
  t27 := Tryz.underlying49
  a27 := Tryz.isAgg49
  z27 := Tryz.sizeOf49
  v27 := Tryz.zeroValue49
  t28 := Tryz.underlying50
  a28 := Tryz.isAgg50
  z28 := Tryz.sizeOf50
  v28 := Tryz.zeroValue50
  t33 := Tryz.underlying62
  a33 := Tryz.isAgg62
  z33 := Tryz.sizeOf62
  v33 := Tryz.zeroValue62 }
def Tryz.sorted18_ren : Go.Shelf.Ren := ⟨fun | 6 => 18 | 8 => 37 | 9 => 38 | 11 => 51 | 13 => 53 | 12 => 52 | 23 => 68 | 24 => 69 | 14 => 60 | 15 => 61 | 16 => 62 | 17 => 63 | 18 => 64 | 19 => 65 | 20 => 56 | 21 => 66 | 22 => 67 | 25 => 79 | 26 => 80 | 27 => 81 | 28 => 82 | 29 => 83 | 30 => 74 | 31 => 86 | n => n, fun | 26 => 9 | 28 => 50 | 24 => 22 | 0 => 0 | 3 => 3 | 37 => 76 | 48 => 93 | 50 => 95 | 4 => 4 | 40 => 87 | 39 => 86 | 45 => 68 | 5 => 5 | 9 => 9 | 51 => 99 | 55 => 67 | 57 => 104 | 58 => 105 | 33 => 62 | n => n, fun | n => n⟩
theorem Tryz.sorted18 : Go.Proofs.SlLaysZ.n6 Tryz.prog Tryz.sorted18_ren := {
  mixed := by kernel_rfl
  f6 := ⟨Tryz.f18.name, by decide, Tryz.func18.trans (congrArg some (by kernel_rfl))⟩
  f8 := ⟨Tryz.f37.name, by decide, Tryz.func37.trans (congrArg some (by kernel_rfl))⟩
  f11 := ⟨Tryz.f51.name, by decide, Tryz.func51.trans (congrArg some (by kernel_rfl))⟩
  t0 := Tryz.underlying0
  a0 := Tryz.isAgg0
  z0 := Tryz.sizeOf0
  v0 := Tryz.zeroValue0
  t24 := Tryz.underlying22
  a24 := Tryz.isAgg22
  z24 := Tryz.sizeOf22
  v24 := Tryz.zeroValue22
  t26 := Tryz.underlying9
  a26 := Tryz.isAgg9
  z26 := Tryz.sizeOf9
  v26 := Tryz.zeroValue9
  t28 := Tryz.underlying50
  a28 := Tryz.isAgg50
  z28 := Tryz.sizeOf50
  v28 := Tryz.zeroValue50
  i26 := by kernel_rfl }
def Tryz.sort38_ren : Go.Shelf.Ren := ⟨fun | 6 => 38 | 8 => 53 | 9 => 52 | 19 => 68 | 20 => 69 | 21 => 60 | 22 => 61 | 23 => 62 | 24 => 63 | 25 => 64 | 26 => 65 | 27 => 56 | 28 => 66 | 29 => 67 | 36 => 79 | 31 => 80 | 32 => 81 | 37 => 82 | 38 => 83 | 39 => 74 | 41 => 86 | n => n, fun | 27 => 22 | 29 => 9 | 3 => 3 | 32 => 76 | 26 => 22 | 0 => 0 | 44 => 93 | 46 => 95 | 4 => 4 | 36 => 87 | 35 => 86 | 41 => 68 | 5 => 5 | 9 => 9 | 53 => 99 | 57 => 67 | 63 => 104 | 64 => 105 | n => n, fun | n => n⟩
theorem Tryz.sort38 : Go.Proofs.SlLaysM.n6 Tryz.prog Tryz.sort38_ren := {
  mixed := by kernel_rfl
  f6 := ⟨Tryz.f38.name, by decide, Tryz.func38.trans (congrArg some (by kernel_rfl))⟩
  f8 := Tryz.func53.trans (congrArg some (by kernel_rfl))
  f9 := ⟨Tryz.f52.name, by decide, Tryz.func52.trans (congrArg some (by kernel_rfl))⟩
  f19 := Tryz.func68.trans (congrArg some (by kernel_rfl))
  f20 := Tryz.func69.trans (congrArg some (by kernel_rfl))
  f21 := ⟨Tryz.f60.name, by decide, Tryz.func60.trans (congrArg some (by kernel_rfl))⟩
  f22 := ⟨Tryz.f61.name, by decide, Tryz.func61.trans (congrArg some (by kernel_rfl))⟩
  f23 := ⟨Tryz.f62.name, by decide, Tryz.func62.trans (congrArg some (by kernel_rfl))⟩
  f24 := ⟨Tryz.f63.name, by decide, Tryz.func63.trans (congrArg some (by kernel_rfl))⟩
  f25 := ⟨Tryz.f64.name, by decide, Tryz.func64.trans (congrArg some (by kernel_rfl))⟩
  f26 := ⟨Tryz.f65.name, by decide, Tryz.func65.trans (congrArg some (by kernel_rfl))⟩
  f27 := ⟨Tryz.f56.name, by decide, Tryz.func56.trans (congrArg some (by kernel_rfl))⟩
  f28 := ⟨Tryz.f66.name, by decide, Tryz.func66.trans (congrArg some (by kernel_rfl))⟩
  f29 := ⟨Tryz.f67.name, by decide, Tryz.func67.trans (congrArg some (by kernel_rfl))⟩
  f31 := Tryz.func80.trans (congrArg some (by kernel_rfl))
  f32 := Tryz.func81.trans (congrArg some (by kernel_rfl))
  f36 := ⟨Tryz.f79.name, by decide, Tryz.func79.trans (congrArg some (by kernel_rfl))⟩
  f37 := ⟨Tryz.f82.name, by decide, Tryz.func82.trans (congrArg some (by kernel_rfl))⟩
  f38 := ⟨Tryz.f83.name, by decide, Tryz.func83.trans (congrArg some (by kernel_rfl))⟩
  f39 := ⟨Tryz.f74.name, by decide, Tryz.func74.trans (congrArg some (by kernel_rfl))⟩
  f41 := ⟨Tryz.f86.name, by decide, Tryz.func86.trans (congrArg some (by kernel_rfl))⟩
  t0 := Tryz.underlying0
  a0 := Tryz.isAgg0
  z0 := Tryz.sizeOf0
  v0 := Tryz.zeroValue0
  t3 := Tryz.underlying3
  a3 := Tryz.isAgg3
  z3 := Tryz.sizeOf3
  v3 := Tryz.zeroValue3
  t4 := Tryz.underlying4
  a4 := Tryz.isAgg4
  z4 := Tryz.sizeOf4
  v4 := Tryz.zeroValue4
  t5 := Tryz.underlying5
  a5 := Tryz.isAgg5
  z5 := Tryz.sizeOf5
  v5 := Tryz.zeroValue5
  t9 := Tryz.underlying9
  a9 := Tryz.isAgg9
  z9 := Tryz.sizeOf9
  v9 := Tryz.zeroValue9
  t26 := Tryz.underlying22
  a26 := Tryz.isAgg22
  z26 := Tryz.sizeOf22
  v26 := Tryz.zeroValue22
  t27 := Tryz.underlying22
  a27 := Tryz.isAgg22
  z27 := Tryz.sizeOf22
  v27 := Tryz.zeroValue22
  t29 := Tryz.underlying9
  a29 := Tryz.isAgg9
  z29 := Tryz.sizeOf9
  v29 := Tryz.zeroValue9
  t32 := Tryz.underlying76
  a32 := Tryz.isAgg76
  z32 := Tryz.sizeOf76
  v32 := Tryz.zeroValue76
  t35 := Tryz.underlying86
  a35 := Tryz.isAgg86
  z35 := Tryz.sizeOf86
  v35 := Tryz.zeroValue86
  t36 := Tryz.underlying87
  a36 := Tryz.isAgg87
  z36 := Tryz.sizeOf87
  v36 := Tryz.zeroValue87
  t41 := Tryz.underlying68
  a41 := Tryz.isAgg68
  z41 := Tryz.sizeOf68
  v41 := Tryz.zeroValue68
  t44 := Tryz.underlying93
  a44 := Tryz.isAgg93
  z44 := Tryz.sizeOf93
  v44 := Tryz.zeroValue93
  t46 := Tryz.underlying95
  a46 := Tryz.isAgg95
  z46 := Tryz.sizeOf95
  v46 := Tryz.zeroValue95
  t53 := Tryz.underlying99
  a53 := Tryz.isAgg99
  z53 := Tryz.sizeOf99
  v53 := Tryz.zeroValue99
  t57 := Tryz.underlying67
  a57 := Tryz.isAgg67
  z57 := Tryz.sizeOf67
  v57 := Tryz.zeroValue67
  t63 := Tryz.underlying104
  a63 := Tryz.isAgg104
  z63 := Tryz.sizeOf104
  v63 := Tryz.zeroValue104
  t64 := Tryz.underlying105
  a64 := Tryz.isAgg105
  z64 := Tryz.sizeOf105
  v64 := Tryz.zeroValue105 }
def Tryz.search44_ren : Go.Shelf.Ren := ⟨fun | 26 => 44 | 33 => 56 | 34 => 57 | 38 => 74 | n => n, fun | 24 => 22 | 9 => 9 | 3 => 3 | 4 => 4 | 40 => 76 | 0 => 0 | n => n, fun | n => n⟩
theorem Tryz.search44 : Go.Proofs.Lays2.n26 Tryz.prog Tryz.search44_ren := {
  mixed := by kernel_rfl
  f26 := Tryz.func44.trans (congrArg some (by kernel_rfl))
  f33 := Tryz.func56.trans (congrArg some (by kernel_rfl))
  f34 := Tryz.func57.trans (congrArg some (by kernel_rfl))
  f38 := Tryz.func74.trans (congrArg some (by kernel_rfl))
  t0 := Tryz.underlying0
  a0 := Tryz.isAgg0
  z0 := Tryz.sizeOf0
  v0 := Tryz.zeroValue0
  t3 := Tryz.underlying3
  a3 := Tryz.isAgg3
  z3 := Tryz.sizeOf3
  v3 := Tryz.zeroValue3
  t4 := Tryz.underlying4
  a4 := Tryz.isAgg4
  z4 := Tryz.sizeOf4
  v4 := Tryz.zeroValue4
  t9 := Tryz.underlying9
  a9 := Tryz.isAgg9
  z9 := Tryz.sizeOf9
  v9 := Tryz.zeroValue9
  t24 := Tryz.underlying22
  a24 := Tryz.isAgg22
  z24 := Tryz.sizeOf22
  v24 := Tryz.zeroValue22
  t40 := Tryz.underlying76
  a40 := Tryz.isAgg76
  z40 := Tryz.sizeOf76
  v40 := Tryz.zeroValue76 }
open Go.RowKit Go.Maps Go.Sort
theorem Tryz.sorts18 (m : Nat) : AnyZ.SortsIn Tryz.prog Tryz.sorted18_ren Fence.wide m :=
  ⟨fun blk off cap ss W hH hblk hsz => callsIn_wide.2 (AnyM.slices_Sort_string Tryz.sort38 blk off cap ss W hH hblk hsz),
   fun p cap W => callsIn_wide.2 (AnyM.slices_Sort_string_none Tryz.sort38 p cap W)⟩

theorem Tryz.maps_Keys_19 (mb : Option Nat) (W : World) : CallsIn Fence.wide 5 Tryz.prog 19 #[.map mb] W fun e w' => e = .returned (.func (.func 39) #[] #[.pointer (some ⟨W.heap.size, 0, none⟩)]) ∧ w' = W.alloc (.cells #[.map mb] 53) :=
  AnyZ.keys_in Tryz.keys19 Fence.wide 5 trivial rfl mb W

set_option maxHeartbeats 1000000 in
theorem Tryz.slices_Sorted_keys_18_19 {H : Type} (b nn : Nat) (D0 : DataW H) (R : Value → Option (DataW H × List MemPlace)) (w : World) (hown : w.ownsMap Tryz.prog 9 R b nn D0) (hmax : Maps.size D0 ≤ maxLen) (hbytes : Maps.size D0 * 16 ≤ 140737488355328) :
    CallsIn Fence.wide 5 Tryz.prog 18 #[.func (.func 39) #[] #[.pointer (some ⟨w.heap.size, 0, none⟩)]] (w.alloc (.cells #[.map (some b)] 53)) fun e w' => ∃ (v : Value) (ss : List (List UInt8)), e = .returned v ∧ ss.Perm (strKeys D0) ∧
      w'.ownsRow (w.alloc (.cells #[.map (some b)] 53)).heap.size 9 1 v ss.length ((ss.mergeSort (fun x y => decide (x ≤ y))).map encStr) ∧ (v = .slice none 0 0 ↔ ss = []) ∧ Below (w.alloc (.cells #[.map (some b)] 53)).heap.size (w.alloc (.cells #[.map (some b)] 53)) w' := by
  have hbl := hown.lt
  have hseq : SeqGives Fence.wide 2 Tryz.prog 39 #[.pointer (some ⟨w.heap.size, 0, none⟩)] encStr (fun ss => ss.Perm (strKeys D0)) (Maps.size D0) (w.alloc (.cells #[.map (some b)] 53)) :=
    AnyZ.keys_gives (ρ := Tryz.keys19_ren) { Tryz.keys19 with } Fence.wide _ trivial rfl (by omega) w.heap.size b nn D0 _ (by simp) (by simp) (by
      obtain ⟨es, clock, hb, Ft, hs, hD⟩ := hown
      exact ⟨es, clock, (Below.heap_alloc _ _ b hbl).trans hb, Ft, hs, hD⟩)
  exact AnyZ.sorted_in Tryz.sorted18 Fence.wide 5 trivial trivial trivial trivial rfl (by omega) (Tryz.sorts18 _) (enters_of Tryz.func38 (by kernel_rfl) rfl) 39 #[.pointer (some ⟨w.heap.size, 0, none⟩)] trivial (enters_of Tryz.func39 (by kernel_rfl) rfl) _ _ hmax hbytes _ hseq

set_option maxHeartbeats 1000000 in
theorem Tryz.slices_Sorted_keys_nil_18_19 (w : World) :
    CallsIn Fence.wide 5 Tryz.prog 18 #[.func (.func 39) #[] #[.pointer (some ⟨w.heap.size, 0, none⟩)]] (w.alloc (.cells #[.map none] 53)) fun e w' => ∃ (v : Value) (ss : List (List UInt8)), e = .returned v ∧ ss = [] ∧
      w'.ownsRow (w.alloc (.cells #[.map none] 53)).heap.size 9 1 v ss.length ((ss.mergeSort (fun x y => decide (x ≤ y))).map encStr) ∧ (v = .slice none 0 0 ↔ ss = []) ∧ Below (w.alloc (.cells #[.map none] 53)).heap.size (w.alloc (.cells #[.map none] 53)) w' := by
  have hseq : SeqGives Fence.wide 2 Tryz.prog 39 #[.pointer (some ⟨w.heap.size, 0, none⟩)] encStr (fun ss : List (List UInt8) => ss = []) 0 (w.alloc (.cells #[.map none] 53)) :=
    AnyZ.keys_gives_nil (ρ := Tryz.keys19_ren) { Tryz.keys19 with } Fence.wide _ trivial rfl w.heap.size _ (by simp) (by simp)
  exact AnyZ.sorted_in Tryz.sorted18 Fence.wide 5 trivial trivial trivial trivial rfl (by omega) (Tryz.sorts18 _) (enters_of Tryz.func38 (by kernel_rfl) rfl) 39 #[.pointer (some ⟨w.heap.size, 0, none⟩)] trivial (enters_of Tryz.func39 (by kernel_rfl) rfl) _ 0 (Nat.zero_le _) (by omega) _ hseq



end Go.Proofs
/-
  Contract of the document's answer find: a name's type in a schema. The world is as it was.
-/
namespace Go.Proofs.YtmfkpoojfpepaaaGreatDoor.Ck
open Go.RowKit Go.Proofs.YtmfkpoojfpepaaaGreatDoor.Fl Go.Proofs.YtmfkpoojfpepaaaGreatDoor.Tk
set_option linter.unusedVariables false
set_option linter.unusedSimpArgs false

def FnR (l : List Nm) (s : Nm) (w : World) (vi : Value) (wr : World) : Prop :=
  ∃ k : Nat, k ≤ l.length ∧ vi = .int .i64 k ∧ Hid (∀ j y, j < k → l[j]? = some y → y ≠ s) ∧ w = wr
theorem ne_list {x y : ByteArray} (h : ¬ x.data.toList = y.data.toList) : ¬ x = y ∧ ¬ x.toList = y.toList ∧ (x.toList == y.toList) = false := by
  have h1 : ¬ x.toList = y.toList := by rw [Lib.toList_data, Lib.toList_data]; exact h
  exact ⟨fun e => h (by rw [e]), h1, by rw [beq_eq_false_iff_ne]; exact h1⟩
theorem eq_list {x y : ByteArray} (h : x.data.toList = y.data.toList) : x = y := by
  obtain ⟨⟨x⟩⟩ := x
  obtain ⟨⟨y⟩⟩ := y
  simp at h
  rw [h]
set_option maxHeartbeats 1000000 in
set_option maxRecDepth 100000 in
theorem find_any (l : List Nm) (t : List Bool) (s : ByteArray) (a : Option Addr) (c : Nat) (b : Option Addr) (d : Nat) (w : World) (hlen : l.length = t.length) (hL : NmsAt w (Old w.heap.size) a l) (hT : BlsAt w (Old w.heap.size) b t) :
    Calls Tryz.prog 29 #[.slice a l.length c, .slice b t.length d, .string s] w fun e w' => e = .returned (.int .i64 (fnd l t s.data.toList)) ∧ w = w' := by
  obtain ⟨n, hn⟩ : ∃ n, n = l.length := ⟨_, rfl⟩
  obtain ⟨m, hm⟩ : ∃ n, n = t.length := ⟨_, rfl⟩
  have hnm : m = n := by omega
  have HN := Lib.hid hn
  have HM := Lib.hid hm
  have hbig : n ≤ 9223372036854775807 := by have := hL.1; unfold maxLen at this; omega
  have HL := Lib.hid hL
  have HT := Lib.hid hT
  obtain ⟨res, hres⟩ : ∃ r, r = fnd l t s.data.toList := ⟨_, rfl⟩
  have HR := Lib.hid hres
  rw [← hres, ← hn, ← hm]
  clear hn hm hL hT hres hlen
  subst hnm
  go_enter Tryz.func29, Tryz.ntmps29
  go_wp2_with fail
  go_loopw [7] (fun vi wr => FnR l s.data.toList w vi wr) (fun vi _ => m - (intOf vi).toNat)
  case atStart => exact ⟨0, Nat.zero_le _, rfl, Lib.hid (fun j y hj => by omega), rfl⟩
  case round =>
    obtain ⟨k, hk, rfl, hno, rfl⟩ := hrel
    have HK := Lib.hid hk
    have HNO := Lib.hid hno
    clear hk hno
    by_cases hlt : k < m
    · have hlz : (k : Int) < (m : Int) := by omega
      have hkl : k < l.length := by rw [← HN.out]; exact hlt
      have hkt : k < t.length := by rw [← HM.out]; exact hlt
      obtain ⟨g, o, hg, hgl, hc⟩ := HL.out.2.2 (by omega)
      obtain ⟨g2, o2, hg2, hgl2, hc2⟩ := HT.out.2 (by omega)
      have c0 := hc k hkl
      have c1 := hc2 k hkt
      obtain ⟨U, hU⟩ : ∃ V, V = l[k] := ⟨_, rfl⟩
      obtain ⟨T, hT⟩ : ∃ V, V = t[k] := ⟨_, rfl⟩
      have HU := Lib.hid (show l[k]? = some U by rw [hU]; exact List.getElem?_eq_getElem hkl)
      have HTT := Lib.hid (show t[k]? = some T by rw [hT]; exact List.getElem?_eq_getElem hkt)
      rw [← hU] at c0
      rw [← hT] at c1
      obtain ⟨x, e0, hx⟩ := bs_bytes U
      rw [e0] at c0
      subst hg hg2
      have HX := Lib.hid hx
      clear hc hc2 hU hT hx hgl hgl2
      by_cases he : x.data.toList = s.data.toList
      · obtain rfl := eq_list he
        have HF := Lib.hid (show res = if T then 1 else 0 by
          rw [HR.out]; exact fnd_hit _ _ _ k T HNO.out (by rw [HU.out, HX.out]) HTT.out)
        clear he
        cases T with
        | true =>
          go_wp2_with fail
          go_ret
          exact ⟨by rw [HF.out]; rfl, rfl⟩
        | false =>
          go_wp2_with fail
          go_ret
          exact ⟨by rw [HF.out]; rfl, rfl⟩
      · obtain ⟨q0, q1, q2⟩ := ne_list he
        have HE := Lib.hid he
        clear he
        go_wp2_with fail
        go_roundw
        case rel =>
          exact ⟨k + 1, by have := HN.out; omega, by go_num, Lib.hid (fun j y hj hy => by
            rcases Nat.lt_or_ge j k with h | h
            · exact HNO.out j y h hy
            · obtain rfl : j = k := by omega
              rw [HU.out] at hy
              cases hy
              intro e
              exact HE.out (by rw [HX.out, e])), rfl⟩
        case measure => simp [intOf]; omega
    · have hlz : ¬ (k : Int) < (m : Int) := by omega
      have HF := Lib.hid (show res = -1 by
        rw [HR.out]
        refine fnd_miss _ _ _ fun y hy => ?_
        obtain ⟨j, hj, e⟩ := List.getElem_of_mem hy
        exact HNO.out j y (by have := HN.out; omega) (by rw [List.getElem?_eq_getElem hj, e]))
      go_wp2_with fail
      go_ret
      exact ⟨by rw [HF.out]; rfl, rfl⟩
end Go.Proofs.YtmfkpoojfpepaaaGreatDoor.Ck
/-
  slices.BinarySearch of a schema's names, and isText of package check: is a name's type a text. Old memory is left as it was.
-/
namespace Go.Proofs.YtmfkpoojfpepaaaGreatDoor.Ck
open Go.RowKit Go.Proofs.YtmfkpoojfpepaaaGreatDoor.Fl Go.Proofs.YtmfkpoojfpepaaaGreatDoor.Tk
set_option linter.unusedVariables false
set_option linter.unusedSimpArgs false

set_option maxHeartbeats 1000000 in
set_option maxRecDepth 1000000 in
theorem search_empty (a : Option Addr) (c : Nat) (x : ByteArray) (w : World) :
    Calls Tryz.prog 44 #[.slice a 0 c, .string x] w fun e w' => e = .returned (.tuple #[.int .i64 0, .bool false]) ∧ w' = w := by
  go_enter Tryz.func44, Tryz.ntmps44
  go_wp2
  go_loopg [7, 8] 0 (fun _ s7 s8 wr => s7 = .int .i64 0 ∧ s8 = .int .i64 0 ∧ wr = w)
  case atStart => exact ⟨rfl, rfl, rfl⟩
  case round =>
    obtain ⟨rfl, rfl, rfl⟩ := hrel
    go_wp2
    go_ret2
    exact ⟨rfl, rfl⟩
def nmAt (l : List Nm) (t : Nat) : ByteArray := ⟨(l.getD t []).toArray⟩
/-- Where a name stands, or would stand. -/
def SrchEnd (l : List Nm) (s : Nm) (e : Ending) : Prop :=
  ∃ k : Nat, k ≤ l.length ∧ e = .returned (.tuple #[.int .i64 (k : Nat), .bool (decide (l[k]? = some s))]) ∧ (∀ j, j < k → ∀ y, l[j]? = some y → y < s) ∧ ∀ j, k ≤ j → ∀ y, l[j]? = some y → ¬ y < s
theorem bs_spec (less : Nat → Bool) (k n : Nat) (h1 : ∀ t, t < n → less t = decide (t < k)) : ∀ (f lo hi : Nat), hi - lo ≤ f → lo ≤ k → k ≤ hi → hi ≤ n → Lib.bsGo less f lo hi = k
  | 0, lo, hi, hf, a, b, _ => by simp [Lib.bsGo]; omega
  | f + 1, lo, hi, hf, a, b, c => by
    unfold Lib.bsGo
    by_cases h : lo < hi
    · rw [if_pos h, h1 _ (by omega)]
      by_cases hm : (lo + hi) / 2 < k
      · rw [decide_eq_true hm, if_pos rfl]; exact bs_spec less k n h1 f _ _ (by omega) (by omega) b c
      · rw [decide_eq_false hm]; exact bs_spec less k n h1 f _ _ (by omega) a (by omega) (by omega)
    · rw [if_neg h]; omega
theorem search_any (l : List Nm) (s : ByteArray) (a : Option Addr) (c : Nat) (w : World) (hR : Rising l) (h100 : l.length ≤ 100) (hL : NmsAt w (Old w.heap.size) a l) :
    Calls Tryz.prog 44 #[.slice a l.length c, .string s] w fun e w' => SrchEnd l s.data.toList e ∧ Below w.heap.size w w' := by
  by_cases h0 : l = []
  · subst h0
    refine (search_empty a c s w).mono ?_
    rintro e w' ⟨rfl, rfl⟩
    exact ⟨⟨0, by simp, by simp, fun j hj => by omega, fun j _ y hy => by simp at hy⟩, Below.refl _ _⟩
  · have hp : 0 < l.length := List.length_pos_iff.2 h0
    obtain ⟨g, o, rfl, hg, hc⟩ := hL.2.2 hp
    obtain ⟨k, hk, h1, h2⟩ := rising_cut hR s.data.toList
    have hless : ∀ t, t < l.length → Op.bytesLess (nmAt l t).toList s.toList = decide (t < k) := by
      intro t ht
      have e1 : (nmAt l t).data.toList = l[t] := by simp [nmAt, ht]
      rw [bytesLess_eq, Lib.toList_data, Lib.toList_data, e1]
      rcases Nat.lt_or_ge t k with h | h
      · rw [decide_eq_true (h1 t h _ (List.getElem?_eq_getElem ht)), decide_eq_true h]
      · rw [decide_eq_false (h2 t h _ (List.getElem?_eq_getElem ht)), decide_eq_false (by omega)]
    have hbs := bs_spec (fun t => Op.bytesLess (nmAt l t).toList s.toList) k l.length hless l.length 0 l.length (by omega) (by omega) hk (Nat.le_refl _)
    refine (Any2.slices_BinarySearch_string Tryz.search44 g o l.length c (nmAt l) s w (by omega) (fun j hj => by
      rw [hc j hj]; simp [nmAt, bs, hj])).mono ?_
    rintro e w' ⟨he, q, rfl⟩
    refine ⟨⟨k, hk, ?_, h1, h2⟩, below_drewN (Below.refl _ _) q⟩
    rw [he, hbs]
    congr 5
    refine congrArg Value.bool (decide_eq_decide.2 ?_)
    constructor
    · rintro ⟨hkn, e⟩
      rw [List.getElem?_eq_getElem hkn, ← e]
      simp [nmAt, hkn]
    · intro e
      obtain ⟨hkn, e2⟩ := List.getElem?_eq_some_iff.1 e
      refine ⟨hkn, ?_⟩
      rw [nmAt, List.getD_eq_getElem?_getD, e]
      simp
/-- Block g holds these two. -/
def Two (W : World) (g : Nat) (x0 x1 : Value) : Prop := W.cell? ⟨g, 0, none⟩ = some x0 ∧ W.cell? ⟨g, 1, none⟩ = some x1
theorem Two.new (w : World) (x0 x1 : Value) (t : TypeId) : Two (w.alloc (.cells #[x0, x1] t)) w.heap.size x0 x1 := by
  refine ⟨?_, ?_⟩ <;> simp [go_sem]
theorem Two.lt {W : World} {g : Nat} {x0 x1 : Value} (h : Two W g x0 x1) : g < W.heap.size := World.block_lt_of_cell? W ⟨g, 0, none⟩ h.1
theorem Two.same {W V : World} {g : Nat} {x0 x1 : Value} (h : Two W g x0 x1) (e : V.heap[g]? = W.heap[g]?) : Two V g x0 x1 := by
  have hq : ∀ x, V.cell? ⟨g, x, none⟩ = W.cell? ⟨g, x, none⟩ := fun x => World.cell?_of_block (w := W) (w' := V) (a := ⟨g, x, none⟩) e
  unfold Two
  simp only [hq]
  exact h
theorem Two.later {W V : World} {g : Nat} {x0 x1 : Value} (h : Two W g x0 x1) (hb : Below W.heap.size W V) : Two V g x0 x1 := h.same (hb.block g h.lt)
/-- A schema that may be, in old memory; its names are few. -/
def SchAt (W : World) (l : List Nm) (t : List Bool) (a : Option Addr) (b : Option Addr) : Prop := l.length ≤ 100 ∧ NmsAt W (Old W.heap.size) a l ∧ BlsAt W (Old W.heap.size) b t
theorem SchAt.fit {W V : World} {l : List Nm} {t : List Bool} {a b : Option Addr} (h : SchAt W l t a b) (hB : Below W.heap.size W V) : SchAt V l t a b := ⟨h.1, h.2.1.fit hB hB.size, h.2.2.fit hB hB.size⟩

set_option maxHeartbeats 2000000 in
set_option maxRecDepth 100000 in
theorem isText_any (l : List Nm) (t : List Bool) (s : ByteArray) (a : Option Addr) (c : Nat) (b : Option Addr) (d : Nat) (w : World) (hR : Rising l) (hlen : l.length = t.length) (hS : SchAt w l t a b) :
    Calls Tryz.prog 34 #[.agg #[.slice a l.length c, .slice b t.length d], .string s] w fun e w' => e = .returned (.bool (isT l t s.data.toList)) ∧ Below w.heap.size w w' := by
  have CS := Lib.hid (fun W h => search_any l s a c W hR hS.1 h)
  have HS := Lib.hid hS
  have HLEN := Lib.hid hlen
  have HRI := Lib.hid hR
  obtain ⟨n, hn⟩ : ∃ n, n = l.length := ⟨_, rfl⟩
  obtain ⟨m, hm⟩ : ∃ n, n = t.length := ⟨_, rfl⟩
  have h100 : n ≤ 100 := by rw [hn]; exact hS.1
  have hmn : m = n := by omega
  have HN := Lib.hid hn
  have HM := Lib.hid hm
  obtain ⟨res, hres⟩ : ∃ r, r = isT l t s.data.toList := ⟨_, rfl⟩
  have HR := Lib.hid hres
  rw [← hn] at CS
  rw [← hres, ← hn, ← hm]
  clear hn hm hS hres hlen hR
  subst hmn
  obtain ⟨w1, hw1⟩ : ∃ v, v = w.alloc (.cells #[.slice a m c, .slice b m d] 37) := ⟨_, rfl⟩
  have X1 := Lib.hid (show Two w1 w.heap.size (.slice a m c) (.slice b m d) by rw [hw1]; exact Two.new ..)
  have HB := Lib.hid (show Below w.heap.size w w1 by rw [hw1]; exact (Below.refl _ _).alloc (Nat.le_refl _) _)
  have HW := Lib.hid hw1
  clear hw1
  go_enter Tryz.func34, Tryz.ntmps34
  go_wp2_with fail
  rw [← HW.out]
  refine Calls.mono (CS.out _ (HS.out.fit HB.out).2.1) ?_
  rintro e w2 ⟨⟨k, hk, rfl, h1, h2⟩, hb⟩
  have HB2 := Lib.hid (HB.out.trans (hb.mono HB.out.size))
  have X2 := Lib.hid (X1.out.later hb)
  have H1 := Lib.hid h1
  have H2 := Lib.hid h2
  have HK := Lib.hid hk
  obtain ⟨p0, p1⟩ := X2.out
  clear hb h1 h2 hk
  by_cases he : l[k]? = some s.data.toList
  · have hkl : k < l.length := (List.getElem?_eq_some_iff.1 he).1
    have hkm : k < m := by have := HN.out; omega
    have hkz : (k : Int) < (m : Int) := by omega
    have hkt : k < t.length := by rw [← HM.out]; exact hkm
    obtain ⟨g2, o2, hg2, hgl2, hc2⟩ := (HS.out.fit HB2.out).2.2.2 (by omega)
    have c1 := hc2 k hkt
    obtain ⟨T, hT⟩ : ∃ V, V = t[k] := ⟨_, rfl⟩
    have HF := Lib.hid (show res = T by
      rw [HR.out]; exact search_isT H1.out he (by rw [hT]; exact List.getElem?_eq_getElem hkt))
    rw [← hT] at c1
    subst hg2
    rw [decide_eq_true he]
    have HE := Lib.hid he
    clear hc2 hT hgl2 he hkl hkt
    go_wp2_with fail
    go_ret
    exact ⟨by rw [HF.out]; rfl, HB2.out⟩
  · have HF := Lib.hid (show res = false by
      rw [HR.out]
      apply isT_no
      rw [search_has HRI.out HLEN.out H1.out H2.out]
      exact decide_eq_false he)
    rw [decide_eq_false he]
    have HE := Lib.hid he
    clear he
    go_wp2_with fail
    go_ret
    exact ⟨by rw [HF.out]; rfl, HB2.out⟩
end Go.Proofs.YtmfkpoojfpepaaaGreatDoor.Ck
namespace Go.Proofs.YtmfkpoojfpepaaaGreatDoor.Fl
open Go.RowKit Go.Proofs.YtmfkpoojfpepaaaGreatDoor.Tk
set_option linter.unusedVariables false
set_option linter.unusedSimpArgs false

/-- Block g holds these five. -/
def Box (W : World) (g : Nat) (x0 x1 x2 x3 x4 : Value) : Prop :=
  W.cell? ⟨g, 0, none⟩ = some x0 ∧ W.cell? ⟨g, 1, none⟩ = some x1 ∧ W.cell? ⟨g, 2, none⟩ = some x2 ∧ W.cell? ⟨g, 3, none⟩ = some x3 ∧ W.cell? ⟨g, 4, none⟩ = some x4
theorem Box.new (w : World) (x0 x1 x2 x3 x4 : Value) (t : TypeId) : Box (w.alloc (.cells #[x0, x1, x2, x3, x4] t)) w.heap.size x0 x1 x2 x3 x4 := by
  refine ⟨?_, ?_, ?_, ?_, ?_⟩ <;> simp [go_sem]
theorem Box.lt {W : World} {g : Nat} {x0 x1 x2 x3 x4 : Value} (h : Box W g x0 x1 x2 x3 x4) : g < W.heap.size := World.block_lt_of_cell? W ⟨g, 0, none⟩ h.1
theorem Box.same {W V : World} {g : Nat} {x0 x1 x2 x3 x4 : Value} (h : Box W g x0 x1 x2 x3 x4) (e : V.heap[g]? = W.heap[g]?) : Box V g x0 x1 x2 x3 x4 := by
  have hq : ∀ x, V.cell? ⟨g, x, none⟩ = W.cell? ⟨g, x, none⟩ := fun x => World.cell?_of_block (w := W) (w' := V) (a := ⟨g, x, none⟩) e
  unfold Box
  simp only [hq]
  exact h
theorem Box.later {W V : World} {g : Nat} {x0 x1 x2 x3 x4 : Value} (h : Box W g x0 x1 x2 x3 x4) (hb : Below W.heap.size W V) : Box V g x0 x1 x2 x3 x4 := h.same (hb.block g h.lt)
theorem Box.gr {W V : World} {g p : Nat} {x0 x1 x2 x3 x4 : Value} (h : Box W g x0 x1 x2 x3 x4) (hg : W.grownBy V (some p)) (hne : g ≠ p) : Box V g x0 x1 x2 x3 x4 := h.same (hg.block g h.lt (by simpa using hne))

theorem gr_refl (w : World) (r : Option Nat) : w.grownBy w r := ⟨rfl, rfl, rfl, Nat.le_refl _, fun _ _ _ => rfl⟩
theorem gr_alloc {w V : World} {r : Option Nat} (h : w.grownBy V r) (o : Obj) : w.grownBy (V.alloc o) r :=
  ⟨h.os, h.tape, h.output, Nat.le_trans h.size (by simp), fun k hk hne => (Below.heap_alloc _ _ _ (Nat.lt_of_lt_of_le hk h.size)).trans (h.block k hk hne)⟩
theorem gr_drew {w V : World} {r : Option Nat} (h : w.grownBy V r) : w.grownBy V.drew r := ⟨h.os, h.tape, h.output, h.size, h.block⟩
theorem gr_set {w V : World} {p o : Nat} (h : w.grownBy V (some p)) (v : Value) : w.grownBy (V.setCell ⟨p, o, none⟩ v) (some p) :=
  ⟨h.os, h.tape, h.output, by have := h.size; simpa [World.setCell] using this, fun k hk hne => (Below.heap_setCell _ _ _ _ (by intro e; exact hne (by rw [e]))).trans (h.block k hk hne)⟩
theorem gr_below {w V : World} {p z : Nat} (h : w.grownBy V (some p)) (hz : z ≤ p) (hs : z ≤ w.heap.size) : Below z w V :=
  ⟨h.os, h.tape, h.output, h.size, fun k hk => h.block k (by omega) (by intro e; cases e; omega)⟩
theorem gr_of_below {w V : World} {r : Option Nat} (h : Below w.heap.size w V) : w.grownBy V r := ⟨h.os, h.tape, h.output, h.size, fun k hk _ => h.block k hk⟩
theorem gr_trans {a b c : World} {r : Option Nat} (h : a.grownBy b r) (k : b.grownBy c r) : a.grownBy c r := h.trans k
/-- Behind what leaves all alone that was there, and before it. -/
theorem gr_pre {a b c : World} {r : Option Nat} (h : Below a.heap.size a b) (k : b.grownBy c r) : a.grownBy c r := (gr_of_below h).trans k

/-- A number that may be written. -/
def LeftAt (W : World) (p : Nat) (m : Int) : Prop := W.cell? ⟨p, 0, none⟩ = some (.int .i64 m) ∧ W.frozen? ⟨p, 0, none⟩ = false
theorem LeftAt.lt {W : World} {p : Nat} {m : Int} (h : LeftAt W p m) : p < W.heap.size := World.block_lt_of_cell? W ⟨p, 0, none⟩ h.1
theorem LeftAt.same {W V : World} {p : Nat} {m : Int} (h : LeftAt W p m) (e : V.heap[p]? = W.heap[p]?) : LeftAt V p m :=
  ⟨(World.cell?_of_block (w := W) (w' := V) (a := ⟨p, 0, none⟩) e).trans h.1, (World.frozen?_of_block (w := W) (w' := V) (a := ⟨p, 0, none⟩) e).trans h.2⟩
theorem LeftAt.later {W V : World} {p : Nat} {m : Int} (h : LeftAt W p m) (hb : Below W.heap.size W V) : LeftAt V p m := h.same (hb.block p h.lt)
theorem LeftAt.alloc {W : World} {p : Nat} {m : Int} (h : LeftAt W p m) (o : Obj) : LeftAt (W.alloc o) p m := h.same (Below.heap_alloc _ _ _ h.lt)
theorem LeftAt.set {W : World} {p : Nat} {m : Int} (h : LeftAt W p m) (n : Int) : LeftAt (W.setCell ⟨p, 0, none⟩ (.int .i64 n)) p n := by
  obtain ⟨h1, h2⟩ := h
  exact ⟨by simp [go_sem, h1], by simp [go_sem, h2]⟩
/-- strconv's two errors are there, below block z. -/
def LaidZ (z : Nat) (w : World) : Prop := LaidE w ∧ 0 < z ∧ 1 < z
theorem laidZ_of {w : World} (h : LaidE w) : LaidZ w.heap.size w := by
  refine ⟨h, ?_, ?_⟩
  · obtain ⟨tp, tq, p, q, h1, h2⟩ := h
    have := World.var?_cell gSyn h1 0
    exact World.block_lt_of_cell? _ _ (this.trans (by rfl : (#[Value.iface tp p] : Array Value)[0]? = some (.iface tp p)))
  · obtain ⟨tp, tq, p, q, h1, h2⟩ := h
    have := World.var?_cell gRng h2 0
    exact World.block_lt_of_cell? _ _ (this.trans (by rfl : (#[Value.iface tq q] : Array Value)[0]? = some (.iface tq q)))
theorem LaidZ.later {z : Nat} {w V : World} (h : LaidZ z w) (hb : Below z w V) : LaidZ z V := by
  obtain ⟨⟨tp, tq, p, q, h1, h2⟩, l1, l2⟩ := h
  exact ⟨⟨tp, tq, p, q, var?_below hb gSyn l1 h1, var?_below hb gRng l2 h2⟩, l1, l2⟩
end Go.Proofs.YtmfkpoojfpepaaaGreatDoor.Fl
