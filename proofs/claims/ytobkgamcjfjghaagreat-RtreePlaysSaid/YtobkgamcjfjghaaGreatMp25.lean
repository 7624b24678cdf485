/-
  Numbers put into a rising list one behind the other are the sorted list. No program here.
-/
import Derived.Test.YtobkgamcjfjghaaGreatMp19
import Derived.Test.YtobkgamcjfjghaaGreatMp18
/-
  Contract of the law's place: where an item of a number lies in a row of items.
-/
namespace Go.Proofs.YtobkgamcjfjghaaGreat.Rt
open Go.RowKit Go.Joins Go.Proofs.YtobkgamcjfjghaaGreat.Pt Go.Proofs.YtobkgamcjfjghaaGreat.Rc Go.Proofs.YtobkgamcjfjghaaGreat.Rs
set_option linter.unusedVariables false
set_option linter.unusedSimpArgs false
set_option maxHeartbeats 2000000
set_option maxRecDepth 100000
/-- An item's five cells. -/
def itC (p : R4 × Int) : List Value := [.int .i64 p.1.x1, .int .i64 p.1.y1, .int .i64 p.1.x2, .int .i64 p.1.y2, .int .i64 p.2]
theorem it_at : ∀ (xs : List (R4 × Int)) (k t : Nat) (hk : k < xs.length) (ht : t < 5), (xs.flatMap itC)[k * 5 + t]? = (itC xs[k])[t]?
  | x :: xs, 0, t, hk, ht => by
    rw [List.flatMap_cons, List.getElem?_append_left (by simp [itC]; omega)]
    simp
  | x :: xs, k + 1, t, hk, ht => by
    rw [List.flatMap_cons, List.getElem?_append_right (by simp [itC]; omega)]
    have e : (k + 1) * 5 + t - (itC x).length = k * 5 + t := by simp [itC]; omega
    rw [e]
    simpa using it_at xs k t (by simpa using hk) ht
/-- A slice that holds items. -/
def RowT (w : World) (s : Value) (l : List (R4 × Int)) : Prop := ∃ base, w.ownsRow base 36 5 s l.length (l.flatMap itC)
theorem RowT.later {w w' : World} {s : Value} {l : List (R4 × Int)} (h : RowT w s l) (hb : Below w.heap.size w w') : RowT w' s l := by
  obtain ⟨base, h1, h2⟩ := h
  refine ⟨base, h1, ?_⟩
  rcases h2 with ⟨e, e2⟩ | ⟨g, c, cur, rfl, k1, k2, k3⟩
  · exact Or.inl ⟨e, e2⟩
  · exact Or.inr ⟨g, c, cur, rfl, k1, (hb.block g (Array.getElem?_eq_some_iff.1 k2).1).trans k2, k3⟩
theorem RowT.form {w : World} {s : Value} {l : List (R4 × Int)} (h : RowT w s l) : ∃ A c, s = .slice A l.length c ∧ (0 < l.length → ∃ g, A = some ⟨g, 0, none⟩) ∧ ∀ g, A = some ⟨g, 0, none⟩ → ∀ W, Below w.heap.size w W → ∀ (j t : Nat) (hj : j < l.length), t < 5 → W.cell? ⟨g, j * 5 + t, none⟩ = (itC l[j])[t]? := by
  have hh := h
  obtain ⟨base, h1, h2⟩ := h
  rcases h2 with ⟨e, e2⟩ | ⟨g, c, cur, rfl, k1, k2, k3⟩
  · exact ⟨none, 0, by rw [e, e2], fun h => by omega, fun g hg => by cases hg⟩
  · refine ⟨some ⟨g, 0, none⟩, c, rfl, fun _ => ⟨g, rfl⟩, fun g' hg W hb j t hj ht => ?_⟩
    cases hg
    obtain ⟨base2, h3⟩ := hh.later hb
    rw [h3.cellAt (j * 5 + t) (by omega)]
    exact it_at l j t hj ht
def plc (l : List (R4 × Int)) (i : Int) : Option Nat := l.findIdx? fun p => p.2 == i
def plI (o : Option Nat) : Int := match o with
  | some k => (k : Int)
  | none => -1
def PlcR (l : List (R4 × Int)) (i : Int) (w : World) (v5 : Value) (wr : World) : Prop := ∃ j : Nat, v5 = .int .i64 (j : Int) ∧ j ≤ l.length ∧ (∀ (q : Nat) (hq : q < l.length), q < j → l[q].2 ≠ i) ∧ Below w.heap.size w wr
theorem place_any (s : Value) (l : List (R4 × Int)) (i : Int) (w : World) (h1 : RowT w s l) (hl : l.length ≤ 1000000) :
    Calls Tryz.prog 8 #[s, .int .i64 i] w fun e w' => e = .returned (.int .i64 (plI (plc l i))) ∧ Below w.heap.size w w' := by
  obtain ⟨A1, d1, rfl, g1, r1⟩ := h1.form
  have G1 := Lib.hid g1
  have R1 := Lib.hid r1
  obtain ⟨n, hn⟩ : ∃ k, k = l.length := ⟨_, rfl⟩
  have NN := Lib.hid hn
  rw [← hn]
  have hn1 : n ≤ 1000000 := by omega
  have R0 := Lib.hid (show PlcR l i w (.int .i64 0) w from ⟨0, rfl, Nat.zero_le _, fun q _ hq => absurd hq (Nat.not_lt_zero _), Below.refl _ _⟩)
  clear h1 g1 r1 hn
  go_enter Tryz.func8, Tryz.ntmps8
  go_wp2_with fail
  go_loopw [5] (fun v5 wr => PlcR l i w v5 wr) (fun v5 _ => n - (intOf v5).toNat)
  case atStart => exact R0.out
  case round =>
    clear R0
    obtain ⟨j, rfl, hj, ht, hb⟩ := hrel
    have HT := Lib.hid ht
    have HB := Lib.hid hb
    rw [← NN.out] at hj
    clear ht hb
    by_cases hlt : j < n
    · have hlz : (j : Int) < (n : Int) := by omega
      have hj0 : (0 : Int) ≤ (j : Int) := by omega
      have hjl : j < l.length := by rw [← NN.out]; exact hlt
      obtain ⟨a1, rfl⟩ := G1.out (by omega)
      obtain ⟨x, hx⟩ : ∃ x, x = l[j].2 := ⟨_, rfl⟩
      have HX := Lib.hid hx
      have c1 : wr.cell? ⟨a1, j * 5 + 4, none⟩ = some (.int .i64 x) := by
        rw [R1.out a1 rfl wr HB.out j 4 hjl (by omega), hx]
        rfl
      clear hx
      by_cases hxi : x = i
      · have FIN := Lib.hid (show plI (plc l i) = (j : Int) from by
          have : plc l i = some j := by
            unfold plc
            rw [List.findIdx?_eq_some_iff_getElem]
            refine ⟨hjl, by rw [← HX.out, hxi]; simp, fun q hq => ?_⟩
            have := HT.out q (by omega) hq
            simpa using this
          rw [this]
          rfl)
        subst hxi
        go_wp2_with fail
        go_ret
        exact ⟨by rw [FIN.out]; rfl, HB.out⟩
      · have FIN := Lib.hid (show PlcR l i w (.int .i64 ((j + 1 : Nat) : Int)) wr from ⟨j + 1, rfl, hjl, fun q hq hqj => by
          by_cases e : q = j
          · subst e
            rw [← HX.out]
            exact hxi
          · exact HT.out q hq (by omega), HB.out⟩)
        go_wp2_with fail
        go_roundw
        case rel =>
          obtain ⟨q1, e, r⟩ := FIN.out
          exact ⟨q1, by rw [← e]; go_num, r⟩
        case measure => simp [intOf]; omega
    · have hlz : ¬ (j : Int) < (n : Int) := by omega
      have FIN := Lib.hid (show plI (plc l i) = -1 from by
        have : plc l i = none := by
          unfold plc
          rw [List.findIdx?_eq_none_iff]
          intro p hp
          obtain ⟨q, hq, rfl⟩ := List.getElem_of_mem hp
          have := HT.out q hq (by rw [← NN.out] at hq; omega)
          simpa using this
        rw [this]
        rfl)
      go_wp2_with fail
      go_ret
      exact ⟨by rw [FIN.out]; rfl, HB.out⟩
end Go.Proofs.YtobkgamcjfjghaaGreat.Rt
/-
  What the document's Meet tells of two rectangles that may be: whether they meet.
-/
namespace Go.Proofs.YtobkgamcjfjghaaGreat.Rt
open Go.RowKit Go.Joins Go.Proofs.YtobkgamcjfjghaaGreat.Pt Go.Proofs.YtobkgamcjfjghaaGreat.Rc Go.Proofs.YtobkgamcjfjghaaGreat.Rs
theorem meetB_comm (a b : R4) : meetB a b = meetB b a := by
  unfold meetB
  rw [mx_comm a.x1, mx_comm a.y1, mn_comm a.x2, mn_comm a.y2]
theorem may_in {a : R4} (h : may4 a) : inR a.x1 = true ∧ inR a.y1 = true := by
  obtain ⟨h1, _, _⟩ := rmayB_iff.1 h
  exact mayB_iff.1 h1
theorem refMeet_all (a b : R4) (ha : may4 a) (hb : may4 b) (w : World) : Calls Tryz.prog 29 #[.agg #[.int .i64 a.x1, .int .i64 a.y1, .int .i64 a.x2, .int .i64 a.y2], .agg #[.int .i64 b.x1, .int .i64 b.y1, .int .i64 b.x2, .int .i64 b.y2]] w fun e w' => (∃ c : R4, e = .returned (.tuple #[.agg #[.int .i64 c.x1, .int .i64 c.y1, .int .i64 c.x2, .int .i64 c.y2], .bool (meetB a b)])) ∧ Below w.heap.size w w' := by
  obtain ⟨h1, h2⟩ := may_in ha
  obtain ⟨h3, h4⟩ := may_in hb
  cases h : meetB a b with
  | false =>
    refine (refMeet_no _ _ _ _ _ _ _ _ w h1 h2 h3 h4 h).mono ?_
    rintro e w' ⟨rfl, hb⟩
    exact ⟨⟨⟨0, 0, 0, 0⟩, rfl⟩, hb⟩
  | true =>
    refine (refMeet_yes _ _ _ _ _ _ _ _ w h1 h2 h3 h4 h).mono ?_
    rintro e w' ⟨rfl, hb⟩
    exact ⟨⟨⟨_, _, _, _⟩, rfl⟩, hb⟩
end Go.Proofs.YtobkgamcjfjghaaGreat.Rt
namespace Go.Proofs.YtobkgamcjfjghaaGreat.Rt
def insI (x : Int) (l : List Int) : List Int := l.takeWhile (fun y => decide (y < x)) ++ x :: l.dropWhile (fun y => decide (y < x))
theorem insI_perm (x : Int) (l : List Int) : (insI x l).Perm (x :: l) := by
  unfold insI
  have h : (l.takeWhile (fun y => decide (y < x)) ++ l.dropWhile (fun y => decide (y < x))) = l := List.takeWhile_append_dropWhile
  have := (List.perm_middle (a := x) (l₁ := l.takeWhile (fun y => decide (y < x))) (l₂ := l.dropWhile (fun y => decide (y < x))))
  rw [h] at this
  exact this
theorem insI_cons (x a : Int) (l : List Int) : insI x (a :: l) = if a < x then a :: insI x l else x :: a :: l := by
  unfold insI
  by_cases h : a < x
  · simp [h]
  · simp [h]
theorem insI_sorted (x : Int) : ∀ l : List Int, l.Pairwise (· ≤ ·) → (insI x l).Pairwise (· ≤ ·)
  | [], _ => by simp [insI]
  | a :: l, h => by
    obtain ⟨h1, h2⟩ := List.pairwise_cons.1 h
    rw [insI_cons]
    split
    · rename_i hax
      refine List.pairwise_cons.2 ⟨fun y hy => ?_, insI_sorted x l h2⟩
      rcases List.mem_cons.1 ((insI_perm x l).mem_iff.1 hy) with rfl | hy
      · omega
      · exact h1 y hy
    · rename_i hax
      refine List.pairwise_cons.2 ⟨fun y hy => ?_, h⟩
      rcases List.mem_cons.1 hy with rfl | hy
      · omega
      · have := h1 y hy
        omega
/-- Two rising lists of the same numbers are one. -/
theorem rising_eq : ∀ l m : List Int, l.Perm m → l.Pairwise (· ≤ ·) → m.Pairwise (· ≤ ·) → l = m
  | [], m, hp, _, _ => hp.symm.eq_nil.symm ▸ rfl
  | a :: l, [], hp, _, _ => absurd hp.eq_nil (List.cons_ne_nil _ _)
  | a :: l, b :: m, hp, hl, hm => by
    obtain ⟨l1, l2⟩ := List.pairwise_cons.1 hl
    obtain ⟨m1, m2⟩ := List.pairwise_cons.1 hm
    have hab : a = b := by
      have ha := hp.mem_iff.1 (List.mem_cons_self ..)
      have hb := hp.mem_iff.2 (List.mem_cons_self ..)
      rcases List.mem_cons.1 ha with e | ha
      · exact e
      rcases List.mem_cons.1 hb with e | hb
      · exact e.symm
      have := l1 b hb
      have := m1 a ha
      omega
    subst hab
    rw [rising_eq l m (List.perm_cons a |>.1 hp) l2 m2]
def fndI (l : List Int) : List Int := l.foldl (fun out x => insI x out) []
theorem fold_ins : ∀ (l out : List Int), out.Pairwise (· ≤ ·) → (l.foldl (fun out x => insI x out) out).Perm (l ++ out) ∧ (l.foldl (fun out x => insI x out) out).Pairwise (· ≤ ·)
  | [], out, h => ⟨List.Perm.refl _, h⟩
  | a :: l, out, h => by
    obtain ⟨p, s⟩ := fold_ins l (insI a out) (insI_sorted a out h)
    refine ⟨p.trans ?_, s⟩
    have := insI_perm a out
    rw [List.perm_iff_count] at this ⊢
    intro y
    have := this y
    simp only [List.count_append, List.count_cons, List.cons_append] at this ⊢
    omega
theorem fndI_eq {l m : List Int} (h : l.Perm m) : fndI l = m.mergeSort fun x y => decide (x ≤ y) := by
  obtain ⟨p, s⟩ := fold_ins l [] List.Pairwise.nil
  rw [List.append_nil] at p
  refine rising_eq _ _ (p.trans (h.trans (List.mergeSort_perm m _).symm)) s ?_
  have := List.pairwise_mergeSort (le := fun x y : Int => decide (x ≤ y)) (fun a b c h1 h2 => by simp at h1 h2 ⊢; omega) (fun a b => by simp; omega) m
  exact this.imp fun h => by simpa using h
theorem fndI_snoc (l : List Int) (x : Int) : fndI (l ++ [x]) = insI x (fndI l) := by
  unfold fndI
  rw [List.foldl_append]
  rfl
/-- Where it goes: behind all that are below it. -/
theorem insI_at (x : Int) : ∀ (l : List Int) (k : Nat), k ≤ l.length → (∀ (q : Nat) (hq : q < l.length), q < k → l[q] < x) → (∀ hk : k < l.length, ¬ l[k] < x) → insI x l = l.take k ++ x :: l.drop k
  | [], k, h, _, _ => by
    have : k = 0 := by simpa using h
    subst this
    rfl
  | a :: l, 0, _, _, h2 => by
    have := h2 (by simp)
    rw [insI_cons, if_neg (by simpa using this)]
    rfl
  | a :: l, k + 1, h, h1, h2 => by
    have ha : a < x := h1 0 (by simp) (by omega)
    rw [insI_cons, if_pos ha, insI_at x l k (by simpa using h) (fun q hq hk => h1 (q + 1) (by simpa using hq) (by omega)) (fun hk => h2 (by simpa using hk))]
    rfl
end Go.Proofs.YtobkgamcjfjghaaGreat.Rt
