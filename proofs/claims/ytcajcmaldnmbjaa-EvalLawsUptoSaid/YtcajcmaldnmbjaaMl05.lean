/-
  Contract of the document's answer find: a name's type in a schema. The world is as it was.
-/
import Derived.Test.YtcajcmaldnmbjaaMl04
import Derived.Test.YtcajcmaldnmbjaaMl02
import Derived.Test.YtcajcmaldnmbjaaMl03
import Derived.Lib.Bytealg
import Derived.Lib.Strings
import Derived.Laws.Cover1
import Derived.BigQuiet
import Derived.Lib.Slices
import Derived.Lib.Walk
import Derived.Laws.Strings3
import Derived.Maps.AppendAt
import Derived.Test.YtcajcmaldnmbjaaMl01
import Derived.Deep.RegionHeldLaw
import Derived.Deep.RegionHeld3
import Derived.WalkSmall
import Derived.Maps.OwnSet
import Derived.Maps.OwnIn
import Derived.Test.YtcajcmaldnmbjaaProg
import Derived.WalkKit
import Derived.WalkSpells
/-
  Contracts of package eval's functions on two values: cmp.Compare, strings.Compare, strings.HasPrefix, compare, stands, begins. Memory that was there is left as it was.
-/
namespace Go.Proofs.Ytcajcmaldnmbjaa.Ev
open Go.RowKit Go.Proofs.Ytcajcmaldnmbjaa.Fl Go.Proofs.Ytcajcmaldnmbjaa.Tk Go.Proofs.Ytcajcmaldnmbjaa.Ck
set_option linter.unusedVariables false
set_option linter.unusedSimpArgs false

def cmpI (x y : Int) : Int := if x < y then -1 else if y < x then 1 else 0
theorem isNaN_any (x : Int) (w : World) : Calls Try.prog 35 #[.int .i64 x] w fun e w' => e = .returned (.bool false) ∧ w = w' := by
  go_enter Try.func35, Try.ntmps35
  go_wp2
  go_ret
  exact ⟨by simp, rfl⟩
set_option maxHeartbeats 1000000 in
theorem cmpCompare_any (x y : Int) (w : World) : Calls Try.prog 32 #[.int .i64 x, .int .i64 y] w fun e w' => e = .returned (.int .i64 (cmpI x y)) ∧ w = w' := by
  go_enter Try.func32, Try.ntmps32
  go_wp2_with (refine (isNaN_any _ _).mono ?_; rintro e w' ⟨rfl, rfl⟩)
  all_goals (go_ret; refine ⟨?_, rfl⟩; unfold cmpI; (repeat' split) <;> first | rfl | (exfalso; omega))
theorem compareString_any (a b : ByteArray) (w : World) : Calls Try.prog 34 #[.string a, .string b] w fun e w' => e = .returned (.int .i64 (Lib.compareBytes a.data.toList b.data.toList)) ∧ w = w' := by
  go_enter Try.func34, Try.ntmps34
  go_wp2
  rw [run_callFunc_extern Try.func36 (by kernel_rfl) (by kernel_rfl) (by kernel_rfl) (e := Extern.BytealgCompare.compare) (by kernel_rfl), Lib.run_compareString]
  simp only [Result.andThen]
  rw [Oper.upon_value]
  go_wp2
  go_ret
  exact ⟨rfl, rfl⟩
theorem stringsCompare_any (a b : ByteArray) (w : World) : Calls Try.prog 31 #[.string a, .string b] w fun e w' => e = .returned (.int .i64 (Lib.compareBytes a.data.toList b.data.toList)) ∧ w = w' := by
  go_enter Try.func31, Try.ntmps31
  go_wp2_with (refine (compareString_any _ _ _).mono ?_; rintro e w' ⟨rfl, rfl⟩)
  go_ret
  exact ⟨rfl, rfl⟩
/-- How a value stands to another of its type: below 0, 0, above 0. -/
def ordA (a v : Att) : Int := if a.text then Lib.compareBytes a.str v.str else cmpI a.num v.num
theorem cmpI_lt (x y : Int) : decide (cmpI x y < 0) = decide (x < y) := by
  unfold cmpI
  refine decide_eq_decide.2 ?_
  split
  · simp_all
  · split <;> simp_all
theorem cmpI_gt (x y : Int) : decide (0 < cmpI x y) = decide (y < x) := by
  unfold cmpI
  refine decide_eq_decide.2 ?_
  split
  · simp; omega
  · split <;> simp_all
theorem bytes_ord : ∀ x y : List UInt8, (Lib.compareBytes x y = -1 ∧ x < y ∧ ¬ y < x) ∨ (Lib.compareBytes x y = 0 ∧ x = y) ∨ (Lib.compareBytes x y = 1 ∧ y < x ∧ ¬ x < y)
  | [], [] => .inr (.inl ⟨rfl, rfl⟩)
  | [], _ :: _ => .inl ⟨rfl, List.nil_lt_cons .., List.not_lt_nil _⟩
  | _ :: _, [] => .inr (.inr ⟨rfl, List.nil_lt_cons .., List.not_lt_nil _⟩)
  | a :: r, b :: s => by
    rw [Lib.compareBytes]
    rcases bytes_ord r s with ⟨h1, h2, h3⟩ | ⟨h1, h2⟩ | ⟨h1, h2, h3⟩
    all_goals
      by_cases hab : a < b
      · rw [if_pos hab]
        have : ¬ b < a := fun h => UInt8.lt_irrefl _ (UInt8.lt_trans h hab)
        have hne : ¬ b = a := fun h => UInt8.lt_irrefl _ (h ▸ hab)
        exact .inl ⟨rfl, by simp [List.cons_lt_cons_iff, hab], by simp [List.cons_lt_cons_iff, this, hne]⟩
      · rw [if_neg hab]
        by_cases hba : b < a
        · rw [if_pos hba]
          have hne : ¬ a = b := fun h => UInt8.lt_irrefl _ (h ▸ hba)
          exact .inr (.inr ⟨rfl, by simp [List.cons_lt_cons_iff, hba], by simp [List.cons_lt_cons_iff, hab, hne]⟩)
        · rw [if_neg hba]
          have e : a = b := UInt8.le_antisymm (UInt8.not_lt.1 hba) (UInt8.not_lt.1 hab)
          subst e
          simp only [List.cons_lt_cons_iff, hab, false_or, true_and, List.cons.injEq]
          first
            | exact .inl ⟨h1, h2, h3⟩
            | exact .inr (.inl ⟨h1, h2⟩)
            | exact .inr (.inr ⟨h1, h2, h3⟩)
theorem ord_cases (a v : Att) : (ordA a v = -1 ∧ (if a.text then decide (a.str < v.str) else decide (a.num < v.num)) = true ∧ (if a.text then decide (v.str < a.str) else decide (v.num < a.num)) = false ∧ (if a.text then decide (a.str = v.str) else decide (a.num = v.num)) = false) ∨
    (ordA a v = 0 ∧ (if a.text then decide (a.str < v.str) else decide (a.num < v.num)) = false ∧ (if a.text then decide (v.str < a.str) else decide (v.num < a.num)) = false ∧ (if a.text then decide (a.str = v.str) else decide (a.num = v.num)) = true) ∨
    (ordA a v = 1 ∧ (if a.text then decide (a.str < v.str) else decide (a.num < v.num)) = false ∧ (if a.text then decide (v.str < a.str) else decide (v.num < a.num)) = true ∧ (if a.text then decide (a.str = v.str) else decide (a.num = v.num)) = false) := by
  unfold ordA
  cases a.text
  · simp only [Bool.false_eq_true, if_false, decide_eq_true_eq, decide_eq_false_iff_not]
    unfold cmpI
    rcases Int.lt_trichotomy a.num v.num with h | h | h
    · left; rw [if_pos h]; omega
    · right; left; rw [if_neg (by omega), if_neg (by omega)]; omega
    · right; right; rw [if_neg (by omega), if_pos h]; omega
  · simp only [if_true, decide_eq_true_eq, decide_eq_false_iff_not]
    rcases bytes_ord a.str v.str with ⟨h1, h2, h3⟩ | ⟨h1, h2⟩ | ⟨h1, h2, h3⟩
    · exact .inl ⟨h1, h2, h3, fun e => h3 (e ▸ h2)⟩
    · refine .inr (.inl ⟨h1, ?_, ?_, h2⟩) <;> rw [h2] <;> exact List.lt_irrefl _
    · exact .inr (.inr ⟨h1, h3, h2, fun e => h3 (e ▸ h2)⟩)
/-- What the code's stands asks of the order. -/
def ordB (o : List UInt8) (r : Int) : Bool :=
  if o = [60] then decide (r < 0) else if o = [60, 61] then decide (r ≤ 0) else if o = [61] then r == 0 else if o = [33, 61] then r != 0 else if o = [62, 61] then decide (0 ≤ r) else if o = [62] then decide (0 < r) else false
theorem cmpV_ord (o : List UInt8) (a v : Att) : cmpV o a v = ((a.text == v.text) && ordB o (ordA a v)) := by
  have e : ∀ l m : Bool, standsB o l m = if o = [60] then l else if o = [60, 61] then !m else if o = [61] then !l && !m else if o = [33, 61] then l || m else if o = [62, 61] then !l else if o = [62] then m else false := fun _ _ => rfl
  have e2 : (if a.text then standsB o (decide (a.str < v.str)) (decide (v.str < a.str)) else standsB o (decide (a.num < v.num)) (decide (v.num < a.num))) = standsB o (if a.text then decide (a.str < v.str) else decide (a.num < v.num)) (if a.text then decide (v.str < a.str) else decide (v.num < a.num)) := by cases a.text <;> rfl
  unfold cmpV
  rw [e2]
  congr 1
  rcases ord_cases a v with ⟨h1, h2, h3, h4⟩ | ⟨h1, h2, h3, h4⟩ | ⟨h1, h2, h3, h4⟩ <;> rw [h1, h2, h3] <;> rw [e] <;> unfold ordB <;> (repeat' split) <;> rfl
theorem sameV_ord (a v : Att) : sameV a v = ((a.text == v.text) && ordB [61] (ordA a v)) := by
  unfold sameV
  congr 1
  rcases ord_cases a v with ⟨h1, h2, h3, h4⟩ | ⟨h1, h2, h3, h4⟩ | ⟨h1, h2, h3, h4⟩ <;> rw [h1, h4] <;> rfl
end Go.Proofs.Ytcajcmaldnmbjaa.Ev
/-
  Contracts of package eval's functions on two values, and of the document's: compare, stands, begins, a value of FIn. Memory that was there is left ax it was.
-/
namespace Go.Proofs.Ytcajcmaldnmbjaa.Ev
open Go.RowKit Go.Proofs.Ytcajcmaldnmbjaa.Fl Go.Proofs.Ytcajcmaldnmbjaa.Tk Go.Proofs.Ytcajcmaldnmbjaa.Ck
set_option linter.unusedVariables false
set_option linter.unusedSimpArgs false

theorem pre_raw (s p : ByteArray) : p.data.toList.isPrefixOf s.data.toList = (decide (p.size ≤ s.size) && ((s.extract 0 p.size).toList == p.toList)) := (Lib.hasPrefix_raw s p).symm
set_option maxHeartbeats 1000000 in
theorem prefixLite_any (s p : ByteArray) (w : World) : Calls Try.prog 33 #[.string s, .string p] w fun e w' => e = .returned (.bool (p.data.toList.isPrefixOf s.data.toList)) ∧ w = w' := by
  rw [pre_raw]
  by_cases hl : p.size ≤ s.size
  · have hz : (p.size : Int) ≤ (s.size : Int) := by omega
    go_enter Try.func33, Try.ntmps33
    go_wp2
    go_ret
    exact ⟨by simp [hl], rfl⟩
  · have hz : ¬ (p.size : Int) ≤ (s.size : Int) := by omega
    go_enter Try.func33, Try.ntmps33
    go_wp2
    go_ret
    exact ⟨by simp [hl], rfl⟩
theorem prefix_any (s p : ByteArray) (w : World) : Calls Try.prog 29 #[.string s, .string p] w fun e w' => e = .returned (.bool (p.data.toList.isPrefixOf s.data.toList)) ∧ w = w' := by
  have C := Lib.hid (prefixLite_any s p w)
  obtain ⟨r, hr⟩ : ∃ r, r = p.data.toList.isPrefixOf s.data.toList := ⟨_, rfl⟩
  rw [← hr] at C ⊢
  clear hr
  go_enter Try.func29, Try.ntmps29
  go_wp2_with (refine C.out.mono ?_; rintro e w' ⟨rfl, rfl⟩)
  go_ret
  exact ⟨rfl, rfl⟩
set_option maxHeartbeats 1000000 in
theorem refBegins_any (s p : ByteArray) (w : World) : Calls Try.prog 16 #[.string s, .string p] w fun e w' => e = .returned (.bool (p.data.toList.isPrefixOf s.data.toList)) ∧ w = w' := by
  rw [pre_raw]
  by_cases hl : p.size ≤ s.size
  · have hz : ¬ (s.size : Int) < (p.size : Int) := by omega
    go_enter Try.func16, Try.ntmps16
    go_wp2
    go_ret
    exact ⟨by simp [hl], rfl⟩
  · have hz : (s.size : Int) < (p.size : Int) := by omega
    go_enter Try.func16, Try.ntmps16
    go_wp2
    go_ret
    exact ⟨by simp [hl], rfl⟩
theorem refStands_any (o : ByteArray) (l m : Bool) (w : World) : Calls Try.prog 15 #[.string o, .bool l, .bool m] w fun e w' => e = .returned (.bool (standsB o.data.toList l m)) ∧ w = w' := by
  rw [← Lib.toList_data]
  cases l <;> cases m
  all_goals
    go_enter Try.func15, Try.ntmps15
    go_wp2
    all_goals (go_ret; exact ⟨by simp_all [standsB], rfl⟩)
set_option maxHeartbeats 1000000 in
theorem compare_any (an : ByteArray) (t : Bool) (ai : Int) (ax : ByteArray) (vn : ByteArray) (u : Bool) (vi : Int) (vs : ByteArray) (w : World) :
    Calls Try.prog 28 #[.agg #[.string an, .bool t, .int .i64 ai, .string ax], .agg #[.string vn, .bool u, .int .i64 vi, .string vs]] w fun e w' => e = .returned (.int .i64 (if t then Lib.compareBytes ax.data.toList vs.data.toList else cmpI ai vi)) ∧ Below w.heap.size w w' := by
  obtain ⟨w1, hw1⟩ : ∃ v, v = (w.alloc (.cells #[.string an, .bool t, .int .i64 ai, .string ax] 31)).alloc (.cells #[.string vn, .bool u, .int .i64 vi, .string vs] 31) := ⟨_, rfl⟩
  have hs1 : (w.alloc (.cells #[.string an, .bool t, .int .i64 ai, .string ax] 31)).heap.size = w.heap.size + 1 := by simp
  have HB := Lib.hid (show Below w.heap.size w w1 by rw [hw1]; exact ((Below.refl _ _).alloc (Nat.le_refl _) _).alloc (by rw [hs1]; omega) _)
  have HW := Lib.hid hw1
  clear hw1 hs1
  cases t with
  | true =>
    obtain ⟨r, hr⟩ : ∃ r, r = Lib.compareBytes ax.data.toList vs.data.toList := ⟨_, rfl⟩
    have C := Lib.hid (fun W => stringsCompare_any ax vs W)
    rw [← hr] at C ⊢
    go_enter Try.func28, Try.ntmps28
    go_wp2_with fail
    rw [← HW.out]
    refine Calls.mono (C.out _) ?_
    rintro e w2 ⟨rfl, rfl⟩
    go_wp2_with fail
    go_ret
    exact ⟨by simp, HB.out⟩
  | false =>
    obtain ⟨r, hr⟩ : ∃ r, r = cmpI ai vi := ⟨_, rfl⟩
    have C := Lib.hid (fun W => cmpCompare_any ai vi W)
    rw [← hr] at C ⊢
    go_enter Try.func28, Try.ntmps28
    go_wp2_with fail
    rw [← HW.out]
    refine Calls.mono (C.out _) ?_
    rintro e w2 ⟨rfl, rfl⟩
    go_wp2_with fail
    go_ret
    exact ⟨by simp, HB.out⟩
set_option maxHeartbeats 2000000 in
theorem stands_any (an : ByteArray) (t : Bool) (ai : Int) (ax : ByteArray) (o vn : ByteArray) (u : Bool) (vi : Int) (vs : ByteArray) (w : World) :
    Calls Try.prog 24 #[.agg #[.string an, .bool t, .int .i64 ai, .string ax], .string o, .agg #[.string vn, .bool u, .int .i64 vi, .string vs]] w fun e w' => e = .returned (.bool (cmpV o.data.toList ⟨an.data.toList, t, ai, ax.data.toList⟩ ⟨vn.data.toList, u, vi, vs.data.toList⟩)) ∧ Below w.heap.size w w' := by
  rw [cmpV_ord]
  obtain ⟨w1, hw1⟩ : ∃ v, v = (w.alloc (.cells #[.string an, .bool t, .int .i64 ai, .string ax] 31)).alloc (.cells #[.string vn, .bool u, .int .i64 vi, .string vs] 31) := ⟨_, rfl⟩
  have hs1 : (w.alloc (.cells #[.string an, .bool t, .int .i64 ai, .string ax] 31)).heap.size = w.heap.size + 1 := by simp
  have HB := Lib.hid (show Below w.heap.size w w1 by rw [hw1]; exact ((Below.refl _ _).alloc (Nat.le_refl _) _).alloc (by rw [hs1]; omega) _)
  have HW := Lib.hid hw1
  clear hw1 hs1
  by_cases htu : t = u
  · subst htu
    obtain ⟨r, hr⟩ : ∃ r, r = ordA ⟨an.data.toList, t, ai, ax.data.toList⟩ ⟨vn.data.toList, t, vi, vs.data.toList⟩ := ⟨_, rfl⟩
    have C := Lib.hid (fun W => compare_any an t ai ax vn t vi vs W)
    rw [show (if t = true then Lib.compareBytes ax.data.toList vs.data.toList else cmpI ai vi) = r by rw [hr]; rfl] at C
    rw [← hr, ← Lib.toList_data o]
    clear hr
    go_enter Try.func24, Try.ntmps24
    go_wp2_with fail
    rw [← HW.out]
    refine Calls.mono (C.out _) ?_
    rintro e w2 ⟨rfl, hb⟩
    have HB2 := Lib.hid (HB.out.trans (hb.mono HB.out.size))
    clear hb C HW HB
    go_wp2
    all_goals (go_ret; exact ⟨by simp_all [ordB], HB2.out⟩)
  · have hq : (t == u) = false := by simpa using htu
    go_enter Try.func24, Try.ntmps24
    go_wp2_with fail
    go_ret
    rw [← HW.out]
    exact ⟨by simp [hq], HB.out⟩
set_option maxHeartbeats 2000000 in
theorem begins_any (an : ByteArray) (t : Bool) (ai : Int) (ax : ByteArray) (vn : ByteArray) (u : Bool) (vi : Int) (vs : ByteArray) (w : World) :
    Calls Try.prog 25 #[.agg #[.string an, .bool t, .int .i64 ai, .string ax], .agg #[.string vn, .bool u, .int .i64 vi, .string vs]] w fun e w' => e = .returned (.bool (preV ⟨an.data.toList, t, ai, ax.data.toList⟩ ⟨vn.data.toList, u, vi, vs.data.toList⟩)) ∧ Below w.heap.size w w' := by
  obtain ⟨w1, hw1⟩ : ∃ v, v = (w.alloc (.cells #[.string an, .bool t, .int .i64 ai, .string ax] 31)).alloc (.cells #[.string vn, .bool u, .int .i64 vi, .string vs] 31) := ⟨_, rfl⟩
  have hs1 : (w.alloc (.cells #[.string an, .bool t, .int .i64 ai, .string ax] 31)).heap.size = w.heap.size + 1 := by simp
  have HB := Lib.hid (show Below w.heap.size w w1 by rw [hw1]; exact ((Below.refl _ _).alloc (Nat.le_refl _) _).alloc (by rw [hs1]; omega) _)
  have HW := Lib.hid hw1
  clear hw1 hs1
  unfold preV
  cases t <;> cases u
  · go_enter Try.func25, Try.ntmps25
    go_wp2_with fail
    go_ret
    rw [← HW.out]
    exact ⟨by simp, HB.out⟩
  · go_enter Try.func25, Try.ntmps25
    go_wp2_with fail
    go_ret
    rw [← HW.out]
    exact ⟨by simp, HB.out⟩
  · go_enter Try.func25, Try.ntmps25
    go_wp2_with fail
    go_ret
    rw [← HW.out]
    exact ⟨by simp, HB.out⟩
  · obtain ⟨r, hr⟩ : ∃ r, r = vs.data.toList.isPrefixOf ax.data.toList := ⟨_, rfl⟩
    have C := Lib.hid (fun W => prefix_any ax vs W)
    simp only [Bool.true_and]
    rw [← hr] at C ⊢
    clear hr
    go_enter Try.func25, Try.ntmps25
    go_wp2_with fail
    rw [← HW.out]
    refine Calls.mono (C.out _) ?_
    rintro e w2 ⟨rfl, rfl⟩
    go_wp2_with fail
    go_ret
    exact ⟨rfl, HB.out⟩
end Go.Proofs.Ytcajcmaldnmbjaa.Ev
/-
  Blocks that a call has made, and one that it may write: what is carried from world to world. No function of the program here.
-/
namespace Go.Proofs.Ytcajcmaldnmbjaa.Fl
open Go.RowKit Go.Proofs.Ytcajcmaldnmbjaa.Tk
set_option linter.unusedVariables false
set_option linter.unusedSimpArgs false

/-- Block g holds these five. -/
def Box (W : World) (g : Nat) (x0 x1 x2 x3 x4 : Value) : Prop :=
  W.cell? ⟨g, 0, none⟩ = some x0 ∧ W.cell? ⟨g, 1, none⟩ = some x1 ∧ W.cell? ⟨g, 2, none⟩ = some x2 ∧ W.cell? ⟨g, 3, none⟩ = some x3 ∧ W.cell? ⟨g, 4, none⟩ = some x4
theorem Box.new (w : World) (x0 x1 x2 x3 x4 : Value) (t : TypeId) : Box (w.alloc (.cells #[x0, x1, x2, x3, x4] t)) w.heap.size x0 x1 x2 x3 x4 := by
  refine ⟨?_, ?_, ?_, ?_, ?_⟩ <;> simp [go_sem]
theorem Box.lt {W : World} {g : Nat} {x0 x1 x2 x3 x4 : Value} (h : Box W g x0 x1 x2 x3 x4) : g < W.heap.size := World.block_lt_of_cell? W ⟨g, 0, none⟩ h.1
theorem Box.same {W V : World} {g : Nat} {x0 x1 x2 x3 x4 : Value} (h : Box W g x0 x1 x2 x3 x4) (e : V.heap[g]? = W.heap[g]?) : Box V g x0 x1 x2 x3 x4 := by
  have hq : ∀ x, V.cell? ⟨g, x, none⟩ = W.cell? ⟨g, x, none⟩ := fun x => World.cell?_of_block (w := W) (w' := V) (a := ⟨g, x, none⟩) e
  unfold Box
  simp only [hq]
  exact h
theorem Box.later {W V : World} {g : Nat} {x0 x1 x2 x3 x4 : Value} (h : Box W g x0 x1 x2 x3 x4) (hb : Below W.heap.size W V) : Box V g x0 x1 x2 x3 x4 := h.same (hb.block g h.lt)
theorem Box.gr {W V : World} {g p : Nat} {x0 x1 x2 x3 x4 : Value} (h : Box W g x0 x1 x2 x3 x4) (hg : W.grownBy V (some p)) (hne : g ≠ p) : Box V g x0 x1 x2 x3 x4 := h.same (hg.block g h.lt (by simpa using hne))

theorem gr_refl (w : World) (r : Option Nat) : w.grownBy w r := ⟨rfl, rfl, rfl, Nat.le_refl _, fun _ _ _ => rfl⟩
theorem gr_alloc {w V : World} {r : Option Nat} (h : w.grownBy V r) (o : Obj) : w.grownBy (V.alloc o) r :=
  ⟨h.os, h.tape, h.output, Nat.le_trans h.size (by simp), fun k hk hne => (Below.heap_alloc _ _ _ (Nat.lt_of_lt_of_le hk h.size)).trans (h.block k hk hne)⟩
theorem gr_drew {w V : World} {r : Option Nat} (h : w.grownBy V r) : w.grownBy V.drew r := ⟨h.os, h.tape, h.output, h.size, h.block⟩
theorem gr_set {w V : World} {p o : Nat} (h : w.grownBy V (some p)) (v : Value) : w.grownBy (V.setCell ⟨p, o, none⟩ v) (some p) :=
  ⟨h.os, h.tape, h.output, by have := h.size; simpa [World.setCell] using this, fun k hk hne => (Below.heap_setCell _ _ _ _ (by intro e; exact hne (by rw [e]))).trans (h.block k hk hne)⟩
theorem gr_below {w V : World} {p z : Nat} (h : w.grownBy V (some p)) (hz : z ≤ p) (hs : z ≤ w.heap.size) : Below z w V :=
  ⟨h.os, h.tape, h.output, h.size, fun k hk => h.block k (by omega) (by intro e; cases e; omega)⟩
theorem gr_of_below {w V : World} {r : Option Nat} (h : Below w.heap.size w V) : w.grownBy V r := ⟨h.os, h.tape, h.output, h.size, fun k hk _ => h.block k hk⟩
theorem gr_trans {a b c : World} {r : Option Nat} (h : a.grownBy b r) (k : b.grownBy c r) : a.grownBy c r := h.trans k
/-- Behind what leaves all alone that was there, and before it. -/
theorem gr_pre {a b c : World} {r : Option Nat} (h : Below a.heap.size a b) (k : b.grownBy c r) : a.grownBy c r := (gr_of_below h).trans k

/-- A number that may be written. -/
def LeftAt (W : World) (p : Nat) (m : Int) : Prop := W.cell? ⟨p, 0, none⟩ = some (.int .i64 m) ∧ W.frozen? ⟨p, 0, none⟩ = false
theorem LeftAt.lt {W : World} {p : Nat} {m : Int} (h : LeftAt W p m) : p < W.heap.size := World.block_lt_of_cell? W ⟨p, 0, none⟩ h.1
theorem LeftAt.same {W V : World} {p : Nat} {m : Int} (h : LeftAt W p m) (e : V.heap[p]? = W.heap[p]?) : LeftAt V p m :=
  ⟨(World.cell?_of_block (w := W) (w' := V) (a := ⟨p, 0, none⟩) e).trans h.1, (World.frozen?_of_block (w := W) (w' := V) (a := ⟨p, 0, none⟩) e).trans h.2⟩
theorem LeftAt.later {W V : World} {p : Nat} {m : Int} (h : LeftAt W p m) (hb : Below W.heap.size W V) : LeftAt V p m := h.same (hb.block p h.lt)
theorem LeftAt.alloc {W : World} {p : Nat} {m : Int} (h : LeftAt W p m) (o : Obj) : LeftAt (W.alloc o) p m := h.same (Below.heap_alloc _ _ _ h.lt)
theorem LeftAt.set {W : World} {p : Nat} {m : Int} (h : LeftAt W p m) (n : Int) : LeftAt (W.setCell ⟨p, 0, none⟩ (.int .i64 n)) p n := by
  obtain ⟨h1, h2⟩ := h
  exact ⟨by simp [go_sem, h1], by simp [go_sem, h2]⟩
end Go.Proofs.Ytcajcmaldnmbjaa.Fl
/-
  Contracts of may and May of package filter: may a filter be? To any depth. Memory that was there is left as it was (may: but for the number that it counts down).
-/
namespace Go.Proofs.Ytcajcmaldnmbjaa.Fl
open Go.RowKit Go.Proofs.Ytcajcmaldnmbjaa.Tk
set_option linter.unusedVariables false
set_option linter.unusedSimpArgs false

def MayR (k : Int) (d m : Nat) (ps : List Flt) (w : World) (p : Nat) (vi : Value) (wr : World) : Prop :=
  ∃ j : Nat, vi = .int .i64 (j : Nat) ∧ j ≤ ps.length ∧ Hid (okU k d m (ps.take j) = true) ∧ w.grownBy wr (some p) ∧ LeftAt wr p ((m - szL (ps.take j) : Nat) : Int)
/-- What may tells. -/
def MayEnd (f : Flt) (deep n p : Nat) (w w' : World) (e : Ending) : Prop :=
  e = .returned (.bool (mayB f deep n)) ∧ w.grownBy w' (some p) ∧ (∃ m : Int, LeftAt w' p m) ∧ (mayB f deep n = true → LeftAt w' p ((n - sz f : Nat) : Int))
theorem may_ret {f : Flt} {deep n p : Nat} {w w' : World} {e : Ending} {m : Int} (h : mayB f deep n = false) (he : e = .returned (.bool false)) (hg : w.grownBy w' (some p)) (hl : LeftAt w' p m) : MayEnd f deep n p w w' e :=
  ⟨by rw [h, he], hg, ⟨m, hl⟩, fun h' => by rw [h] at h'; cases h'⟩

theorem grb {a b c : World} {r : Option Nat} (h : a.grownBy b r) (k : Below b.heap.size b c) : a.grownBy c r := h.trans (gr_of_below k)
end Go.Proofs.Ytcajcmaldnmbjaa.Fl
/-
  Contract of May of package filter: may a filter be? Memory that was there is left as it was.
-/
namespace Go.Proofs.Ytcajcmaldnmbjaa.Fl
open Go.RowKit Go.Proofs.Ytcajcmaldnmbjaa.Tk
set_option linter.unusedVariables false
set_option linter.unusedSimpArgs false

theorem LeftAt.new (w : World) (m : Int) (t : TypeId) : LeftAt (w.alloc (.cells #[.int .i64 m] t)) w.heap.size m := by
  constructor <;> simp [go_sem]
end Go.Proofs.Ytcajcmaldnmbjaa.Fl
/-
  Contracts of package check's functions on one name and one value: is a string a name, may a value be. Memory that was there is left as it was.
-/
namespace Go.Proofs.Ytcajcmaldnmbjaa.Ck
open Go.RowKit Go.Proofs.Ytcajcmaldnmbjaa.Fl Go.Proofs.Ytcajcmaldnmbjaa.Tk
set_option linter.unusedVariables false
set_option linter.unusedSimpArgs false

theorem size0 : (⟨#[]⟩ : ByteArray).size ≤ maxLen := by show (0 : Nat) ≤ 9223372036854775807; omega
theorem size1 (c : UInt8) : (⟨#[c]⟩ : ByteArray).size ≤ maxLen := by show (1 : Nat) ≤ 9223372036854775807; omega
theorem atts_one {W : World} {g : Nat} {v : Att} (hok : attOk v) (h0 : W.cell? ⟨g, 0, none⟩ = some (bs v.name)) (h1 : W.cell? ⟨g, 1, none⟩ = some (.bool v.text)) (h2 : W.cell? ⟨g, 2, none⟩ = some (.int .i64 v.num)) (h3 : W.cell? ⟨g, 3, none⟩ = some (bs v.str)) : AttsAt W (Old W.heap.size) (some ⟨g, 0, none⟩) [v] := by
  refine ⟨by simp [maxLen], by simpa using hok, fun _ => ⟨g, 0, rfl, World.block_lt_of_cell? W ⟨g, 0, none⟩ h0, fun k hk => ?_⟩⟩
  obtain rfl : k = 0 := by simpa using hk
  exact ⟨by simpa using h0, by simpa using h1, by simpa using h2, by simpa using h3⟩
end Go.Proofs.Ytcajcmaldnmbjaa.Ck
/-
  Names and types in memory: slices of strings and of bools, to be read; carried from world to world; such arguments opened. No function of the program here.
-/
namespace Go.Proofs.Ytcajcmaldnmbjaa.Ck
open Go.RowKit Go.ChangeShapes Go.WideShapes Go.Deep Go.Joins Go.Proofs.Ytcajcmaldnmbjaa.Fl
set_option linter.unusedVariables false
set_option linter.unusedSectionVars false

/-- A slice that begins at a holds l; its block is one of S. -/
def NmsAt (W : World) (S : Nat → Prop) (a : Option Addr) (l : List Nm) : Prop :=
  l.length ≤ maxLen ∧ (∀ s ∈ l, s.length ≤ maxLen) ∧ (0 < l.length → ∃ g o, a = some ⟨g, o, none⟩ ∧ S g ∧ ∀ (k : Nat) (h : k < l.length), W.cell? ⟨g, o + k, none⟩ = some (bs l[k]))
def BlsAt (W : World) (S : Nat → Prop) (a : Option Addr) (l : List Bool) : Prop :=
  l.length ≤ maxLen ∧ (0 < l.length → ∃ g o, a = some ⟨g, o, none⟩ ∧ S g ∧ ∀ (k : Nat) (h : k < l.length), W.cell? ⟨g, o + k, none⟩ = some (.bool l[k]))
theorem NmsAt.far {W V : World} {S T : Nat → Prop} {a : Option Addr} {l : List Nm} (h : NmsAt W S a l) (hS : ∀ g, S g → T g ∧ V.heap[g]? = W.heap[g]?) : NmsAt V T a l := by
  refine ⟨h.1, h.2.1, fun h0 => ?_⟩
  obtain ⟨g, o, e, hg, hc⟩ := h.2.2 h0
  obtain ⟨ht, hh⟩ := hS g hg
  have hq : ∀ x, V.cell? ⟨g, x, none⟩ = W.cell? ⟨g, x, none⟩ := fun x => World.cell?_of_block (w := W) (w' := V) (a := ⟨g, x, none⟩) hh
  exact ⟨g, o, e, ht, fun k hk => by simp only [hq]; exact hc k hk⟩
theorem BlsAt.far {W V : World} {S T : Nat → Prop} {a : Option Addr} {l : List Bool} (h : BlsAt W S a l) (hS : ∀ g, S g → T g ∧ V.heap[g]? = W.heap[g]?) : BlsAt V T a l := by
  refine ⟨h.1, fun h0 => ?_⟩
  obtain ⟨g, o, e, hg, hc⟩ := h.2 h0
  obtain ⟨ht, hh⟩ := hS g hg
  have hq : ∀ x, V.cell? ⟨g, x, none⟩ = W.cell? ⟨g, x, none⟩ := fun x => World.cell?_of_block (w := W) (w' := V) (a := ⟨g, x, none⟩) hh
  exact ⟨g, o, e, ht, fun k hk => by simp only [hq]; exact hc k hk⟩
theorem NmsAt.later {W V : World} {z : Nat} {a : Option Addr} {l : List Nm} (h : NmsAt W (Old z) a l) (hB : Below z W V) : NmsAt V (Old z) a l := h.far fun g hg => ⟨hg, hB.block g hg⟩
theorem BlsAt.later {W V : World} {z : Nat} {a : Option Addr} {l : List Bool} (h : BlsAt W (Old z) a l) (hB : Below z W V) : BlsAt V (Old z) a l := h.far fun g hg => ⟨hg, hB.block g hg⟩
theorem NmsAt.wide {W : World} {z z' : Nat} {a : Option Addr} {l : List Nm} (h : NmsAt W (Old z) a l) (hz : z ≤ z') : NmsAt W (Old z') a l := h.far fun g hg => ⟨Nat.lt_of_lt_of_le hg hz, rfl⟩
theorem BlsAt.wide {W : World} {z z' : Nat} {a : Option Addr} {l : List Bool} (h : BlsAt W (Old z) a l) (hz : z ≤ z') : BlsAt W (Old z') a l := h.far fun g hg => ⟨Nat.lt_of_lt_of_le hg hz, rfl⟩
/-- In a world that is later, all of the memory of old there. -/
theorem NmsAt.fit {W V : World} {z : Nat} {a : Option Addr} {l : List Nm} (h : NmsAt W (Old z) a l) (hB : Below z W V) (hz : z ≤ V.heap.size) : NmsAt V (Old V.heap.size) a l := (h.later hB).wide hz
theorem BlsAt.fit {W V : World} {z : Nat} {a : Option Addr} {l : List Bool} (h : BlsAt W (Old z) a l) (hB : Below z W V) (hz : z ≤ V.heap.size) : BlsAt V (Old V.heap.size) a l := (h.later hB).wide hz
theorem attsFit {W V : World} {z : Nat} {a : Option Addr} {l : List Att} (h : AttsAt W (Old z) a l) (hB : Below z W V) (hz : z ≤ V.heap.size) : AttsAt V (Old V.heap.size) a l :=
  (h.later hB).far fun g hg => ⟨Nat.lt_of_lt_of_le hg hz, rfl⟩

section
variable {H : Type} {enc : TypeId × Value → H} {P : Program} {w : World} {base : Nat} {spare : Nat → Bool} {held : Bool}
theorem open_nms {t e : TypeId} (ht : P.underlying t = some (.slice e)) (he : P.underlying e = some .string) (hc : P.cellsOf e = 1) {fuel : Nat} {cs : List Value} {x : DataW H × List MemPlace} (h : DataW.trod enc P w base spare held fuel t cs = some x) :
    ∃ (l : List Nm) (a : Option Addr) (c : Nat), cs = [.slice a l.length c] ∧ NmsAt w (Old w.heap.size) a l := by
  obtain ⟨l, a, c, e, hm, hq⟩ := open_elems (α := Nm) (Q := fun _ v cs' => cs' = [bs v] ∧ v.length ≤ maxLen) ht hc h (fun m _ i cs' x' h' => by
    obtain ⟨s, e, _, z⟩ := DataW.trod_string he h'
    exact ⟨s.data.toList, by rw [e, bs_list], by rw [size_list]; exact z⟩) (by omega) (fun i v cs' hq => by rw [hq.1]; rfl)
  refine ⟨l, a, c, e, hm, fun v hv => ?_, fun h0 => ?_⟩
  · obtain ⟨k, hk, rfl⟩ := List.getElem_of_mem hv
    obtain ⟨g, o, _, _, hq⟩ := hq (by omega)
    obtain ⟨cs', ⟨_, h2⟩, _⟩ := hq k hk
    exact h2
  · obtain ⟨g, o, e, hg, hq⟩ := hq h0
    refine ⟨g, o, e, hg, fun k hk => ?_⟩
    obtain ⟨cs', ⟨rfl, h2⟩, h3⟩ := hq k hk
    simpa using h3 0 (by omega)
theorem open_bls {t e : TypeId} (ht : P.underlying t = some (.slice e)) (he : P.underlying e = some .bool) (hc : P.cellsOf e = 1) {fuel : Nat} {cs : List Value} {x : DataW H × List MemPlace} (h : DataW.trod enc P w base spare held fuel t cs = some x) :
    ∃ (l : List Bool) (a : Option Addr) (c : Nat), cs = [.slice a l.length c] ∧ BlsAt w (Old w.heap.size) a l := by
  obtain ⟨l, a, c, e, hm, hq⟩ := open_elems (α := Bool) (Q := fun _ v cs' => cs' = [.bool v]) ht hc h (fun m _ i cs' x' h' => by
    obtain ⟨b, e, _⟩ := DataW.trod_bool he h'
    exact ⟨b, e⟩) (by omega) (fun i v cs' hq => by rw [hq]; rfl)
  refine ⟨l, a, c, e, hm, fun h0 => ?_⟩
  obtain ⟨g, o, e, hg, hq⟩ := hq h0
  refine ⟨g, o, e, hg, fun k hk => ?_⟩
  obtain ⟨cs', rfl, h3⟩ := hq k hk
  simpa using h3 0 (by omega)
end
end Go.Proofs.Ytcajcmaldnmbjaa.Ck
/-
  Contracts of package eval: is an attribute one of some values (slices.ContainsFunc), and does a filter without parts hold of it (holdsOf)? Memory that was there is left as it was.
-/
namespace Go.Proofs.Ytcajcmaldnmbjaa.Ev
open Go.RowKit Go.Proofs.Ytcajcmaldnmbjaa.Fl Go.Proofs.Ytcajcmaldnmbjaa.Tk Go.Proofs.Ytcajcmaldnmbjaa.Ck
set_option linter.unusedVariables false
set_option linter.unusedSimpArgs false

theorem same_cmp (a v : Att) : cmpV [61] a v = sameV a v := by rw [cmpV_ord, sameV_ord]
/-- Does a filter of kind k hold of the attribute that it names? -/
def ofH (k : Int) (o : List UInt8) (vs : List Att) (a : Att) : Bool :=
  match vs with
  | [] => false
  | v :: r => if k = 4 then cmpV o a v else if k = 5 then preV a v else if k = 6 then (v :: r).any (sameV a) else false
theorem leaf_of (l : List Att) (k : Int) (n o : List UInt8) (vs : List Att) : leafH l k n o vs = match attOf l n with | none => false | some a => ofH k o vs a := by
  unfold leafH ofH
  rfl
set_option maxHeartbeats 1000000 in
theorem eqv_any (p : Nat) (an : ByteArray) (t : Bool) (ai : Int) (ax vn : ByteArray) (u : Bool) (vi : Int) (vs : ByteArray) (w : World) (hp : Blk w p (.string an) (.bool t) (.int .i64 ai) (.string ax)) :
    Calls Try.prog 27 #[.agg #[.string vn, .bool u, .int .i64 vi, .string vs], .pointer (some ⟨p, 0, none⟩)] w fun e w' => e = .returned (.bool (sameV ⟨an.data.toList, t, ai, ax.data.toList⟩ ⟨vn.data.toList, u, vi, vs.data.toList⟩)) ∧ Below w.heap.size w w' := by
  obtain ⟨w1, hw1⟩ : ∃ v, v = (w.alloc (.cells #[.string vn, .bool u, .int .i64 vi, .string vs] 31)) := ⟨_, rfl⟩
  have HB := Lib.hid (show Below w.heap.size w w1 by rw [hw1]; exact ((Below.refl _ _).alloc (Nat.le_refl _) _))
  have C := Lib.hid (fun W => stands_any an t ai ax ⟨#[61]⟩ vn u vi vs W)
  rw [show (⟨#[61]⟩ : ByteArray).data.toList = [61] from rfl, same_cmp] at C
  obtain ⟨r, hr⟩ : ∃ r, r = sameV ⟨an.data.toList, t, ai, ax.data.toList⟩ ⟨vn.data.toList, u, vi, vs.data.toList⟩ := ⟨_, rfl⟩
  rw [← hr] at C ⊢
  obtain ⟨x0, x1, x2, x3, xf, xl⟩ := hp.later (show Below w.heap.size w (w.alloc (.cells #[.string vn, .bool u, .int .i64 vi, .string vs] 31)) from (Below.refl _ _).alloc (Nat.le_refl _) _)
  have HW := Lib.hid hw1
  clear hr hw1 xf hp
  go_enter Try.func27, Try.ntmps27
  go_wp2_with fail
  rw [← HW.out]
  refine Calls.mono (C.out _) ?_
  rintro e w2 ⟨rfl, hb⟩
  have HB2 := Lib.hid (HB.out.trans (hb.mono HB.out.size))
  clear hb
  go_wp2_with fail
  go_ret
  exact ⟨rfl, HB2.out⟩
/-- Is there none among the first k? -/
def IxR (bad : Att → Bool) (vs : List Att) (w : World) (vi : Value) (wr : World) : Prop :=
  ∃ k : Nat, k ≤ vs.length ∧ vi = .int .i64 k ∧ Hid (∀ v ∈ vs.take k, bad v = false) ∧ Below w.heap.size w wr
theorem none_more {α : Type} {bad : α → Bool} {vs : List α} {k : Nat} {v : α} (h : ∀ v ∈ vs.take k, bad v = false) (hk : vs[k]? = some v) (hv : bad v = false) : ∀ v ∈ vs.take (k + 1), bad v = false := by
  rw [List.take_add_one, hk]
  intro u hu
  rcases List.mem_append.1 hu with hu | hu
  · exact h u hu
  · simp at hu
    rw [hu]
    exact hv

set_option maxHeartbeats 2000000 in
set_option maxRecDepth 100000 in
theorem eqv_index (p : Nat) (an : ByteArray) (t : Bool) (ai : Int) (ax : ByteArray) (vs : List Att) (av : Option Addr) (cap : Nat) (w : World) (h : AttsAt w (Old w.heap.size) av vs) (hp : Blk w p (.string an) (.bool t) (.int .i64 ai) (.string ax)) :
    Calls Try.prog 30 #[.slice av vs.length cap, .func (.func 27) #[] #[.pointer (some ⟨p, 0, none⟩)]] w fun e w' =>
      (∃ k : Nat, e = .returned (.int .i64 (k : Nat)) ∧ vs.any (sameV ⟨an.data.toList, t, ai, ax.data.toList⟩) = true ∨ e = .returned (.int .i64 (-1)) ∧ vs.any (sameV ⟨an.data.toList, t, ai, ax.data.toList⟩) = false) ∧ Below w.heap.size w w' := by
  obtain ⟨bad, hbad⟩ : ∃ x : Att → Bool, x = (sameV ⟨an.data.toList, t, ai, ax.data.toList⟩) := ⟨_, rfl⟩
  have CC := Lib.hid (show ∀ (v : Att), attOk v → ∀ W, Below w.heap.size w W → Calls Try.prog 27 #[.agg #[bs v.name, .bool v.text, .int .i64 v.num, bs v.str], .pointer (some ⟨p, 0, none⟩)] W fun e w' => e = .returned (.bool (bad v)) ∧ Below W.heap.size W w' by
    rw [hbad]
    intro v hv W hW
    exact eqv_any p an t ai ax ⟨v.name.toArray⟩ v.text v.num ⟨v.str.toArray⟩ W (hp.later hW))
  rw [← hbad]
  obtain ⟨res, hres⟩ : ∃ b, vs.any bad = b := ⟨_, rfl⟩
  have HR := Lib.hid hres
  rw [hres]
  clear hres hbad
  obtain ⟨n, hn⟩ : ∃ n, n = vs.length := ⟨_, rfl⟩
  have hm : n ≤ 9223372036854775807 := by have := h.1; unfold maxLen at this; omega
  have HN := Lib.hid hn
  have HA := Lib.hid h
  rw [← hn]
  clear hn h hp
  go_enter Try.func30, Try.ntmps30
  go_wp2_with fail
  go_loopw [8] (fun vi wr => IxR bad vs w vi wr) (fun vi _ => n - (intOf vi).toNat)
  case atStart => exact ⟨0, Nat.zero_le _, rfl, Lib.hid (by simp), Below.refl _ _⟩
  case round =>
    obtain ⟨k, hk, rfl, hall, hB⟩ := hrel
    have HK := Lib.hid hk
    have HB := Lib.hid hB
    clear hk hB
    by_cases hlt : k < n
    · have hlz : (k : Int) < (n : Int) := by omega
      have hkl : k < vs.length := by rw [← HN.out]; exact hlt
      obtain ⟨g, o, hg, hgl, hc⟩ := (HA.out.later HB.out).2.2 (by omega)
      obtain ⟨c0, c1, c2, c3⟩ := hc k hkl
      obtain ⟨V, hV⟩ : ∃ V, V = vs[k] := ⟨_, rfl⟩
      rw [← hV] at c0 c1 c2 c3
      have HVK := Lib.hid (show vs[k]? = some V by rw [hV]; exact List.getElem?_eq_getElem hkl)
      have HOK := Lib.hid (HA.out.2.1 V (List.mem_of_getElem? HVK.out))
      obtain ⟨sn, e0, hsn⟩ := bs_bytes V.name
      obtain ⟨ss, e3, hss⟩ := bs_bytes V.str
      obtain ⟨tx, htx⟩ : ∃ x, x = V.text := ⟨_, rfl⟩
      obtain ⟨nm, hnm⟩ : ∃ x, x = V.num := ⟨_, rfl⟩
      have CV := Lib.hid (CC.out V HOK.out)
      rw [e0, e3, ← htx, ← hnm] at CV
      rw [e0] at c0
      rw [← htx] at c1
      rw [← hnm] at c2
      rw [e3] at c3
      obtain rfl := hg
      clear hc hV e0 hsn e3 hss htx hnm hgl
      cases hv : bad V
      · have HF := Lib.hid (none_more hall.out HVK.out hv)
        rw [hv] at CV
        clear hv
        go_wp2_with fail
        refine Calls.mono (CV.out wr HB.out) ?_
        rintro e w1 ⟨rfl, hb⟩
        have HB1 := Lib.hid (HB.out.trans (hb.mono HB.out.size))
        clear hb
        go_wp2_with fail
        go_roundw
        case rel => exact ⟨k + 1, by omega, by go_num, HF, HB1.out⟩
        case measure => simp [intOf]; omega
      · have HF := Lib.hid (show res = true by rw [← HR.out, List.any_eq_true]; exact ⟨V, List.mem_of_getElem? HVK.out, hv⟩)
        rw [hv] at CV
        clear hv
        go_wp2_with fail
        refine Calls.mono (CV.out wr HB.out) ?_
        rintro e w1 ⟨rfl, hb⟩
        have HB1 := Lib.hid (HB.out.trans (hb.mono HB.out.size))
        clear hb
        go_wp2_with fail
        go_ret
        exact ⟨⟨k, Or.inl ⟨rfl, HF.out⟩⟩, HB1.out⟩
    · have hlz : ¬ (k : Int) < (n : Int) := by omega
      have hkk : k = n := by have := HN.out; have := HK.out; omega
      have HF := Lib.hid (show res = false by
        have := hall.out
        rw [hkk, HN.out, List.take_length] at this
        rw [← HR.out, List.any_eq_false]
        exact fun x hx => by rw [this x hx]; simp)
      go_wp2_with fail
      go_ret
      exact ⟨⟨0, Or.inr ⟨rfl, HF.out⟩⟩, HB.out⟩
set_option maxHeartbeats 2000000 in
set_option maxRecDepth 100000 in
theorem eqv_contains (p : Nat) (an : ByteArray) (t : Bool) (ai : Int) (ax : ByteArray) (vs : List Att) (av : Option Addr) (cap : Nat) (w : World) (h : AttsAt w (Old w.heap.size) av vs) (hp : Blk w p (.string an) (.bool t) (.int .i64 ai) (.string ax)) :
    Calls Try.prog 26 #[.slice av vs.length cap, .func (.func 27) #[] #[.pointer (some ⟨p, 0, none⟩)]] w fun e w' => e = .returned (.bool (vs.any (sameV ⟨an.data.toList, t, ai, ax.data.toList⟩))) ∧ Below w.heap.size w w' := by
  have HC := Lib.hid (eqv_index p an t ai ax vs av cap w h hp)
  obtain ⟨res, hres⟩ : ∃ b, vs.any (sameV ⟨an.data.toList, t, ai, ax.data.toList⟩) = b := ⟨_, rfl⟩
  rw [hres] at HC ⊢
  obtain ⟨n, hn⟩ : ∃ n, n = vs.length := ⟨_, rfl⟩
  rw [← hn] at HC ⊢
  clear hn hres h hp
  go_enter Try.func26, Try.ntmps26
  go_wp2_with fail
  refine HC.out.mono ?_
  rintro e w1 ⟨⟨k, h⟩, hb⟩
  rcases h with ⟨rfl, rfl⟩ | ⟨rfl, rfl⟩
  · have hk : (0 : Int) ≤ (k : Int) := by omega
    go_wp2_with fail
    go_ret
    exact ⟨rfl, hb⟩
  · go_wp2_with fail
    go_ret
    exact ⟨rfl, hb⟩

theorem of_nil (k : Int) (o : List UInt8) (a : Att) : ofH k o [] a = false := rfl
def AttL (an : ByteArray) (t : Bool) (ai : Int) (ax : ByteArray) : Att := ⟨an.data.toList, t, ai, ax.data.toList⟩
set_option maxHeartbeats 4000000 in
set_option maxRecDepth 100000 in
theorem holdsOf_any (k : Int) (sn so : ByteArray) (vs : List Att) (av : Option Addr) (c : Nat) (b : Option Addr) (nl d : Nat) (an : ByteArray) (t : Bool) (ai : Int) (ax : ByteArray) (w : World) (hA : AttsAt w (Old w.heap.size) av vs) :
    Calls Try.prog 22 #[.agg #[.int .i64 k, .string sn, .string so, .slice av vs.length c, .slice b nl d], .agg #[.string an, .bool t, .int .i64 ai, .string ax]] w fun e w' => e = .returned (.bool (ofH k so.data.toList vs (AttL an t ai ax))) ∧ Below w.heap.size w w' := by
  obtain ⟨res, hres⟩ : ∃ r, r = ofH k so.data.toList vs (AttL an t ai ax) := ⟨_, rfl⟩
  have HRES := Lib.hid hres
  obtain ⟨n, hn⟩ : ∃ n, n = vs.length := ⟨_, rfl⟩
  have HN := Lib.hid hn
  have HA := Lib.hid hA
  have CC := Lib.hid (fun p W h1 h2 => eqv_contains p an t ai ax vs av c W h1 h2)
  rw [← hn] at CC
  rw [← hres, ← hn]
  clear hres hn hA
  obtain ⟨w1, hw1⟩ : ∃ v, v = w.alloc (.cells #[.int .i64 k, .string sn, .string so, .slice av n c, .slice b nl d] 25) := ⟨_, rfl⟩
  have hs1 : w1.heap.size = w.heap.size + 1 := by rw [hw1]; simp
  have HB1 := Lib.hid (show Below w.heap.size w w1 by rw [hw1]; exact (Below.refl _ _).alloc (Nat.le_refl _) _)
  have X1 := Lib.hid (show Box w1 w.heap.size (.int .i64 k) (.string sn) (.string so) (.slice av n c) (.slice b nl d) by rw [hw1]; exact Box.new ..)
  have HW1 := Lib.hid hw1
  obtain ⟨w2, hw2⟩ : ∃ v, v = w1.alloc (.cells #[.string an, .bool t, .int .i64 ai, .string ax] 31) := ⟨_, rfl⟩
  have HB12 := Lib.hid (show Below w1.heap.size w1 w2 by rw [hw2]; exact (Below.refl _ _).alloc (Nat.le_refl _) _)
  have HB := Lib.hid (HB1.out.trans (HB12.out.mono HB1.out.size))
  have X2 := Lib.hid (X1.out.later HB12.out)
  have Z2 := Lib.hid (show Blk w2 (w.heap.size + 1) (.string an) (.bool t) (.int .i64 ai) (.string ax) by rw [hw2, ← hs1]; exact Blk.new ..)
  have HW2 := Lib.hid hw2
  have HS1 := Lib.hid hs1
  have HA2 := Lib.hid (attsFit HA.out HB.out HB.out.size)
  clear hw1 hw2 hs1
  obtain ⟨p0, p1, p2, p3, p4⟩ := X2.out
  obtain ⟨z0, z1, z2, z3, -, -⟩ := Z2.out
  by_cases hv0 : vs = []
  · have hn0 : n = 0 := by rw [HN.out, hv0]; rfl
    subst hn0
    have HF := Lib.hid (show res = false by rw [HRES.out, hv0]; rfl)
    clear hv0
    by_cases h4 : k = 4
    · subst h4
      go_enter Try.func22, Try.ntmps22
      go_wp2_with fail
      rw [← HW1.out, ← HW2.out]
      go_big_quiet (fail)
      go_wp2_with fail
      go_ret
      exact ⟨by rw [HF.out]; rfl, below_drewN HB.out _⟩
    · by_cases h5 : k = 5
      · subst h5
        go_enter Try.func22, Try.ntmps22
        go_wp2_with fail
        rw [← HW1.out, ← HW2.out]
        go_big_quiet (fail)
        go_wp2_with fail
        go_ret
        exact ⟨by rw [HF.out]; rfl, below_drewN HB.out _⟩
      · by_cases h6 : k = 6
        · subst h6
          have CE := Lib.hid (CC.out (w.heap.size + 1) w2 HA2.out Z2.out)
          rw [show vs = [] from List.eq_nil_of_length_eq_zero HN.out.symm, List.any_nil] at CE
          go_enter Try.func22, Try.ntmps22
          go_wp2_with fail
          rw [← HW1.out, ← HW2.out]
          go_wp2_with fail
          refine Calls.mono CE.out ?_
          rintro e w3 ⟨rfl, hb⟩
          have HB3 := Lib.hid (HB.out.trans (hb.mono HB.out.size))
          clear hb
          go_wp2_with fail
          go_ret
          exact ⟨by rw [HF.out]; rfl, HB3.out⟩
        · go_enter Try.func22, Try.ntmps22
          go_wp2_with fail
          rw [← HW1.out, ← HW2.out]
          go_wp2_with fail
          go_ret
          exact ⟨by rw [HF.out]; rfl, HB.out⟩
  · have hpos : 0 < n := by rw [HN.out]; exact List.length_pos_iff.2 hv0
    have hpz : (0 : Int) < (n : Int) := by omega
    obtain ⟨V, R, hvr⟩ := List.exists_cons_of_ne_nil hv0
    have HVR := Lib.hid hvr
    obtain ⟨g, o, hg, hgl, hc⟩ := HA.out.2.2 (by rw [← HN.out]; exact hpos)
    obtain ⟨c0, c1, c2, c3⟩ := hc 0 (by rw [← HN.out]; exact hpos)
    simp only [hvr, List.getElem_cons_zero, Nat.zero_mul, Nat.add_zero] at c0 c1 c2 c3
    obtain ⟨vn, e0, hvn⟩ := bs_bytes V.name
    obtain ⟨vx, e3, hvx⟩ := bs_bytes V.str
    obtain ⟨tx, htx⟩ : ∃ x, x = V.text := ⟨_, rfl⟩
    obtain ⟨nm, hnm⟩ : ∃ x, x = V.num := ⟨_, rfl⟩
    rw [e0] at c0
    rw [← htx] at c1
    rw [← hnm] at c2
    rw [e3] at c3
    have HVV := Lib.hid (show V = AttL vn tx nm vx by unfold AttL; rw [hvn, hvx, htx, hnm])
    have HGL := Lib.hid hgl
    have HC := Lib.hid (And.intro c0 (And.intro c1 (And.intro c2 c3)))
    subst hg
    clear hv0 hvr hc e0 hvn e3 hvx htx hnm hgl c0 c1 c2 c3
    have HS := Lib.hid (show ∀ W, Below w2.heap.size w2 W → (fun W => W.cell? ⟨w.heap.size, 0, none⟩ = some (.int .i64 k) ∧ W.cell? ⟨w.heap.size, 1, none⟩ = some (.string sn) ∧ W.cell? ⟨w.heap.size, 2, none⟩ = some (.string so) ∧ W.cell? ⟨w.heap.size, 3, none⟩ = some (.slice (some ⟨g, o, none⟩) n c) ∧ W.cell? ⟨w.heap.size, 4, none⟩ = some (.slice b nl d) ∧ W.cell? ⟨w.heap.size + 1, 0, none⟩ = some (.string an) ∧ W.cell? ⟨w.heap.size + 1, 1, none⟩ = some (.bool t) ∧ W.cell? ⟨w.heap.size + 1, 2, none⟩ = some (.int .i64 ai) ∧ W.cell? ⟨w.heap.size + 1, 3, none⟩ = some (.string ax) ∧ W.cell? ⟨g, o, none⟩ = some (.string vn) ∧ W.cell? ⟨g, o + 1, none⟩ = some (.bool tx) ∧ W.cell? ⟨g, o + 2, none⟩ = some (.int .i64 nm) ∧ W.cell? ⟨g, o + 3, none⟩ = some (.string vx) ∧ Below w2.heap.size w2 W) W from fun W hW => by
      have hB := HB.out.trans (hW.mono HB.out.size)
      obtain ⟨q0, q1, q2, q3, q4⟩ := X2.out.later hW
      obtain ⟨y0, y1, y2, y3, -, -⟩ := Z2.out.later hW
      exact ⟨q0, q1, q2, q3, q4, y0, y1, y2, y3, (hB.cell (p := ⟨g, o, none⟩) HGL.out).trans HC.out.1, (hB.cell (p := ⟨g, o + 1, none⟩) HGL.out).trans HC.out.2.1, (hB.cell (p := ⟨g, o + 2, none⟩) HGL.out).trans HC.out.2.2.1, (hB.cell (p := ⟨g, o + 3, none⟩) HGL.out).trans HC.out.2.2.2, hW⟩)
    have HD0 := Lib.hid (show Below w2.heap.size w2 w2.drew from (Below.refl _ _).drew)
    by_cases h4 : k = 4
    · subst h4
      have C := Lib.hid (fun W => stands_any an t ai ax so vn tx nm vx W)
      rw [show (⟨an.data.toList, t, ai, ax.data.toList⟩ : Att) = AttL an t ai ax from rfl, show (⟨vn.data.toList, tx, nm, vx.data.toList⟩ : Att) = AttL vn tx nm vx from rfl, ← HVV.out, show cmpV so.data.toList (AttL an t ai ax) V = res by rw [HRES.out, HVR.out]; rfl] at C
      clear p0 p1 p2 p3 p4 z0 z1 z2 z3
      go_enter Try.func22, Try.ntmps22
      go_wp2_with fail
      rw [← HW1.out, ← HW2.out]
      go_region_held3 (fun W => W.cell? ⟨w.heap.size, 0, none⟩ = some (.int .i64 4) ∧ W.cell? ⟨w.heap.size, 1, none⟩ = some (.string sn) ∧ W.cell? ⟨w.heap.size, 2, none⟩ = some (.string so) ∧ W.cell? ⟨w.heap.size, 3, none⟩ = some (.slice (some ⟨g, o, none⟩) n c) ∧ W.cell? ⟨w.heap.size, 4, none⟩ = some (.slice b nl d) ∧ W.cell? ⟨w.heap.size + 1, 0, none⟩ = some (.string an) ∧ W.cell? ⟨w.heap.size + 1, 1, none⟩ = some (.bool t) ∧ W.cell? ⟨w.heap.size + 1, 2, none⟩ = some (.int .i64 ai) ∧ W.cell? ⟨w.heap.size + 1, 3, none⟩ = some (.string ax) ∧ W.cell? ⟨g, o, none⟩ = some (.string vn) ∧ W.cell? ⟨g, o + 1, none⟩ = some (.bool tx) ∧ W.cell? ⟨g, o + 2, none⟩ = some (.int .i64 nm) ∧ W.cell? ⟨g, o + 3, none⟩ = some (.string vx) ∧ Below w2.heap.size w2 W)
        (first | exact HS.out _ HD0.out | exact HS.out _ HB1a.out)
        (first | (go_at_call 24; have HX := Lib.hid ((And.right <| And.right <| And.right <| And.right <| And.right <| And.right <| And.right <| And.right <| And.right <| And.right <| And.right <| And.right <| And.right <| (by assumption))); refine Calls.mono (C.out _) ?_; rintro e w3 ⟨rfl, hb⟩; have HB1a := Lib.hid (HX.out.trans (hb.mono HX.out.size)); clear hb))
      go_wp2_with fail
      go_ret
      exact ⟨rfl, HB.out.trans (HB1a.out.mono HB.out.size)⟩
    · by_cases h5 : k = 5
      · subst h5
        have C := Lib.hid (fun W => begins_any an t ai ax vn tx nm vx W)
        rw [show (⟨an.data.toList, t, ai, ax.data.toList⟩ : Att) = AttL an t ai ax from rfl, show (⟨vn.data.toList, tx, nm, vx.data.toList⟩ : Att) = AttL vn tx nm vx from rfl, ← HVV.out, show preV (AttL an t ai ax) V = res by rw [HRES.out, HVR.out]; rfl] at C
        clear p0 p1 p2 p3 p4 z0 z1 z2 z3
        go_enter Try.func22, Try.ntmps22
        go_wp2_with fail
        rw [← HW1.out, ← HW2.out]
        go_region_held3 (fun W => W.cell? ⟨w.heap.size, 0, none⟩ = some (.int .i64 5) ∧ W.cell? ⟨w.heap.size, 1, none⟩ = some (.string sn) ∧ W.cell? ⟨w.heap.size, 2, none⟩ = some (.string so) ∧ W.cell? ⟨w.heap.size, 3, none⟩ = some (.slice (some ⟨g, o, none⟩) n c) ∧ W.cell? ⟨w.heap.size, 4, none⟩ = some (.slice b nl d) ∧ W.cell? ⟨w.heap.size + 1, 0, none⟩ = some (.string an) ∧ W.cell? ⟨w.heap.size + 1, 1, none⟩ = some (.bool t) ∧ W.cell? ⟨w.heap.size + 1, 2, none⟩ = some (.int .i64 ai) ∧ W.cell? ⟨w.heap.size + 1, 3, none⟩ = some (.string ax) ∧ W.cell? ⟨g, o, none⟩ = some (.string vn) ∧ W.cell? ⟨g, o + 1, none⟩ = some (.bool tx) ∧ W.cell? ⟨g, o + 2, none⟩ = some (.int .i64 nm) ∧ W.cell? ⟨g, o + 3, none⟩ = some (.string vx) ∧ Below w2.heap.size w2 W)
          (first | exact HS.out _ HD0.out | exact HS.out _ HB1a.out)
          (first | (go_at_call 25; have HX := Lib.hid ((And.right <| And.right <| And.right <| And.right <| And.right <| And.right <| And.right <| And.right <| And.right <| And.right <| And.right <| And.right <| And.right <| (by assumption))); refine Calls.mono (C.out _) ?_; rintro e w3 ⟨rfl, hb⟩; have HB1a := Lib.hid (HX.out.trans (hb.mono HX.out.size)); clear hb))
        go_wp2_with fail
        go_ret
        exact ⟨rfl, HB.out.trans (HB1a.out.mono HB.out.size)⟩
      · by_cases h6 : k = 6
        · subst h6
          have CE := Lib.hid (CC.out (w.heap.size + 1) w2 HA2.out Z2.out)
          rw [show vs.any (sameV ⟨an.data.toList, t, ai, ax.data.toList⟩) = res by rw [HRES.out, HVR.out]; rfl] at CE
          go_enter Try.func22, Try.ntmps22
          go_wp2_with fail
          rw [← HW1.out, ← HW2.out]
          go_wp2_with fail
          refine Calls.mono CE.out ?_
          rintro e w3 ⟨rfl, hb⟩
          have HB3 := Lib.hid (HB.out.trans (hb.mono HB.out.size))
          clear hb
          go_wp2_with fail
          go_ret
          exact ⟨rfl, HB3.out⟩
        · have HF := Lib.hid (show res = false by rw [HRES.out, HVR.out]; show (if k = 4 then _ else if k = 5 then _ else if k = 6 then _ else false) = false; rw [if_neg h4, if_neg h5, if_neg h6])
          go_enter Try.func22, Try.ntmps22
          go_wp2_with fail
          rw [← HW1.out, ← HW2.out]
          go_wp2_with fail
          go_ret
          exact ⟨by rw [HF.out]; rfl, HB.out⟩
end Go.Proofs.Ytcajcmaldnmbjaa.Ev
/-
  Attributes by their names: what a map of pointers to them holds. No function of the program here.
-/
namespace Go.Proofs.Ytcajcmaldnmbjaa.Ev
open Go.RowKit Go.Maps Go.Proofs.Ytcajcmaldnmbjaa.Fl Go.Proofs.Ytcajcmaldnmbjaa.Tk Go.Proofs.Ytcajcmaldnmbjaa.Ck
set_option linter.unusedVariables false
set_option linter.unusedSimpArgs false

/-- How a pointer into block g reads. -/
def pR (g : Nat) (v : Value) : Option (DataW Unit × List MemPlace) :=
  match v with
  | .pointer none => some (.nil, [])
  | .pointer (some ⟨b, o, none⟩) => if b = g then some (.lit (.int .i64 (o : Nat)), []) else none
  | _ => none
theorem pR_nil {g : Nat} {v : Value} {ps : List MemPlace} (h : pR g v = some (.nil, ps)) : v = .pointer none := by
  unfold pR at h
  split at h
  · rfl
  · split at h <;> simp at h
  · cases h
theorem pR_at {g o : Nat} {v : Value} {ps : List MemPlace} (h : pR g v = some (.lit (.int .i64 (o : Nat)), ps)) : v = .pointer (some ⟨g, o, none⟩) := by
  unfold pR at h
  split at h
  · simp at h
  · split at h
    · rename_i b o' hb
      subst hb
      simp at h
      rw [show o' = o by omega]
    · cases h
  · cases h
theorem pR_mk (g o : Nat) : pR g (.pointer (some ⟨g, o, none⟩)) = some (.lit (.int .i64 (o : Nat)), []) := by simp [pR]
/-- Where the first of a name lies, as a map's element; i: the first one's place. -/
def posD (o : Nat) : Nat → List Att → List UInt8 → DataW Unit
  | _, [], _ => .nil
  | i, a :: l, x => if a.name = x then .lit (.int .i64 ((o + i * 4 : Nat) : Int)) else posD o (i + 1) l x
theorem posD_cases (o : Nat) : ∀ (i : Nat) (l : List Att) (x : List UInt8), (posD o i l x = .nil ∧ attOf l x = none) ∨ ∃ k a, l[k]? = some a ∧ attOf l x = some a ∧ posD o i l x = .lit (.int .i64 ((o + (i + k) * 4 : Nat) : Int))
  | i, [], x => .inl ⟨rfl, rfl⟩
  | i, a :: l, x => by
    rw [posD, attOf]
    by_cases h : a.name = x
    · rw [if_pos h, if_pos h]
      exact .inr ⟨0, a, rfl, rfl, rfl⟩
    · rw [if_neg h, if_neg h]
      rcases posD_cases o (i + 1) l x with h1 | ⟨k, b, h1, h2, h3⟩
      · exact .inl h1
      · exact .inr ⟨k + 1, b, by simpa using h1, h2, by rw [h3, show i + 1 + k = i + (k + 1) by omega]⟩
/-- What find tells: nil, or where the first of the name lies. -/
def PtrOf (la : Option Addr) (l : List Att) (x : List UInt8) (v : Value) : Prop :=
  (v = .pointer none ∧ attOf l x = none) ∨ ∃ g o k a, la = some ⟨g, o, none⟩ ∧ v = .pointer (some ⟨g, o + k * 4, none⟩) ∧ l[k]? = some a ∧ attOf l x = some a
theorem lawP : Keyed Try.prog 9 := string_keyed Try.underlying9
theorem zeroP (w : World) : (zeroValue 45).run Try.prog w = .ok (.pointer none) w := by kernel_rfl
theorem key_st {x : ByteArray} (h : x.size ≤ maxLen) : keyOf Try.prog 9 (.string x) = some (.string x.data.toList) := by
  simp [keyOf, mapKey, Try.underlying9]
  exact h
/-- A map that leads from each name to the first one of that name. -/
def MapAt (W : World) (b m g o i : Nat) (l : List Att) : Prop := ∃ D : DataW Unit, W.ownsMap Try.prog 9 (pR g) b m D ∧ ∀ x : List UInt8, D.atKey (.string x) .nil = posD o i l x
theorem MapAt.lt {W : World} {b m g o i : Nat} {l : List Att} (h : MapAt W b m g o i l) : b < W.heap.size := by
  obtain ⟨D, h, _⟩ := h
  exact h.lt
theorem MapAt.gr {W V : World} {b m g o i : Nat} {l : List Att} {row : Option Nat} (h : MapAt W b m g o i l) (hg : W.grownBy V row) (hne : some b ≠ row) : MapAt V b m g o i l := by
  obtain ⟨D, h, h2⟩ := h
  exact ⟨D, h.kept hg hne, h2⟩
theorem MapAt.later {W V : World} {b m g o i : Nat} {l : List Att} (h : MapAt W b m g o i l) (hB : Below W.heap.size W V) : MapAt V b m g o i l := h.gr (gr_of_below (r := none) hB) (by simp)
theorem mapAt_made (w : World) (g o i : Nat) : MapAt (w.alloc (.map #[] 0)) w.heap.size 0 g o i [] := ⟨_, World.ownsMap_made w _ _ _, fun x => by rfl⟩
theorem put_pos {D : DataW Unit} {o i : Nat} {l : List Att} {a : Att} (hm : IsMap D) (h : ∀ x : List UInt8, D.atKey (.string x) .nil = posD o (i + 1) l x) (x : List UInt8) :
    (D.put (.string a.name) (.lit (.int .i64 ((o + i * 4 : Nat) : Int)))).atKey (.string x) .nil = posD o i (a :: l) x := by
  rw [posD]
  by_cases e : a.name = x
  · subst e
    rw [if_pos rfl, atKey_put_same hm (show WideAt.IsKeyLit (.string a.name) from trivial)]
  · rw [if_neg e, atKey_put_other (by intro h; exact e (by cases h; rfl)), h x]
/-- The attributes as package eval keeps them, ready to be found: a list, or a map. -/
def LkAt (W : World) (la : Option Addr) (l : List Att) (u1 u2 : Value) : Prop :=
  (∃ c, u1 = .slice la l.length c ∧ u2 = .map none) ∨ (u1 = .slice none 0 0 ∧ ∃ b m g o, u2 = .map (some b) ∧ la = some ⟨g, o, none⟩ ∧ MapAt W b m g o 0 l)
theorem LkAt.later {W V : World} {la : Option Addr} {l : List Att} {u1 u2 : Value} (h : LkAt W la l u1 u2) (hB : Below W.heap.size W V) : LkAt V la l u1 u2 := by
  rcases h with h | ⟨h1, b, m, g, o, h2, h3, h4⟩
  · exact .inl h
  · exact .inr ⟨h1, b, m, g, o, h2, h3, h4.later hB⟩
end Go.Proofs.Ytcajcmaldnmbjaa.Ev
namespace Go.Proofs.Ytcajcmaldnmbjaa.Ck
open Go.RowKit Go.Proofs.Ytcajcmaldnmbjaa.Fl Go.Proofs.Ytcajcmaldnmbjaa.Tk
set_option linter.unusedVariables false
set_option linter.unusedSimpArgs false

def FnR (l : List Nm) (s : Nm) (w : World) (vi : Value) (wr : World) : Prop :=
  ∃ k : Nat, k ≤ l.length ∧ vi = .int .i64 k ∧ Hid (∀ j y, j < k → l[j]? = some y → y ≠ s) ∧ w = wr
theorem ne_list {x y : ByteArray} (h : ¬ x.data.toList = y.data.toList) : ¬ x = y ∧ ¬ x.toList = y.toList ∧ (x.toList == y.toList) = false := by
  have h1 : ¬ x.toList = y.toList := by rw [Lib.toList_data, Lib.toList_data]; exact h
  exact ⟨fun e => h (by rw [e]), h1, by rw [beq_eq_false_iff_ne]; exact h1⟩
theorem eq_list {x y : ByteArray} (h : x.data.toList = y.data.toList) : x = y := by
  obtain ⟨⟨x⟩⟩ := x
  obtain ⟨⟨y⟩⟩ := y
  simp at h
  rw [h]
end Go.Proofs.Ytcajcmaldnmbjaa.Ck
