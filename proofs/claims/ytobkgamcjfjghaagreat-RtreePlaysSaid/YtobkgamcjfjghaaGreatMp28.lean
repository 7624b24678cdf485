/-
  What the statement RtreePlays has between its rounds; deeds that are an argument; what is found at a point and in a window is what the law finds. No function of the program here.
-/
import Derived.Test.YtobkgamcjfjghaaGreatMp27
import Derived.Test.YtobkgamcjfjghaaGreatMp01
import Derived.Test.YtobkgamcjfjghaaGreatProg
import Derived.WalkKit
import Derived.WalkSpells
import Derived.LaidEql
import Derived.KernelRfl
import Derived.Below
import Derived.Handy
import Derived.Test.YtobkgamcjfjghaaGreatMp25
import Derived.Test.YtobkgamcjfjghaaGreatMp26
/-
  Facts of the program's comparisons, and a new index. What the walks of the statements of rtree share.
-/
namespace Go.Proofs.YtobkgamcjfjghaaGreat.Rt
open Go.RowKit Go.Joins Go.Maps Go.Proofs.YtobkgamcjfjghaaGreat.Pt Go.Proofs.YtobkgamcjfjghaaGreat.Rc Go.Proofs.YtobkgamcjfjghaaGreat.Rs
set_option linter.unusedVariables false
set_option linter.unusedSimpArgs false
set_option maxHeartbeats 4000000
set_option maxRecDepth 100000
theorem tree_nil (w : World) : (binOp .eql 28 (.pointer none) (.pointer none)).run Tryz.prog w = .ok (.bool true) w := by kernel_rfl
theorem tree_nnil (w : World) : (binOp .neq 28 (.pointer none) (.pointer none)).run Tryz.prog w = .ok (.bool false) w := by kernel_rfl
theorem tree_nsome (a : Nat) (w : World) : (binOp .neq 28 (.pointer (some ⟨a, 0, none⟩)) (.pointer none)).run Tryz.prog w = .ok (.bool true) w := by kernel_rfl
theorem eql_argn (w : World) : (binOp .eql 30 (.iface 33 (.int .i64 1)) .nilIface).run Tryz.prog w = .ok (.bool false) w := by kernel_rfl
theorem eql_bo (b : Bool) (w : World) : (binOp .eql 4 (.bool b) (.bool b)).run Tryz.prog w = .ok (.bool true) w := by cases b <;> kernel_rfl
def IxNew (o : Int) (W : World) (e : Ending) (w' : World) : Prop :=
  Below W.heap.size W w' ∧ (((o < 4 ∨ 16 < o) ∧ e = .returned (.tuple #[.pointer none, .iface 33 (.int .i64 1)])) ∨
    ∃ n t : Nat, (n : Int) = o ∧ 4 ≤ n ∧ n ≤ 16 ∧ e = .returned (.tuple #[ptr t, .nilIface]) ∧ Ix W.heap.size t n [] w')
end Go.Proofs.YtobkgamcjfjghaaGreat.Rt
/-
  What the statement RtreeFinds has between its rounds; an append at an operation of a drawn region; a slice of rectangles that is an argument. No function of the program here.
-/
namespace Go.Proofs.YtobkgamcjfjghaaGreat.Rt
open Go.RowKit Go.Joins Go.Maps Go.Proofs.YtobkgamcjfjghaaGreat.Pt Go.Proofs.YtobkgamcjfjghaaGreat.Rc Go.Proofs.YtobkgamcjfjghaaGreat.Rs
set_option linter.unusedVariables false
set_option linter.unusedSimpArgs false
set_option maxHeartbeats 2000000
set_option maxRecDepth 100000
/-- A slice that holds rectangles, an argument. -/
def RcL (W : World) (A : Option Addr) (l : List R4) : Prop := 0 < l.length → ∃ g o, A = some ⟨g, o, none⟩ ∧ g < W.heap.size ∧ ∀ (k : Nat) (h : k < l.length), W.cell? ⟨g, o + k * 4, none⟩ = some (.int .i64 l[k].x1) ∧ W.cell? ⟨g, o + k * 4 + 1, none⟩ = some (.int .i64 l[k].y1) ∧ W.cell? ⟨g, o + k * 4 + 2, none⟩ = some (.int .i64 l[k].x2) ∧ W.cell? ⟨g, o + k * 4 + 3, none⟩ = some (.int .i64 l[k].y2)
theorem wp_append_at {P : Program} {w : World} {o : Oper} {a : Act} {K : Act → World → Prop} {Q : Exit → Act → World → Prop} (s x : Operand) (t : TypeId)
    (ho : o.op = .call { callee := .builtin .append, args := #[s, x], argTypes := #[t, t] })
    (base : Nat) (e : TypeId) (i : TypeInfo) (z : Value) (size bytes : Nat) (ht : P.underlying t = some (.slice e)) (hi : P.info? e = some i) (hz : i.zero = some z)
    (hsize : i.size = size) (hby : i.bytes = bytes) (hzs : z.cells.size = size) (hsz : 0 < size)
    (v : Value) (n : Nat) (xs : List Value) (hs : a.eval s = v) (hown : w.ownsRow base e size v n xs)
    (ad : Addr) (m c : Nat) (news : List Value) (hx : a.eval x = .slice (some ad) m c) (hl : news.length = m * size) (hnews : ∀ j u, news[j]? = some u → w.cell? (ad.add j) = some u) (h1 : ∀ u ∈ news, u.oneCell' = true)
    (h63 : n + m ≤ maxLen) (hbytes : (n + m) * bytes ≤ 140737488355328) (hbase : base ≤ w.heap.size)
    (h : ∀ v' w', w'.ownsRow base e size v' (n + m) (xs ++ news) → w.grownBy w' v.ownBlock → (v'.ownBlock = v.ownBlock ∨ v'.ownBlock = some w.heap.size) → K (a.put o.dst v') w') : o.wp P a w K Q := by
  obtain ⟨v', w', hr, h2, h3, h4, h5⟩ := run_append_own_at (P := P) w base t o.type e i z size bytes ht hi hz hsize hby hzs hsz v n xs hown ad m c news hl hnews h1 h63 hbytes hbase
  unfold Oper.wp execOp
  simp only [ho, resolve, invoke, builtin, Sem.run_bind, Sem.run_pure, Result.andThen_ok, List.map_toArray, List.map_cons, List.map_nil, hs, hx, hr]
  exact h v' w' h2 h3 h5
def gR (l : List R4) (q : Nat) : R4 := l.getD q ⟨0, 0, 0, 0⟩
/-- The items of some numbers. -/
def its (l : List R4) (th : List Nat) : List (R4 × Int) := th.map fun q => (gR l q, (q : Int))
def nmV (th : List Nat) : List Value := th.map fun (q : Nat) => .int .i64 (q : Int)
structure Fi (w : World) (l : List R4) (t o N : Nat) (j : Nat) (th : List Nat) (F : Nat → Prop) (v : Value) (W : World) : Prop where
  iy : Iy F t o (its l th) W
  row : W.ownsRow w.heap.size 3 1 v th.length (nmV th)
  out : ∀ g, v.ownBlock = some g → ¬ F g
  above : ∀ k, F k → w.heap.size ≤ k
  below : Below w.heap.size w W
  nd : th.Nodup
  mem : ∀ q ∈ th, q < j ∧ may4 (gR l q)
  few : th.length ≤ j
section
variable {w W W' : World} {l : List R4} {t o N j : Nat} {th : List Nat} {F F' : Nat → Prop} {v v' : Value}
theorem Iy.grown {lx : List (R4 × Int)} {row : Option Nat} (h : Iy F t o lx W) (hg : W.grownBy W' row) (hr : ∀ g, row = some g → ¬ F g) : Iy F t o lx W' :=
  h.keep (X := fun k => row = some k) ⟨hg.os, hg.tape, hg.output, hg.size, fun k hk hx => hg.block k hk (fun e => hx e.symm)⟩ fun k hk hx => hr k hx hk
end
end Go.Proofs.YtobkgamcjfjghaaGreat.Rt
/-
  The contract of Code of the statements' own package, at no error and at any of the twelve: its number. Memory is left as it was.
-/
namespace Go.Proofs.YtobkgamcjfjghaaGreat.Cn
open Go.RowKit
set_option linter.unusedVariables false

theorem nil_nil (w : World) : (binOp .eql 30 .nilIface .nilIface).run Tryz.prog w = .ok (.bool true) w := by kernel_rfl
theorem nil_no (n : Int) (w : World) : (binOp .eql 30 (.iface 33 (.int .i64 n)) .nilIface).run Tryz.prog w = .ok (.bool false) w := by kernel_rfl
theorem eql_codes (n j : Int) (w : World) : (binOp .eql 30 (.iface 33 (.int .i64 n)) (.iface 33 (.int .i64 j))).run Tryz.prog w = .ok (.bool (n == j)) w := by kernel_rfl
theorem code_nil (w : World) : Calls Tryz.prog 10 #[.nilIface] w fun e w' => e = .returned (.int .i64 0) ∧ w = w' := by
  have h0 := nil_nil
  go_enter Tryz.func10, Tryz.ntmps10
  go_wp2_with fail
  go_ret
  exact ⟨rfl, rfl⟩
def CodeR (n : Nat) (w : World) (i : Value) (wr : World) : Prop := ∃ j : Nat, 1 ≤ j ∧ j ≤ n ∧ i = .int .i64 j ∧ w = wr
set_option maxHeartbeats 1000000 in
theorem code_any (n : Nat) (h1 : 1 ≤ n) (h2 : n ≤ 12) (w : World) : Calls Tryz.prog 10 #[.iface 33 (.int .i64 n)] w fun e w' => e = .returned (.int .i64 n) ∧ w = w' := by
  have q0 := nil_no n
  have q1 := eql_codes n
  go_enter Tryz.func10, Tryz.ntmps10
  go_wp2_with fail
  go_loopw [3] (fun i wr => CodeR n w i wr) (fun i _ => 20 - (intOf i).toNat)
  case atStart => exact ⟨1, by omega, by omega, rfl, rfl⟩
  case round =>
    obtain ⟨j, ha, hb, rfl, rfl⟩ := hrel
    have hle : (j : Int) ≤ 12 := by omega
    by_cases hj : j = n
    · subst hj
      have hjb : ((j : Int) == (j : Int)) = true := by simp
      go_wp2_with fail
      go_ret
      exact ⟨rfl, rfl⟩
    · have hjn : ((n : Int) == (j : Int)) = false := by rw [beq_eq_false_iff_ne]; omega
      go_wp2_with fail
      go_roundw
      case rel => exact ⟨j + 1, by omega, by omega, by go_num, rfl⟩
      case measure => simp [intOf]; omega
end Go.Proofs.YtobkgamcjfjghaaGreat.Cn
namespace Go.Proofs.YtobkgamcjfjghaaGreat.Rt
open Go.RowKit Go.Joins Go.Maps Go.Proofs.YtobkgamcjfjghaaGreat.Pt Go.Proofs.YtobkgamcjfjghaaGreat.Rc Go.Proofs.YtobkgamcjfjghaaGreat.Rs
set_option linter.unusedVariables false
set_option linter.unusedSimpArgs false
set_option maxHeartbeats 2000000
set_option maxRecDepth 100000
structure Ded where
  del : Bool
  r : R4
  id : Int
/-- A slice that holds deeds, an argument. -/
def DdL (W : World) (A : Option Addr) (l : List Ded) : Prop := (∀ d ∈ l, wf64 d.id) ∧ (0 < l.length → ∃ g o, A = some ⟨g, o, none⟩ ∧ g < W.heap.size ∧ ∀ (k : Nat) (h : k < l.length),
  W.cell? ⟨g, o + k * 6, none⟩ = some (.bool l[k].del) ∧ W.cell? ⟨g, o + k * 6 + 1, none⟩ = some (.int .i64 l[k].r.x1) ∧ W.cell? ⟨g, o + k * 6 + 2, none⟩ = some (.int .i64 l[k].r.y1) ∧ W.cell? ⟨g, o + k * 6 + 3, none⟩ = some (.int .i64 l[k].r.x2) ∧ W.cell? ⟨g, o + k * 6 + 4, none⟩ = some (.int .i64 l[k].r.y2) ∧ W.cell? ⟨g, o + k * 6 + 5, none⟩ = some (.int .i64 l[k].id))
theorem plc_none {l : List (R4 × Int)} {i : Int} : plc l i = none ↔ ∀ p ∈ l, p.2 ≠ i := by
  unfold plc
  rw [List.findIdx?_eq_none_iff]
  constructor
  · intro h p hp e
    have := h p hp
    simp [e] at this
  · intro h p hp
    simpa using h p hp
theorem plc_some {l : List (R4 × Int)} {i : Int} {k : Nat} (h : plc l i = some k) : ∃ hk : k < l.length, l[k].2 = i := by
  unfold plc at h
  rw [List.findIdx?_eq_some_iff_getElem] at h
  obtain ⟨hk, h1, _⟩ := h
  exact ⟨hk, by simpa using h1⟩
theorem plc_has {l : List (R4 × Int)} {i : Int} (h : ∃ p ∈ l, p.2 = i) : ∃ k, plc l i = some k := by
  cases hp : plc l i with
  | some k => exact ⟨k, rfl⟩
  | none =>
    obtain ⟨p, p1, p2⟩ := h
    exact absurd p2 (plc_none.1 hp p p1)
theorem out_perm {m l' : List (R4 × Int)} {k : Nat} (hk : k < m.length) (h : (m[k] :: l').Perm m) : l'.Perm (m.take k ++ m.drop (k + 1)) := by
  have h2 : m.Perm (m[k] :: (m.take k ++ m.drop (k + 1))) := by
    have e : m = m.take k ++ m[k] :: m.drop (k + 1) := by rw [← List.drop_eq_getElem_cons hk, List.take_append_drop]
    have := (List.perm_middle (a := m[k]) (l₁ := m.take k) (l₂ := m.drop (k + 1)))
    rwa [← e] at this
  exact (List.perm_cons _).1 (h.trans h2)
theorem win_lfd (m : List (R4 × Int)) (r : R4) : fnL m (meetB r) = lfd m r := by
  unfold fnL lfd
  congr 2
  congr 1
  funext p
  exact meetB_comm _ _
theorem at_lfd (m : List (R4 × Int)) (px py : Int) : (fnL m fun r => inB r.x1 r.y1 r.x2 r.y2 px py) = lfd m ⟨px, py, px, py⟩ := by
  unfold fnL lfd
  simp only [meet_point]
theorem at_no {m : List (R4 × Int)} {px py : Int} (h : ∀ p ∈ m, may4 p.1) (hp : mayB px py = false) : (fnL m fun r => inB r.x1 r.y1 r.x2 r.y2 px py) = [] := by
  rw [List.eq_nil_iff_forall_not_mem]
  intro i hi
  obtain ⟨p, p1, p2, _⟩ := fnL_mem.1 hi
  have h1 := rmayB_bd (h p p1)
  rw [inB_iff] at p2
  have : mayB px py = true := by rw [mayB_iff, inR_iff, inR_iff]; omega
  rw [this] at hp
  cases hp
theorem Iy.may {F : Nat → Prop} {t o : Nat} {m : List (R4 × Int)} {W : World} (h : Iy F t o m W) : ∀ p ∈ m, may4 p.1 := by
  obtain ⟨mb, σ, V, root, hh, M, G, x, h1, h2, h3⟩ := h
  exact fun p hp => (h3 p hp).2
theorem flat_len (m : List (R4 × Int)) : (m.flatMap itC).length = m.length * 5 := by
  induction m with
  | nil => rfl
  | cons a m ih => rw [List.flatMap_cons, List.length_append, ih]; simp [itC]; omega
theorem flat_one (m : List (R4 × Int)) : ∀ u ∈ m.flatMap itC, u.oneCell' = true := by
  intro u hu
  obtain ⟨p, _, hp⟩ := List.mem_flatMap.1 hu
  simp only [itC, List.mem_cons, List.not_mem_nil, or_false] at hp
  rcases hp with rfl | rfl | rfl | rfl | rfl <;> rfl
theorem infoIt : (Tryz.prog.info? 36).map (fun i => (i.zero, i.size, i.bytes)) = some (some (.agg #[.int .i64 0, .int .i64 0, .int .i64 0, .int .i64 0, .int .i64 0]), 5, 40) := by kernel_rfl
theorem run_emptyT (w : World) {i0 : TypeInfo} (hi : Tryz.prog.info? 36 = some i0) : (Instr.buildSlice 34 0 #[]).run Tryz.prog w = .ok (.slice (some ⟨w.heap.size, 0, none⟩) 0 0) (w.alloc (.cells #[] 36)) := by
  have hu := Tryz.underlying34
  simp [Instr.buildSlice, run_underlying hu, sizeOf, typeInfo, hi, newRow, Instr.fill]
  rw [show Array.range 0 = (#[] : Array Nat) by decide]
  simp
theorem own_emptyT (w : World) : (w.alloc (.cells #[] 36)).ownsRow w.heap.size 36 5 (.slice (some ⟨w.heap.size, 0, none⟩) 0 0) 0 [] := ⟨rfl, Or.inr ⟨w.heap.size, 0, #[], rfl, Nat.le_refl _, heap_alloc_new w _, Nat.le_refl _, Nat.zero_le _, rfl, rfl⟩⟩
theorem own_baseT {W : World} {base base' n : Nat} {t : TypeId} {v : Value} {xs : List Value} (h : W.ownsRow base t 5 v n xs) (hb : base' ≤ base) : W.ownsRow base' t 5 v n xs := by
  refine ⟨h.1, ?_⟩
  rcases h.2 with hn | ⟨g, cap, cur, rfl, h1, rest⟩
  · exact Or.inl hn
  · exact Or.inr ⟨g, cap, cur, rfl, Nat.le_trans hb h1, rest⟩
structure Pl (w : World) (t o : Nat) (j : Nat) (m : List (R4 × Int)) (F : Nat → Prop) (v : Value) (W : World) : Prop where
  iy : Iy F t o m W
  row : W.ownsRow w.heap.size 36 5 v m.length (m.flatMap itC)
  out : ∀ g, v.ownBlock = some g → ¬ F g
  above : ∀ k, F k → w.heap.size ≤ k
  below : Below w.heap.size w W
  few : m.length ≤ j
section
variable {w W W' : World} {t o j : Nat} {m : List (R4 × Int)} {F F' : Nat → Prop} {v v' : Value}
theorem Pl.more (h : Pl w t o j m F v W) : Pl w t o (j + 1) m F v W := ⟨h.iy, h.row, h.out, h.above, h.below, Nat.le_succ_of_le h.few⟩
theorem Pl.later (h : Pl w t o j m F v W) (hb : Below W.heap.size W W') : Pl w t o j m F v W' :=
  ⟨h.iy.later hb, h.row.kept (row := none) ⟨hb.os, hb.tape, hb.output, hb.size, fun k hk _ => hb.block k hk⟩ (by cases v.ownBlock <;> simp), h.out, h.above, h.below.trans (hb.mono h.below.size), h.few⟩
theorem Pl.rowT (h : Pl w t o j m F v W) : RowT W v m := ⟨_, h.row⟩
/-- An index of which something was taken out or put in, the list not yet. -/
theorem Pl.chg {m' : List (R4 × Int)} (h : Pl w t o j m F v W) (hi : Iy F' t o m' W') (hc : Chg F F' W W') : Iy F' t o m' W' ∧ W'.ownsRow w.heap.size 36 5 v m.length (m.flatMap itC) ∧ (∀ g, v.ownBlock = some g → ¬ F' g) ∧ (∀ k, F' k → w.heap.size ≤ k) ∧ Below w.heap.size w W' := by
  obtain ⟨h1, h2⟩ := hc.row h.row h.out
  obtain ⟨h3, h4⟩ := hc.below h.below.size h.above
  exact ⟨hi, h1, h2, h4, h.below.trans h3⟩
end
end Go.Proofs.YtobkgamcjfjghaaGreat.Rt
