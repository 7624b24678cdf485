/-
  Contract of rects of an R*-tree's part: its kids' rectangles, in a new row. Memory that was there is left as it was.
-/
import Derived.Test.YtobkgamcjfjghaaGreatMp02
import Derived.Maps.OwnSet
import Derived.Test.YtobkgamcjfjghaaGreatMp01
import Derived.IntWalk
import Derived.StillTailTactics
/-
  The tree's map of items (map[int]*part), told by a function from numbers to blocks: looked up, counted, written, deleted from.
-/
namespace Go.Proofs.YtobkgamcjfjghaaGreat.Rt
open Go.RowKit Go.Maps Go.Proofs.YtobkgamcjfjghaaGreat.Pt Go.Proofs.YtobkgamcjfjghaaGreat.Rc Go.Proofs.YtobkgamcjfjghaaGreat.Rs
set_option linter.unusedVariables false
set_option linter.unusedSimpArgs false
/-- How a pointer to a part reads. -/
def ptrE : Value → Option (DataW Unit × List MemPlace)
  | .pointer none => some (.nil, [])
  | .pointer (some ⟨b, 0, none⟩) => some (.lit (.int .i64 (b : Int)), [])
  | _ => none
theorem ptrE_ptr (b : Nat) : ptrE (ptr b) = some (.lit (.int .i64 (b : Int)), []) := rfl
theorem ptrE_inv {v : Value} {b : Nat} {ps : List MemPlace} (h : ptrE v = some (.lit (.int .i64 (b : Int)), ps)) : v = ptr b := by
  unfold ptrE at h
  split at h
  · cases h
  · simp at h
    obtain ⟨h, -⟩ := h
    have := Int.ofNat.inj h
    subst this
    rfl
  · cases h
theorem int_law : Keyed Tryz.prog 3 := int_keyed Tryz.underlying3
theorem zero_part (w : World) : (zeroValue 61).run Tryz.prog w = .ok (.pointer none) w := by kernel_rfl
def wf64 (i : Int) : Prop := -9223372036854775808 ≤ i ∧ i ≤ 9223372036854775807
theorem key_int {i : Int} (h : wf64 i) : keyOf Tryz.prog 3 (.int .i64 i) = some (.int .i64 i) := keyOf_int_mk Tryz.underlying3 (WalkArith.wf_i64 h)
theorem isKey_int {i : Int} (h : wf64 i) : WideAt.IsKeyLit (.int .i64 i) := int_law.key (key_int h)
/-- A function from numbers to blocks, changed at one. -/
def at_ (M : Int → Option Nat) (i : Int) (o : Option Nat) : Int → Option Nat := fun j => if j = i then o else M j
def oD : Option Nat → DataW Unit
  | some k => .lit (.int .i64 (k : Int))
  | none => .nil
/-- Block mb is a map of n entries that says what M says. -/
def MapAt (w : World) (mb : Nat) (M : Int → Option Nat) (n : Nat) : Prop :=
  ∃ D : DataW Unit, w.ownsMap Tryz.prog 3 ptrE mb n D ∧ size D = n ∧ ∀ i, wf64 i → has D (.int .i64 i) = (M i).isSome ∧ D.atKey (.int .i64 i) .nil = oD (M i)
section
variable {w w' : World} {mb n : Nat} {M : Int → Option Nat} {i : Int}
theorem MapAt.lt (h : MapAt w mb M n) : mb < w.heap.size := by
  obtain ⟨D, h1, _⟩ := h
  exact h1.lt
theorem MapAt.same (h : MapAt w mb M n) (hb : w'.heap[mb]? = w.heap[mb]?) : MapAt w' mb M n := by
  obtain ⟨D, ⟨es, clock, k1, k2⟩, h2⟩ := h
  exact ⟨D, ⟨es, clock, hb.trans k1, k2⟩, h2⟩
theorem MapAt.later (h : MapAt w mb M n) (hb : Below w.heap.size w w') : MapAt w' mb M n := h.same (hb.block mb h.lt)
theorem MapAt.made (w : World) : MapAt (w.alloc (.map #[] 0)) w.heap.size (fun _ => none) 0 :=
  ⟨.map [], World.ownsMap_made _ _ _ _, rfl, fun i _ => ⟨rfl, rfl⟩⟩
theorem own_size {b m : Nat} {D : DataW Unit} (h : w.ownsMap Tryz.prog 3 ptrE b m D) : w.ownsMap Tryz.prog 3 ptrE b (size D) D := by
  obtain ⟨es, clock, hb, F, hs, rfl⟩ := h
  refine ⟨es, clock, hb, F, ?_, rfl⟩
  have := length_read (H := Unit) (P := Tryz.prog) (k := 3) (R0 := ptrE) es
  show es.size ≤ List.length _
  rw [this]
  exact Nat.le_refl _
/-- 'v, ok := m[i]'. -/
theorem MapAt.look (h : MapAt w mb M n) (hi : wf64 i) : ∃ v, (Instr.lookup 60 (.map (some mb)) (.int .i64 i) true).run Tryz.prog w = .ok (.tuple #[v, .bool (M i).isSome]) w ∧ ∀ k, M i = some k → v = ptr k := by
  obtain ⟨D, h1, h2, h3⟩ := h
  obtain ⟨v, ps, hrun, hv⟩ := h1.look_ok int_law Tryz.underlying60 (zero_part w) (zd := .nil) (zp := []) rfl (key_int hi)
  obtain ⟨a, b⟩ := h3 i hi
  rw [a] at hrun
  refine ⟨v, hrun, fun k hk => ptrE_inv (ps := ps) ?_⟩
  rw [hv, b, hk]
  rfl
theorem MapAt.len (h : MapAt w mb M n) (ty : TypeId) : (Builtin.len_ #[60] ty #[.map (some mb)]).run Tryz.prog w = .ok (.int .i64 (n : Int)) w := by
  obtain ⟨D, h1, h2, h3⟩ := h
  have := h1.len Tryz.underlying60 ty
  rw [h2] at this
  exact this
/-- 'm[i] = k' where i is new. -/
theorem MapAt.store {k : Nat} (h : MapAt w mb M n) (hi : wf64 i) (hn : n < maxLen) (hnew : M i = none) : ∃ w', (Instr.mapUpdate 60 (.map (some mb)) (.int .i64 i) (ptr k)).run Tryz.prog w = .ok () w' ∧ MapAt w' mb (at_ M i (some k)) (n + 1) ∧ w.grownBy w' (some mb) := by
  obtain ⟨D, h1, h2, h3⟩ := h
  obtain ⟨w', hrun, ho, ht⟩ := h1.store int_law Tryz.underlying60 hn (key_int hi) (ptrE_ptr k)
  have hs : size (D.put (.int .i64 i) (.lit (.int .i64 (k : Int)))) = n + 1 := by
    rw [size_put (h1.tidy int_law), (h3 i hi).1, hnew, h2]
    rfl
  refine ⟨w', hrun, ⟨_, by have := own_size ho; rw [hs] at this; exact this, hs, fun j hj => ?_⟩, ht.grown⟩
  by_cases e : j = i
  · subst e
    rw [has_put_same h1.isMap (isKey_int hi), atKey_put_same h1.isMap (isKey_int hi)]
    simp [at_, oD]
  · have hne : (Lit.int .i64 j) ≠ .int .i64 i := fun h => e (by cases h; rfl)
    rw [has_put_other hne, atKey_put_other hne]
    simp only [at_, if_neg e]
    exact h3 j hj
/-- 'delete(m, i)' where i is there. -/
theorem MapAt.drop {k : Nat} (h : MapAt w mb M (n + 1)) (hi : wf64 i) (hk : M i = some k) (ty : TypeId) : ∃ w', (Builtin.delete_ #[60, 3] ty #[.map (some mb), .int .i64 i]).run Tryz.prog w = .ok (.tuple #[]) w' ∧ MapAt w' mb (at_ M i none) n ∧ w.grownBy w' (some mb) := by
  obtain ⟨D, h1, h2, h3⟩ := h
  obtain ⟨w', hrun, ho, ht⟩ := h1.drop int_law Tryz.underlying60 (key_int hi) ty
  have hs : size (D.del (.int .i64 i)) = n := by
    have := size_del (h1.tidy int_law) (k := .int .i64 i)
    rw [(h3 i hi).1, hk, h2] at this
    simpa using this
  refine ⟨w', hrun, ⟨_, by have := own_size ho; rw [hs] at this; exact this, hs, fun j hj => ?_⟩, ht.grown⟩
  by_cases e : j = i
  · subst e
    rw [has_del_same, atKey_del_same]
    simp [at_, oD]
  · have hne : (Lit.int .i64 j) ≠ .int .i64 i := fun h => e (by cases h; rfl)
    rw [has_del_other hne, atKey_del_other hne]
    simp only [at_, if_neg e]
    exact h3 j hj
end
end Go.Proofs.YtobkgamcjfjghaaGreat.Rt
/-
  Rectangles in memory, to be read; hull, may of package rsplit. Memory that was there is left as it was.
-/
namespace Go.Proofs.YtobkgamcjfjghaaGreat.Rs
open Go.RowKit Go.Proofs.YtobkgamcjfjghaaGreat.Pt Go.Proofs.YtobkgamcjfjghaaGreat.Rc Go.Proofs.YtobkgamcjfjghaaGreat.Pts
set_option linter.unusedVariables false
set_option linter.unusedSimpArgs false
set_option maxHeartbeats 4000000
set_option maxRecDepth 100000
/-- Rectangles that may be, in a slice that begins at a: at most so many. -/
def RsAt (W : World) (z : Nat) (a : Option Addr) (l : List R4) : Prop :=
  l.length ≤ 100 ∧ (∀ r ∈ l, may4 r) ∧ (0 < l.length → ∃ g o, a = some ⟨g, o, none⟩ ∧ g < z ∧ ∀ (k : Nat) (h : k < l.length), W.cell? ⟨g, o + k * 4, none⟩ = some (.int .i64 l[k].x1) ∧ W.cell? ⟨g, o + k * 4 + 1, none⟩ = some (.int .i64 l[k].y1) ∧ W.cell? ⟨g, o + k * 4 + 2, none⟩ = some (.int .i64 l[k].x2) ∧ W.cell? ⟨g, o + k * 4 + 3, none⟩ = some (.int .i64 l[k].y2))
theorem RsAt.later {W V : World} {z : Nat} {a : Option Addr} {l : List R4} (h : RsAt W z a l) (hb : Below z W V) : RsAt V z a l := by
  refine ⟨h.1, h.2.1, fun h0 => ?_⟩
  obtain ⟨g, o, e, hg, hc⟩ := h.2.2 h0
  have hq : ∀ x, V.cell? ⟨g, x, none⟩ = W.cell? ⟨g, x, none⟩ := fun x => World.cell?_of_block (w := W) (w' := V) (a := ⟨g, x, none⟩) (hb.block g hg)
  exact ⟨g, o, e, hg, fun k hk => by simp only [hq]; exact hc k hk⟩
theorem RsAt.wide {W : World} {z z' : Nat} {a : Option Addr} {l : List R4} (h : RsAt W z a l) (hz : z ≤ z') : RsAt W z' a l := by
  refine ⟨h.1, h.2.1, fun h0 => ?_⟩
  obtain ⟨g, o, e, hg, hc⟩ := h.2.2 h0
  exact ⟨g, o, e, by omega, hc⟩
/-- One of them. -/
theorem RsAt.at {W : World} {z : Nat} {a : Option Addr} {l : List R4} (h : RsAt W z a l) {k : Nat} (hk : k < l.length) : ∃ g o, a = some ⟨g, o, none⟩ ∧ g < z ∧ ∃ r, may4 r ∧ l[k] = r ∧ W.cell? ⟨g, o + k * 4, none⟩ = some (.int .i64 r.x1) ∧ W.cell? ⟨g, o + k * 4 + 1, none⟩ = some (.int .i64 r.y1) ∧ W.cell? ⟨g, o + k * 4 + 2, none⟩ = some (.int .i64 r.x2) ∧ W.cell? ⟨g, o + k * 4 + 3, none⟩ = some (.int .i64 r.y2) := by
  obtain ⟨g, o, e, hg, hc⟩ := h.2.2 (by omega)
  exact ⟨g, o, e, hg, l[k], h.2.1 _ (List.getElem_mem _), rfl, hc k hk⟩
/-- A rectangle in a block of the call's own: what it is is left open. -/
def Rk (W : World) (g : Nat) : Prop := ∃ r : R4, may4 r ∧ Rc4 W g r.x1 r.y1 r.x2 r.y2
theorem maybe_any (r : R4) (hr : may4 r) (w : World) : Calls Tryz.prog 107 #[rv r] w fun e w' => e = .returned (.bool false) ∧ Below w.heap.size w w' := by
  obtain ⟨x1, y1, x2, y2⟩ := r
  unfold rv
  dsimp only
  have CM := Lib.hid (fun W => rmay_any x1 y1 x2 y2 W)
  have hm : rmayB x1 y1 x2 y2 = true := hr
  rw [hm] at CM
  clear hr hm
  have HB := Lib.hid ((Below.refl w.heap.size w).alloc (Nat.le_refl _) (.cells #[.int .i64 x1, .int .i64 y1, .int .i64 x2, .int .i64 y2] 26))
  go_enter Tryz.func107, Tryz.ntmps107
  go_wp2_with fail
  refine Calls.mono (CM.out _) ?_
  rintro e w1 ⟨rfl, hb1⟩
  have B1 := Lib.hid (HB.out.trans (hb1.mono HB.out.size))
  clear hb1
  go_wp2_with fail
  go_ret
  exact ⟨rfl, B1.out⟩
/-- None among the first k. -/
def IxR (n : Nat) (w : World) (v8 : Value) (wr : World) : Prop := ∃ k : Nat, v8 = .int .i64 (k : Int) ∧ k ≤ n ∧ Hid (Below w.heap.size w wr)
theorem index_any (a : Option Addr) (c : Nat) (l : List R4) (w : World) (h : RsAt w w.heap.size a l) : Calls Tryz.prog 122 #[.slice a l.length c, .func (.func 107) #[] #[]] w fun e w' => e = .returned (.int .i64 (-1)) ∧ Below w.heap.size w w' := by
  have h100 := h.1
  obtain ⟨n, hn⟩ : ∃ n, n = l.length := ⟨_, rfl⟩
  have H := Lib.hid h
  have HN := Lib.hid hn
  rw [← hn] at h100 ⊢
  clear h hn
  go_enter Tryz.func122, Tryz.ntmps122
  go_wp2_with fail
  go_loopw [8] (fun v8 wr => IxR n w v8 wr) (fun v8 _ => n - (intOf v8).toNat)
  case atStart => exact ⟨0, rfl, Nat.zero_le _, Lib.hid (Below.refl _ _)⟩
  case round =>
    obtain ⟨k, rfl, hk, HW⟩ := hrel
    by_cases hlt : k < n
    · have hlz : (k : Int) < (n : Int) := by omega
      obtain ⟨g, o, rfl, hg, r, hr, -, c0, c1, c2, c3⟩ := (H.out.later HW.out).at (k := k) (by rw [← HN.out]; exact hlt)
      have CM := Lib.hid (maybe_any r hr wr)
      obtain ⟨x1, y1, x2, y2⟩ := r
      dsimp only at c0 c1 c2 c3
      clear hr
      go_wp2_with fail
      refine Calls.mono CM.out ?_
      rintro e w1 ⟨rfl, hb1⟩
      have W1 := Lib.hid (HW.out.trans (hb1.mono HW.out.size))
      clear hb1
      go_wp2_with fail
      go_roundw
      case rel => exact ⟨k + 1, by go_num, by omega, W1⟩
      case measure => simp [intOf]; omega
    · have hlz : ¬ (k : Int) < (n : Int) := by omega
      go_wp2_with fail
      go_ret
      exact ⟨rfl, HW.out⟩
theorem contains_any (a : Option Addr) (c : Nat) (l : List R4) (w : World) (h : RsAt w w.heap.size a l) : Calls Tryz.prog 106 #[.slice a l.length c, .func (.func 107) #[] #[]] w fun e w' => e = .returned (.bool false) ∧ Below w.heap.size w w' := by
  have CI := Lib.hid (index_any a c l w h)
  clear h
  go_enter Tryz.func106, Tryz.ntmps106
  go_wp2_with fail
  refine Calls.mono CI.out ?_
  rintro e w1 ⟨rfl, hb1⟩
  go_wp2_with fail
  go_ret
  exact ⟨rfl, hb1⟩
theorem rsmay_any (a : Option Addr) (c : Nat) (l : List R4) (w : World) (h : RsAt w w.heap.size a l) : Calls Tryz.prog 82 #[.slice a l.length c] w fun e w' => e = .returned (.bool true) ∧ Below w.heap.size w w' := by
  have CI := Lib.hid (contains_any a c l w h)
  have h100 := h.1
  obtain ⟨n, hn⟩ : ∃ n, n = l.length := ⟨_, rfl⟩
  rw [← hn] at h100 CI ⊢
  have hz : (n : Int) ≤ 100 := by omega
  clear h hn
  go_enter Tryz.func82, Tryz.ntmps82
  go_wp2_with fail
  refine Calls.mono CI.out ?_
  rintro e w1 ⟨rfl, hb1⟩
  go_wp2_with fail
  go_ret
  exact ⟨rfl, hb1⟩
end Go.Proofs.YtobkgamcjfjghaaGreat.Rs
/-
  Contract of package rsplit's hull: some rectangle that may be. Memory that was there is left as it was.
-/
namespace Go.Proofs.YtobkgamcjfjghaaGreat.Rs
open Go.RowKit Go.Proofs.YtobkgamcjfjghaaGreat.Pt Go.Proofs.YtobkgamcjfjghaaGreat.Rc Go.Proofs.YtobkgamcjfjghaaGreat.Pts
set_option linter.unusedVariables false
set_option linter.unusedSimpArgs false
set_option maxHeartbeats 4000000
set_option maxRecDepth 100000
def HuR (w : World) (g n : Nat) (v8 : Value) (wr : World) : Prop := ∃ k : Nat, v8 = .int .i64 (k : Int) ∧ k ≤ n ∧ Hid (Rc4 wr g 0 0 0 0) ∧ Hid (Rk wr (g + 1)) ∧ Hid (Below w.heap.size w wr)
theorem set4_below {w W : World} {g : Nat} (h : Below w.heap.size w W) (hg : w.heap.size ≤ g) (a b c d : Value) : Below w.heap.size w ((((W.setCell ⟨g, 0, none⟩ a).setCell ⟨g, 1, none⟩ b).setCell ⟨g, 2, none⟩ c).setCell ⟨g, 3, none⟩ d) :=
  (((h.setCell hg _).setCell hg _).setCell hg _).setCell hg _
theorem Rc4.set4 {W : World} {g h : Nat} {x1 y1 x2 y2 : Int} (r : Rc4 W h x1 y1 x2 y2) (hne : g ≠ h) (a b c d : Value) : Rc4 ((((W.setCell ⟨g, 0, none⟩ a).setCell ⟨g, 1, none⟩ b).setCell ⟨g, 2, none⟩ c).setCell ⟨g, 3, none⟩ d) h x1 y1 x2 y2 :=
  (((Rc4.far r _ hne).far _ hne).far _ hne).far _ hne
theorem hull_any (a : Option Addr) (c : Nat) (l : List R4) (w : World) (h : RsAt w w.heap.size a l) : Calls Tryz.prog 93 #[.slice a l.length c] w fun e w' => ∃ r, may4 r ∧ e = .returned (rv r) ∧ Below w.heap.size w w' := by
  have h100 := h.1
  obtain ⟨n, hn⟩ : ∃ n, n = l.length := ⟨_, rfl⟩
  have H := Lib.hid h
  have HN := Lib.hid hn
  rw [← hn] at h100 ⊢
  clear h hn
  obtain ⟨g, hg⟩ : ∃ g, g = w.heap.size := ⟨_, rfl⟩
  have HG := Lib.hid hg
  have Z0 := Lib.hid (show Rc4 ((w.alloc (.cells #[.int .i64 0, .int .i64 0, .int .i64 0, .int .i64 0] 26)).alloc (.cells #[.int .i64 0, .int .i64 0, .int .i64 0, .int .i64 0] 26)) g 0 0 0 0 by rw [hg]; exact (Rc4.new w 0 0 0 0 _).alloc _)
  have Z1 := Lib.hid (show Rk ((w.alloc (.cells #[.int .i64 0, .int .i64 0, .int .i64 0, .int .i64 0] 26)).alloc (.cells #[.int .i64 0, .int .i64 0, .int .i64 0, .int .i64 0] 26)) (g + 1) by
    have := Rc4.new (w.alloc (.cells #[.int .i64 0, .int .i64 0, .int .i64 0, .int .i64 0] 26)) 0 0 0 0 26
    rw [World.size_alloc, ← hg] at this
    exact ⟨⟨0, 0, 0, 0⟩, may0, this⟩)
  have B0 := Lib.hid (below2 w (.cells #[.int .i64 0, .int .i64 0, .int .i64 0, .int .i64 0] 26) (.cells #[.int .i64 0, .int .i64 0, .int .i64 0, .int .i64 0] 26))
  clear hg
  go_enter Tryz.func93, Tryz.ntmps93
  go_wp2_with fail
  rw [← HG.out]
  go_loopw [8] (fun v8 wr => HuR w g n v8 wr) (fun v8 _ => n - (intOf v8).toNat)
  case atStart => exact ⟨0, rfl, Nat.zero_le _, Z0, Z1, B0⟩
  case round =>
    obtain ⟨k, rfl, hk, R0, R1, HW⟩ := hrel
    by_cases hlt : k < n
    · have hlz : (k : Int) < (n : Int) := by omega
      obtain ⟨b, o, rfl, hb, x, hx, -, c0, c1, c2, c3⟩ := (H.out.later HW.out).at (k := k) (by rw [← HN.out]; exact hlt)
      have HX := Lib.hid hx
      obtain ⟨x1, y1, x2, y2⟩ := x
      dsimp only at c0 c1 c2 c3
      obtain ⟨r0, hm0, hr0⟩ := R1.out
      have HR0 := Lib.hid hm0
      have q0 := hr0
      obtain ⟨d0, d1, d2, d3, f0, f1, f2, f3⟩ := q0
      have q5 := hr0.alloc (.cells #[.int .i64 x1, .int .i64 y1, .int .i64 x2, .int .i64 y2] 26)
      obtain ⟨p0, p1, p2, p3, s0, s1, s2, s3⟩ := q5
      have hlt1 := hr0.lt
      have hne1 : ¬ g + 1 = wr.heap.size := by omega
      have hne2 : ¬ wr.heap.size = g + 1 := by omega
      clear hx hm0 hlt1
      by_cases h0 : k = 0
      · subst h0
        simp only [Nat.zero_mul, Nat.add_zero] at c0 c1 c2 c3
        have RA := Lib.hid (show Rc4 (((((wr.alloc (.cells #[.int .i64 x1, .int .i64 y1, .int .i64 x2, .int .i64 y2] 26)).setCell ⟨g + 1, 0, none⟩ (.int .i64 x1)).setCell ⟨g + 1, 1, none⟩ (.int .i64 y1)).setCell ⟨g + 1, 2, none⟩ (.int .i64 x2)).setCell ⟨g + 1, 3, none⟩ (.int .i64 y2)) (g + 1) x1 y1 x2 y2 from (hr0.alloc _).set x1 y1 x2 y2)
        have RB := Lib.hid (show Rc4 (((((wr.alloc (.cells #[.int .i64 x1, .int .i64 y1, .int .i64 x2, .int .i64 y2] 26)).setCell ⟨g + 1, 0, none⟩ (.int .i64 x1)).setCell ⟨g + 1, 1, none⟩ (.int .i64 y1)).setCell ⟨g + 1, 2, none⟩ (.int .i64 x2)).setCell ⟨g + 1, 3, none⟩ (.int .i64 y2)) g 0 0 0 0 from Rc4.set4 (R0.out.alloc _) (by omega) _ _ _ _)
        have BW := Lib.hid (show Below w.heap.size w (((((wr.alloc (.cells #[.int .i64 x1, .int .i64 y1, .int .i64 x2, .int .i64 y2] 26)).setCell ⟨g + 1, 0, none⟩ (.int .i64 x1)).setCell ⟨g + 1, 1, none⟩ (.int .i64 y1)).setCell ⟨g + 1, 2, none⟩ (.int .i64 x2)).setCell ⟨g + 1, 3, none⟩ (.int .i64 y2)) from set4_below (HW.out.alloc HW.out.size _) (by rw [← HG.out]; omega) _ _ _ _)
        go_wp2_with fail
        refine Calls.mono (join_any x1 y1 x2 y2 x1 y1 x2 y2 _) ?_
        rintro e w1 ⟨rfl, hb1⟩
        have R1' := Lib.hid (RA.out.later hb1)
        have R2' := Lib.hid (RB.out.later hb1)
        have B1' := Lib.hid (BW.out.trans (hb1.mono BW.out.size))
        have q1 := R1'.out
        obtain ⟨z0, z1, z2, z3, k0, k1, k2, k3⟩ := q1
        clear hb1 RA RB BW d0 d1 d2 d3 f0 f1 f2 f3 p0 p1 p2 p3 s0 s1 s2 s3
        go_wp2_with fail
        go_roundw
        case rel => exact ⟨0 + 1, by go_num, by omega, Lib.hid (Rc4.set4 R2'.out (by omega) _ _ _ _), Lib.hid ⟨_, join_may HX.out HX.out, R1'.out.set _ _ _ _⟩, Lib.hid (set4_below B1'.out (by rw [← HG.out]; omega) _ _ _ _)⟩
        case measure => simp [intOf]; omega
      · have h0z : ¬ (k : Int) = 0 := by omega
        have RA := Lib.hid (show Rc4 (wr.alloc (.cells #[.int .i64 x1, .int .i64 y1, .int .i64 x2, .int .i64 y2] 26)) (g + 1) r0.x1 r0.y1 r0.x2 r0.y2 from hr0.alloc _)
        have RB := Lib.hid (show Rc4 (wr.alloc (.cells #[.int .i64 x1, .int .i64 y1, .int .i64 x2, .int .i64 y2] 26)) g 0 0 0 0 from R0.out.alloc _)
        have BW := Lib.hid (show Below w.heap.size w (wr.alloc (.cells #[.int .i64 x1, .int .i64 y1, .int .i64 x2, .int .i64 y2] 26)) from HW.out.alloc HW.out.size _)
        go_wp2_with fail
        refine Calls.mono (join_any r0.x1 r0.y1 r0.x2 r0.y2 x1 y1 x2 y2 _) ?_
        rintro e w1 ⟨rfl, hb1⟩
        have R1' := Lib.hid (RA.out.later hb1)
        have R2' := Lib.hid (RB.out.later hb1)
        have B1' := Lib.hid (BW.out.trans (hb1.mono BW.out.size))
        have q1 := R1'.out
        obtain ⟨z0, z1, z2, z3, k0, k1, k2, k3⟩ := q1
        clear hb1 RA RB BW d0 d1 d2 d3 f0 f1 f2 f3 p0 p1 p2 p3 s0 s1 s2 s3
        go_wp2_with fail
        go_roundw
        case rel => exact ⟨k + 1, by go_num, by omega, Lib.hid (Rc4.set4 R2'.out (by omega) _ _ _ _), Lib.hid ⟨_, join_may HR0.out HX.out, R1'.out.set _ _ _ _⟩, Lib.hid (set4_below B1'.out (by rw [← HG.out]; omega) _ _ _ _)⟩
        case measure => simp [intOf]; omega
    · have hlz : ¬ (k : Int) < (n : Int) := by omega
      obtain ⟨r, hr, hc⟩ := R1.out
      obtain ⟨d0, d1, d2, d3, -, -, -, -⟩ := hc
      have q := R0.out
      obtain ⟨y0, y1, y2, y3, f0, f1, f2, f3⟩ := q
      have HR := Lib.hid hr
      have BE := Lib.hid (set4_below HW.out (show w.heap.size ≤ g by rw [HG.out]; exact Nat.le_refl _) (.int .i64 r.x1) (.int .i64 r.y1) (.int .i64 r.x2) (.int .i64 r.y2))
      clear hr
      go_wp2_with fail
      refine bodyPost_ret (v := rv r) ?hv rfl ?hr
      case hv => simp [results, Tryz.results93, go_sem, rv, *]
      case hr => exact ⟨r, HR.out, rfl, BE.out⟩
end Go.Proofs.YtobkgamcjfjghaaGreat.Rs
/-
  Contract of fit of an R*-tree's part: its rectangle is the hull of its kids'. All other blocks are left as they were.
-/
namespace Go.Proofs.YtobkgamcjfjghaaGreat.Rt
open Go.RowKit Go.Proofs.YtobkgamcjfjghaaGreat.Pt Go.Proofs.YtobkgamcjfjghaaGreat.Rc Go.Proofs.YtobkgamcjfjghaaGreat.Rs
set_option linter.unusedVariables false
set_option linter.unusedSimpArgs false
set_option maxRecDepth 100000

def accN (σ : St) (ks : List Nat) (i : Nat) : R4 := hullF ((ks.take i).map (rOf σ))
theorem accN_all (σ : St) (ks : List Nat) : accN σ ks ks.length = hull σ ks := by unfold accN hull; rw [List.take_of_length_le (Nat.le_refl _)]
theorem accN_one (σ : St) (ks : List Nat) (h : 0 < ks.length) : accN σ ks 1 = joinR (rOf σ ks[0]) (rOf σ ks[0]) := by
  unfold accN
  rw [List.take_succ_eq_append_getElem h]
  rfl
theorem accN_succ (σ : St) (ks : List Nat) {i : Nat} (h : i < ks.length) (h0 : 0 < i) : accN σ ks (i + 1) = joinR (accN σ ks i) (rOf σ ks[i]) := by
  unfold accN
  rw [List.take_succ_eq_append_getElem h, List.map_append]
  exact hullF_snoc _ (by
    intro e
    have := congrArg List.length e
    rw [List.length_map, List.length_take, List.length_nil] at this
    omega)
/-- What is known while fit goes on. -/
def FitR (w : World) (n : Nat) (d : Pd) (s : Value) (σ : St) (i : Value) (wr : World) : Prop :=
  ∃ j : Nat, j ≤ d.kids.length ∧ i = .int .i64 j ∧ PAt wr n { d with r := accN σ d.kids j } s ∧ Ke (fun k => k = n) w wr

theorem far4 {W : World} {b n o : Nat} {v : Value} (hbn : b ≠ n) (h : W.cell? ⟨b, o, none⟩ = some v) (r : R4) : (setR W n r).cell? ⟨b, o, none⟩ = some v := by
  unfold setR
  rw [World.cell?_of_block (w' := _) (w := W) (a := ⟨b, o, none⟩) (by rw [Below.heap_setCell _ _ _ _ hbn, Below.heap_setCell _ _ _ _ hbn, Below.heap_setCell _ _ _ _ hbn, Below.heap_setCell _ _ _ _ hbn])]
  exact h
set_option maxHeartbeats 2000000 in
theorem fit_any (n : Nat) (d : Pd) (σ : St) (V : Nat → Value) (w : World) (hM : Mem w σ V) (hd : σ n = some d) (hk : ∀ k ∈ d.kids, k ≠ n ∧ ∃ e, σ k = some e) (hn : d.kids.length ≤ 20) :
    Calls Tryz.prog 35 #[ptr n] w fun e w' => e = .returned (.tuple #[]) ∧ PAt w' n { d with r := hull σ d.kids } (V n) ∧ Ke (fun k => k = n) w w' := by
  have HM := Lib.hid hM
  have HP := Lib.hid (hM.part n d hd)
  have HT := Lib.hid (hM.tags hd hd)
  have HK := Lib.hid hk
  obtain ⟨s, hs⟩ : ∃ s, s = V n := ⟨_, rfl⟩
  rw [← hs] at HP HT ⊢
  have HS := Lib.hid hs
  clear hs hM hk
  obtain ⟨A, c, hsv, hc1, hc2, hrow⟩ := HP.out.kids
  obtain ⟨z0, z1, z2, z3, z4, z5, z6⟩ := HP.out.cells
  have zf := HP.out.soft
  have P0 := Lib.hid (HP.out.setR HT.out ⟨0, 0, 0, 0⟩)
  have K0 := Lib.hid ((Ke.refl (fun k => k = n) w).setR (b := n) ⟨0, 0, 0, 0⟩ (Or.inl rfl))
  have p0 := P0.out.cells
  have pf := P0.out.soft
  unfold setR at p0 pf
  dsimp only at p0
  obtain ⟨y0, y1, y2, y3, y4, y5, y6⟩ := p0
  obtain ⟨m, em⟩ : ∃ m, m = d.kids.length := ⟨_, rfl⟩
  have EM := Lib.hid em
  have HSV := Lib.hid hsv
  rw [← em] at hn
  rw [hsv, ← em] at z6 y6
  rw [← accN_all]
  unfold ptr
  clear hsv hc1 hc2 hrow em
  have hn' : (m : Int) ≤ 20 := by omega
  go_enter Tryz.func35, Tryz.ntmps35
  go_wp2_with fail
  go_loopw [13] (fun i wr => FitR w n d s σ i wr) (fun i _ => m - (intOf i).toNat)
  case atStart => exact ⟨0, Nat.zero_le _, rfl, P0.out, K0.out⟩
  case round =>
    clear z0 z1 z2 z3 z4 z5 z6 zf y0 y1 y2 y3 y4 y5 y6 pf P0 K0
    obtain ⟨j, hj, rfl, hP, hKe⟩ := hrel
    rw [← EM.out] at hj
    have P := Lib.hid hP
    have KW := Lib.hid hKe
    clear hP hKe
    by_cases hlt : j < m
    · have hlz : (j : Int) < (m : Int) := by omega
      have hj0 : (0 : Int) ≤ (j : Int) := by omega
      have hjl : j < d.kids.length := by rw [← EM.out]; exact hlt
      obtain ⟨A', c', e1, -, -, e4⟩ := P.out.kids
      obtain ⟨g, eg, hg, e5⟩ := e4 (by dsimp only; omega)
      have e6 := e5 j hjl
      rw [HSV.out] at e1
      simp only [Value.slice.injEq] at e1
      obtain ⟨e7, -, -⟩ := e1
      rw [eg] at e7
      subst e7
      dsimp only at e6
      obtain ⟨b, hb⟩ : ∃ b, b = d.kids[j] := ⟨_, rfl⟩
      obtain ⟨hbn, eb, heb⟩ := HK.out b (by rw [hb]; exact List.getElem_mem hjl)
      rw [← hb] at e6
      unfold ptr at e6
      have PB := Lib.hid ((HM.out.part b eb heb).same (KW.out.block b (HM.out.part b eb heb).lt hbn) (fun g' hg' => KW.out.block g' (HM.out.foot_lt (Or.inr ⟨b, eb, heb, hg'⟩)) (fun e => HM.out.tags hd heb (e ▸ hg'))))
      have HB := Lib.hid hb
      have HRB := Lib.hid (show rOf σ d.kids[j] = eb.r by rw [← hb]; exact rOf_some heb)
      have HTB := Lib.hid (HM.out.tags hd heb)
      clear e5 hb
      obtain ⟨b0, b1, b2, b3, b4, -, -⟩ := PB.out.cells
      obtain ⟨x, hx⟩ : ∃ x, x = eb.r := ⟨_, rfl⟩
      rw [← hx] at b1 b2 b3 b4 HRB
      have HX := Lib.hid hx
      clear hx
      obtain ⟨z0, z1, z2, z3, z4, z5, z6⟩ := P.out.cells
      have zf := P.out.soft
      dsimp only at z0 z1 z2 z3 z4 z5 z6
      by_cases h0 : j = 0
      · subst h0
        obtain ⟨W2, hW2⟩ : ∃ W2, W2 = setR wr n x := ⟨_, rfl⟩
        have P1 := Lib.hid (show PAt W2 n _ s by rw [hW2]; exact P.out.setR HT.out x)
        have K1 := Lib.hid (show Ke (fun k => k = n) w W2 by rw [hW2]; exact KW.out.setR (b := n) x (Or.inl rfl))
        have QB := Lib.hid (show PAt W2 b eb (V b) by rw [hW2]; exact PB.out.farR hbn HTB.out x)
        unfold setR at hW2
        have HW2 := Lib.hid hW2
        clear b0 hW2
        go_wp2_with fail
        rw [← HW2.out]
        clear z0 z1 z2 z3 z4 z5 zf z6 b1 b2 b3 b4 e6 HW2
        have q := P1.out.cells
        have qb := QB.out.cells
        dsimp only at q
        obtain ⟨q0, q1, q2, q3, q4, q5, q6⟩ := q
        obtain ⟨r0, r1, r2, r3, r4, -, -⟩ := qb
        rw [← HX.out] at r1 r2 r3 r4
        refine wp_region_held_drew (S := (fun W => (∃ y, PAt W n { d with r := y } s) ∧ W.cell? ⟨b, 1, none⟩ = some (.int .i64 x.x1) ∧ W.cell? ⟨b, 2, none⟩ = some (.int .i64 x.y1) ∧ W.cell? ⟨b, 3, none⟩ = some (.int .i64 x.x2) ∧ W.cell? ⟨b, 4, none⟩ = some (.int .i64 x.y2) ∧ Ke (fun k => k = n) w W)) (by kernel_rfl) ⟨⟨_, P1.out.drew⟩, r1, r2, r3, r4, K1.out.drew⟩ (fun hHeld => ?_)
        refine wpAnyH_take (i := 0) (v := ?vA0) rfl (by kernel_rfl) (by kernel_rfl) (by kernel_rfl) (fun _ _ _ h => h) (Or.inl ⟨by rfl, ?yA0⟩) hHeld ?rA0
        case yA0 => (intro W hSw; simp only [List.getElem_toArray, List.getElem_cons_zero]; go_simp; try (with_reducible rfl))
        simp only [List.getElem_toArray, List.getElem_cons_zero, Act.put, List.setIfInBounds_toArray, List.set_cons_zero, List.set_cons_succ]
        refine wpAnyH_take (i := 1) (v := ?vA1) rfl (by kernel_rfl) (by kernel_rfl) (by kernel_rfl) (fun _ _ _ h => h) (Or.inl ⟨by rfl, ?yA1⟩) hHeld ?rA1
        case yA1 => (intro W hSw; simp only [List.getElem_toArray, List.getElem_cons_succ, List.getElem_cons_zero]; go_simp; try (with_reducible rfl))
        simp only [List.getElem_toArray, List.getElem_cons_succ, List.getElem_cons_zero, Act.put, List.setIfInBounds_toArray, List.set_cons_zero, List.set_cons_succ]
        refine wpAnyH_take (i := 2) (v := ?vA2) rfl (by kernel_rfl) (by kernel_rfl) (by kernel_rfl) (fun _ _ _ h => h) (Or.inl ⟨by rfl, ?yA2⟩) hHeld ?rA2
        case yA2 => (intro W hSw; simp only [List.getElem_toArray, List.getElem_cons_succ, List.getElem_cons_zero]; go_simp; try (with_reducible rfl))
        simp only [List.getElem_toArray, List.getElem_cons_succ, List.getElem_cons_zero, Act.put, List.setIfInBounds_toArray, List.set_cons_zero, List.set_cons_succ]
        refine wpAnyH_take (i := 3) (v := ?vA3) rfl (by kernel_rfl) (by kernel_rfl) (by kernel_rfl) (fun _ _ _ h => h) (Or.inl ⟨by rfl, ?yA3⟩) hHeld ?rA3
        case yA3 => (intro W hSw; simp only [List.getElem_toArray, List.getElem_cons_succ, List.getElem_cons_zero]; go_simp; try (with_reducible rfl))
        simp only [List.getElem_toArray, List.getElem_cons_succ, List.getElem_cons_zero, Act.put, List.setIfInBounds_toArray, List.set_cons_zero, List.set_cons_succ]
        refine wpAnyH_take (i := 5) (v := ?vA5) rfl (by kernel_rfl) (by kernel_rfl) (by kernel_rfl) (fun _ _ _ h => h) (Or.inl ⟨by rfl, ?yA5⟩) hHeld ?rA5
        case yA5 => (intro W hSw; simp only [List.getElem_toArray, List.getElem_cons_succ, List.getElem_cons_zero]; go_simp; try (with_reducible rfl))
        simp only [List.getElem_toArray, List.getElem_cons_succ, List.getElem_cons_zero, Act.put, List.setIfInBounds_toArray, List.set_cons_zero, List.set_cons_succ]
        refine wpAnyH_take (i := 6) (v := ?vA6) rfl (by kernel_rfl) (by kernel_rfl) (by kernel_rfl) (fun _ _ _ h => h) (Or.inl ⟨by rfl, ?yA6⟩) hHeld ?rA6
        case yA6 => (intro W hSw; simp only [List.getElem_toArray, List.getElem_cons_succ, List.getElem_cons_zero]; go_simp; try (with_reducible rfl))
        simp only [List.getElem_toArray, List.getElem_cons_succ, List.getElem_cons_zero, Act.put, List.setIfInBounds_toArray, List.set_cons_zero, List.set_cons_succ]
        refine wpAnyH_take (i := 7) (v := ?vA7) rfl (by kernel_rfl) (by kernel_rfl) (by kernel_rfl) (fun _ _ _ h => h) (Or.inl ⟨by rfl, ?yA7⟩) hHeld ?rA7
        case yA7 => (intro W hSw; simp only [List.getElem_toArray, List.getElem_cons_succ, List.getElem_cons_zero]; go_simp; try (with_reducible rfl))
        simp only [List.getElem_toArray, List.getElem_cons_succ, List.getElem_cons_zero, Act.put, List.setIfInBounds_toArray, List.set_cons_zero, List.set_cons_succ]
        refine wpAnyH_take (i := 8) (v := ?vA8) rfl (by kernel_rfl) (by kernel_rfl) (by kernel_rfl) (fun _ _ _ h => h) (Or.inl ⟨by rfl, ?yA8⟩) hHeld ?rA8
        case yA8 => (intro W hSw; simp only [List.getElem_toArray, List.getElem_cons_succ, List.getElem_cons_zero]; go_simp; try (with_reducible rfl))
        simp only [List.getElem_toArray, List.getElem_cons_succ, List.getElem_cons_zero, Act.put, List.setIfInBounds_toArray, List.set_cons_zero, List.set_cons_succ]
        refine wpAnyH_ready (rs := [4]) (by kernel_rfl) (by simp) (AllReadyH.cons rfl (fun K hK => ?_) AllReadyH.nil)
        simp only [List.getElem_toArray, List.getElem_cons_succ, List.getElem_cons_zero]
        go_simp
        refine hK.out _ _ (by exact hHeld) (fun hHeld1 => ?_)
        clear hK K hHeld
        have hHeld := hHeld1; clear hHeld1
        try simp only [List.getElem_toArray, List.getElem_cons_succ, List.getElem_cons_zero, Act.put, List.setIfInBounds_toArray, List.set_cons_zero, List.set_cons_succ]
        refine wpAnyH_ready (rs := [9]) (by kernel_rfl) (by simp) (AllReadyH.cons rfl (fun K hK => ?_) AllReadyH.nil)
        simp only [List.getElem_toArray, List.getElem_cons_succ, List.getElem_cons_zero]
        go_simp
        go_at_call 49
        refine (join_any x.x1 x.y1 x.x2 x.y2 x.x1 x.y1 x.x2 x.y2 _).mono ?_
        rintro e w9 ⟨rfl, hb1⟩
        try go_wp2_with fail
        have P4 := Lib.hid (P1.out.drew.later hb1)
        have K4 := Lib.hid (K1.out.drew.below hb1)
        refine hK.out _ _ (by exact ⟨⟨_, P4.out⟩, cell_later hb1 hHeld.2.1, cell_later hb1 hHeld.2.2.1, cell_later hb1 hHeld.2.2.2.1, cell_later hb1 hHeld.2.2.2.2.1, K4.out⟩) (fun hHeld1 => ?_)
        clear hK K hHeld hb1 q0 q1 q2 q3 q4 q5 q6
        have hHeld := hHeld1; clear hHeld1
        try simp only [List.getElem_toArray, List.getElem_cons_succ, List.getElem_cons_zero, Act.put, List.setIfInBounds_toArray, List.set_cons_zero, List.set_cons_succ]
        refine wpAnyH_take (i := 10) (v := ?vAz10) rfl (by kernel_rfl) (by kernel_rfl) (by kernel_rfl) (fun _ _ _ h => h) (Or.inl ⟨by rfl, ?yAz10⟩) hHeld ?rAz10
        case yAz10 => (intro W hSw; simp only [List.getElem_toArray, List.getElem_cons_succ, List.getElem_cons_zero]; go_simp; try (with_reducible rfl))
        simp only [List.getElem_toArray, List.getElem_cons_succ, List.getElem_cons_zero, Act.put, List.setIfInBounds_toArray, List.set_cons_zero, List.set_cons_succ]
        refine wpAnyH_take (i := 11) (v := ?vAz11) rfl (by kernel_rfl) (by kernel_rfl) (by kernel_rfl) (fun _ _ _ h => h) (Or.inl ⟨by rfl, ?yAz11⟩) hHeld ?rAz11
        case yAz11 => (intro W hSw; simp only [List.getElem_toArray, List.getElem_cons_succ, List.getElem_cons_zero]; go_simp; try (with_reducible rfl))
        simp only [List.getElem_toArray, List.getElem_cons_succ, List.getElem_cons_zero, Act.put, List.setIfInBounds_toArray, List.set_cons_zero, List.set_cons_succ]
        have p4 := P4.out.cells
        have f4 := P4.out.soft
        dsimp only at p4
        obtain ⟨a0, a1, a2, a3, a4, a5, a6⟩ := p4
        refine wpAnyH_ready (rs := [12]) (by kernel_rfl) (by simp) (AllReadyH.cons rfl (fun K hK => ?_) AllReadyH.nil)
        simp only [List.getElem_toArray, List.getElem_cons_succ, List.getElem_cons_zero]
        go_simp
        have P5 := Lib.hid (P4.out.setR HT.out (joinR x x))
        have K5 := Lib.hid (K4.out.setR (b := n) (joinR x x) (Or.inl rfl))
        refine hK.out _ _ (by exact ⟨⟨_, P5.out⟩, far4 hbn hHeld.2.1 (joinR x x), far4 hbn hHeld.2.2.1 (joinR x x), far4 hbn hHeld.2.2.2.1 (joinR x x), far4 hbn hHeld.2.2.2.2.1 (joinR x x), K5.out⟩) (fun hHeld1 => ?_)
        clear hK K hHeld hHeld1 a0 a1 a2 a3 a4 a5 a6 f4 P4 K4
        refine wpAnyH_done (by kernel_rfl) ?_ _
        go_wp2_with fail
        go_roundw
        case rel => exact ⟨0 + 1, by omega, by go_num, by rw [accN_one σ d.kids hjl, HRB.out]; exact P5.out, K5.out⟩
        case measure => simp [intOf]; omega
      · have h0z : ¬ (j : Int) = 0 := by omega
        obtain ⟨y, hy⟩ : ∃ y, y = accN σ d.kids j := ⟨_, rfl⟩
        rw [← hy] at z1 z2 z3 z4 P
        have HY := Lib.hid hy
        clear hy
        go_wp2_with fail
        refine wp_region_held_drew (S := (fun W => (∃ y, PAt W n { d with r := y } s) ∧ W.cell? ⟨b, 1, none⟩ = some (.int .i64 x.x1) ∧ W.cell? ⟨b, 2, none⟩ = some (.int .i64 x.y1) ∧ W.cell? ⟨b, 3, none⟩ = some (.int .i64 x.x2) ∧ W.cell? ⟨b, 4, none⟩ = some (.int .i64 x.y2) ∧ Ke (fun k => k = n) w W)) (by kernel_rfl) ⟨⟨_, P.out.drew⟩, b1, b2, b3, b4, KW.out.drew⟩ (fun hHeld => ?_)
        refine wpAnyH_take (i := 0) (v := ?vB0) rfl (by kernel_rfl) (by kernel_rfl) (by kernel_rfl) (fun _ _ _ h => h) (Or.inl ⟨by rfl, ?yB0⟩) hHeld ?rB0
        case yB0 => (intro W hSw; simp only [List.getElem_toArray, List.getElem_cons_zero]; go_simp; try (with_reducible rfl))
        simp only [List.getElem_toArray, List.getElem_cons_zero, Act.put, List.setIfInBounds_toArray, List.set_cons_zero, List.set_cons_succ]
        refine wpAnyH_take (i := 1) (v := ?vB1) rfl (by kernel_rfl) (by kernel_rfl) (by kernel_rfl) (fun _ _ _ h => h) (Or.inl ⟨by rfl, ?yB1⟩) hHeld ?rB1
        case yB1 => (intro W hSw; simp only [List.getElem_toArray, List.getElem_cons_succ, List.getElem_cons_zero]; go_simp; try (with_reducible rfl))
        simp only [List.getElem_toArray, List.getElem_cons_succ, List.getElem_cons_zero, Act.put, List.setIfInBounds_toArray, List.set_cons_zero, List.set_cons_succ]
        refine wpAnyH_take (i := 2) (v := ?vB2) rfl (by kernel_rfl) (by kernel_rfl) (by kernel_rfl) (fun _ _ _ h => h) (Or.inl ⟨by rfl, ?yB2⟩) hHeld ?rB2
        case yB2 => (intro W hSw; simp only [List.getElem_toArray, List.getElem_cons_succ, List.getElem_cons_zero]; go_simp; try (with_reducible rfl))
        simp only [List.getElem_toArray, List.getElem_cons_succ, List.getElem_cons_zero, Act.put, List.setIfInBounds_toArray, List.set_cons_zero, List.set_cons_succ]
        refine wpAnyH_take (i := 3) (v := ?vB3) rfl (by kernel_rfl) (by kernel_rfl) (by kernel_rfl) (fun _ _ _ h => h) (Or.inl ⟨by rfl, ?yB3⟩) hHeld ?rB3
        case yB3 => (intro W hSw; simp only [List.getElem_toArray, List.getElem_cons_succ, List.getElem_cons_zero]; go_simp; try (with_reducible rfl))
        simp only [List.getElem_toArray, List.getElem_cons_succ, List.getElem_cons_zero, Act.put, List.setIfInBounds_toArray, List.set_cons_zero, List.set_cons_succ]
        refine wpAnyH_take (i := 5) (v := ?vB5) rfl (by kernel_rfl) (by kernel_rfl) (by kernel_rfl) (fun _ _ _ h => h) (Or.inl ⟨by rfl, ?yB5⟩) hHeld ?rB5
        case yB5 => (intro W hSw; simp only [List.getElem_toArray, List.getElem_cons_succ, List.getElem_cons_zero]; go_simp; try (with_reducible rfl))
        simp only [List.getElem_toArray, List.getElem_cons_succ, List.getElem_cons_zero, Act.put, List.setIfInBounds_toArray, List.set_cons_zero, List.set_cons_succ]
        refine wpAnyH_take (i := 6) (v := ?vB6) rfl (by kernel_rfl) (by kernel_rfl) (by kernel_rfl) (fun _ _ _ h => h) (Or.inl ⟨by rfl, ?yB6⟩) hHeld ?rB6
        case yB6 => (intro W hSw; simp only [List.getElem_toArray, List.getElem_cons_succ, List.getElem_cons_zero]; go_simp; try (with_reducible rfl))
        simp only [List.getElem_toArray, List.getElem_cons_succ, List.getElem_cons_zero, Act.put, List.setIfInBounds_toArray, List.set_cons_zero, List.set_cons_succ]
        refine wpAnyH_take (i := 7) (v := ?vB7) rfl (by kernel_rfl) (by kernel_rfl) (by kernel_rfl) (fun _ _ _ h => h) (Or.inl ⟨by rfl, ?yB7⟩) hHeld ?rB7
        case yB7 => (intro W hSw; simp only [List.getElem_toArray, List.getElem_cons_succ, List.getElem_cons_zero]; go_simp; try (with_reducible rfl))
        simp only [List.getElem_toArray, List.getElem_cons_succ, List.getElem_cons_zero, Act.put, List.setIfInBounds_toArray, List.set_cons_zero, List.set_cons_succ]
        refine wpAnyH_take (i := 8) (v := ?vB8) rfl (by kernel_rfl) (by kernel_rfl) (by kernel_rfl) (fun _ _ _ h => h) (Or.inl ⟨by rfl, ?yB8⟩) hHeld ?rB8
        case yB8 => (intro W hSw; simp only [List.getElem_toArray, List.getElem_cons_succ, List.getElem_cons_zero]; go_simp; try (with_reducible rfl))
        simp only [List.getElem_toArray, List.getElem_cons_succ, List.getElem_cons_zero, Act.put, List.setIfInBounds_toArray, List.set_cons_zero, List.set_cons_succ]
        refine wpAnyH_ready (rs := [4]) (by kernel_rfl) (by simp) (AllReadyH.cons rfl (fun K hK => ?_) AllReadyH.nil)
        simp only [List.getElem_toArray, List.getElem_cons_succ, List.getElem_cons_zero]
        go_simp
        refine hK.out _ _ (by exact hHeld) (fun hHeld1 => ?_)
        clear hK K hHeld
        have hHeld := hHeld1; clear hHeld1
        try simp only [List.getElem_toArray, List.getElem_cons_succ, List.getElem_cons_zero, Act.put, List.setIfInBounds_toArray, List.set_cons_zero, List.set_cons_succ]
        refine wpAnyH_ready (rs := [9]) (by kernel_rfl) (by simp) (AllReadyH.cons rfl (fun K hK => ?_) AllReadyH.nil)
        simp only [List.getElem_toArray, List.getElem_cons_succ, List.getElem_cons_zero]
        go_simp
        go_at_call 49
        refine (join_any y.x1 y.y1 y.x2 y.y2 x.x1 x.y1 x.x2 x.y2 _).mono ?_
        rintro e w9 ⟨rfl, hb1⟩
        try go_wp2_with fail
        have P4 := Lib.hid (P.out.drew.later hb1)
        have K4 := Lib.hid (KW.out.drew.below hb1)
        refine hK.out _ _ (by exact ⟨⟨_, P4.out⟩, cell_later hb1 hHeld.2.1, cell_later hb1 hHeld.2.2.1, cell_later hb1 hHeld.2.2.2.1, cell_later hb1 hHeld.2.2.2.2.1, K4.out⟩) (fun hHeld1 => ?_)
        clear hK K hHeld hb1 z0 z1 z2 z3 z4 z5 z6
        have hHeld := hHeld1; clear hHeld1
        try simp only [List.getElem_toArray, List.getElem_cons_succ, List.getElem_cons_zero, Act.put, List.setIfInBounds_toArray, List.set_cons_zero, List.set_cons_succ]
        refine wpAnyH_take (i := 10) (v := ?vBz10) rfl (by kernel_rfl) (by kernel_rfl) (by kernel_rfl) (fun _ _ _ h => h) (Or.inl ⟨by rfl, ?yBz10⟩) hHeld ?rBz10
        case yBz10 => (intro W hSw; simp only [List.getElem_toArray, List.getElem_cons_succ, List.getElem_cons_zero]; go_simp; try (with_reducible rfl))
        simp only [List.getElem_toArray, List.getElem_cons_succ, List.getElem_cons_zero, Act.put, List.setIfInBounds_toArray, List.set_cons_zero, List.set_cons_succ]
        refine wpAnyH_take (i := 11) (v := ?vBz11) rfl (by kernel_rfl) (by kernel_rfl) (by kernel_rfl) (fun _ _ _ h => h) (Or.inl ⟨by rfl, ?yBz11⟩) hHeld ?rBz11
        case yBz11 => (intro W hSw; simp only [List.getElem_toArray, List.getElem_cons_succ, List.getElem_cons_zero]; go_simp; try (with_reducible rfl))
        simp only [List.getElem_toArray, List.getElem_cons_succ, List.getElem_cons_zero, Act.put, List.setIfInBounds_toArray, List.set_cons_zero, List.set_cons_succ]
        have p4 := P4.out.cells
        have f4 := P4.out.soft
        dsimp only at p4
        obtain ⟨a0, a1, a2, a3, a4, a5, a6⟩ := p4
        refine wpAnyH_ready (rs := [12]) (by kernel_rfl) (by simp) (AllReadyH.cons rfl (fun K hK => ?_) AllReadyH.nil)
        simp only [List.getElem_toArray, List.getElem_cons_succ, List.getElem_cons_zero]
        go_simp
        have P5 := Lib.hid (P4.out.setR HT.out (joinR y x))
        have K5 := Lib.hid (K4.out.setR (b := n) (joinR y x) (Or.inl rfl))
        refine hK.out _ _ (by exact ⟨⟨_, P5.out⟩, far4 hbn hHeld.2.1 (joinR y x), far4 hbn hHeld.2.2.1 (joinR y x), far4 hbn hHeld.2.2.2.1 (joinR y x), far4 hbn hHeld.2.2.2.2.1 (joinR y x), K5.out⟩) (fun hHeld1 => ?_)
        clear hK K hHeld hHeld1 a0 a1 a2 a3 a4 a5 a6 f4 P4 K4
        refine wpAnyH_done (by kernel_rfl) ?_ _
        go_wp2_with fail
        go_roundw
        case rel => exact ⟨j + 1, by omega, by go_num, by rw [accN_succ σ d.kids hjl (by omega), HRB.out, ← HY.out]; exact P5.out, K5.out⟩
        case measure => simp [intOf]; omega
    · have hlz : ¬ (j : Int) < (m : Int) := by omega
      have hjm : j = d.kids.length := by have := EM.out; omega
      have P2 := Lib.hid (by have := P.out; rw [hjm] at this; exact this)
      go_wp2_with fail
      refine bodyPost_end (v := .tuple #[]) (by simp [results, Tryz.results35, go_sem]) rfl ⟨rfl, P2.out, KW.out⟩
end Go.Proofs.YtobkgamcjfjghaaGreat.Rt
/-
  Contracts of newNode and newItem: a new part. Memory that was there is left as it was.
-/
namespace Go.Proofs.YtobkgamcjfjghaaGreat.Rt
open Go.RowKit Go.Proofs.YtobkgamcjfjghaaGreat.Pt Go.Proofs.YtobkgamcjfjghaaGreat.Rc Go.Proofs.YtobkgamcjfjghaaGreat.Rs
set_option linter.unusedVariables false
set_option linter.unusedSimpArgs false
set_option maxRecDepth 100000

theorem Mem.none {W : World} {σ : St} {V : Nat → Value} (h : Mem W σ V) {b : Nat} (hb : W.heap.size ≤ b) : σ b = .none := by
  cases e : σ b with
  | none => rfl
  | some d => exact absurd (h.part b d e).lt (by omega)
theorem PAt.made {W : World} {d : Pd} {s : Value} (h : W.ownsRow 0 61 1 s d.kids.length (d.kids.map ptr)) : PAt (W.alloc (.cells (pdC d s) 75)) W.heap.size d s :=
  ⟨heap_alloc_new W _, h.alloc _⟩
theorem hull_upd {σ : St} {b : Nat} {d : Pd} {l : List Nat} (h : ∀ k ∈ l, k ≠ b) : hull (upd σ b d) l = hull σ l := hull_agree fun k hk => upd_other σ d (h k hk)
set_option maxHeartbeats 1000000 in
theorem newNode_any (lv : Int) (s : Value) (ks : List Nat) (σ : St) (V : Nat → Value) (w : World) (hM : Mem w σ V) (hs : w.ownsRow 0 61 1 s ks.length (ks.map ptr)) (ha : ∀ c e g, σ c = some e → (V c).ownBlock = some g → s.ownBlock ≠ some g) (hk : ∀ k ∈ ks, ∃ e, σ k = some e) (hn : ks.length ≤ 20) :
    Calls Tryz.prog 22 #[.int .i64 lv, s] w fun e w' => ∃ b, e = .returned (ptr b) ∧ w.heap.size ≤ b ∧ σ b = .none ∧ Mem w' (upd σ b ⟨lv, hull σ ks, 0, ks⟩) (updV V b s) ∧ Below w.heap.size w w' := by
  obtain ⟨b, hb⟩ : ∃ b, b = w.heap.size := ⟨_, rfl⟩
  have hbn : σ b = .none := hM.none (by omega)
  have hne : ∀ k ∈ ks, k ≠ b := fun k hk' e => by
    obtain ⟨d, hd⟩ := hk k hk'
    rw [e, hbn] at hd
    cases hd
  have P1 : PAt (w.alloc (.cells (pdC ⟨lv, ⟨0, 0, 0, 0⟩, 0, ks⟩ s) 75)) b ⟨lv, ⟨0, 0, 0, 0⟩, 0, ks⟩ s := by rw [hb]; exact PAt.made (d := ⟨lv, ⟨0, 0, 0, 0⟩, 0, ks⟩) hs
  have M1 := hM.new hbn P1 ((Below.refl _ _).alloc (Nat.le_refl _) _) ha
  have C := Lib.hid (fit_any b ⟨lv, ⟨0, 0, 0, 0⟩, 0, ks⟩ _ _ _ M1 (upd_same _ _ _) (fun k hk' => ⟨hne k hk', by rw [upd_other _ _ (hne k hk')]; exact hk k hk'⟩) hn)
  rw [updV_same, hull_upd (fun k hk' => hne k hk')] at C
  have HM := Lib.hid hM
  have HA := Lib.hid ha
  have HB := Lib.hid hb
  have HBN := Lib.hid hbn
  unfold ptr pdC at C
  dsimp only at C
  obtain ⟨A0, c, e, -⟩ := P1.kids
  subst hb
  clear hM hs ha hk hbn hne P1 M1
  unfold ptr
  subst e
  go_enter Tryz.func22, Tryz.ntmps22
  go_wp2_with fail
  refine (C.out).mono ?_
  rintro e w1 ⟨rfl, hP, hK⟩
  have HP := Lib.hid hP
  have B1 := Lib.hid (show Below w.heap.size w w1 from ((Below.refl w.heap.size w).alloc (Nat.le_refl _) _).trans (hK.old (by simp) (fun k hk e => by omega)))
  clear hP hK C
  go_wp2_with fail
  go_ret
  exact ⟨w.heap.size, rfl, Nat.le_refl _, HBN.out, HM.out.new HBN.out HP.out B1.out HA.out, B1.out⟩
end Go.Proofs.YtobkgamcjfjghaaGreat.Rt
namespace Go.Proofs.YtobkgamcjfjghaaGreat.Rt
open Go.RowKit Go.Proofs.YtobkgamcjfjghaaGreat.Pt Go.Proofs.YtobkgamcjfjghaaGreat.Rc Go.Proofs.YtobkgamcjfjghaaGreat.Rs Go.Proofs.YtobkgamcjfjghaaGreat.Pts
set_option linter.unusedVariables false
set_option linter.unusedSimpArgs false
set_option maxRecDepth 100000

theorem A.infoRc : (Tryz.prog.info? 26).map (fun i => (i.zero, i.size, i.bytes)) = some (some (.agg #[.int .i64 0, .int .i64 0, .int .i64 0, .int .i64 0]), 4, 32) := by kernel_rfl
/-- A row of n rectangles in block g, that may be written; the first ones are these. -/
structure Rr (W : World) (g n : Nat) (ps : List R4) : Prop where
  has : ∀ j, j < n * 4 → (W.cell? ⟨g, j, none⟩).isSome = true
  soft : ∀ j, W.frozen? ⟨g, j, none⟩ = false
  at' : ∀ (k : Nat) (h : k < ps.length), W.cell? ⟨g, k * 4, none⟩ = some (.int .i64 ps[k].x1) ∧ W.cell? ⟨g, k * 4 + 1, none⟩ = some (.int .i64 ps[k].y1) ∧ W.cell? ⟨g, k * 4 + 2, none⟩ = some (.int .i64 ps[k].x2) ∧ W.cell? ⟨g, k * 4 + 3, none⟩ = some (.int .i64 ps[k].y2)
  lt : g < W.heap.size
def setQ (W : World) (g k : Nat) (r : R4) : World := (((W.setCell ⟨g, k * 4, none⟩ (.int .i64 r.x1)).setCell ⟨g, k * 4 + 1, none⟩ (.int .i64 r.y1)).setCell ⟨g, k * 4 + 2, none⟩ (.int .i64 r.x2)).setCell ⟨g, k * 4 + 3, none⟩ (.int .i64 r.y2)
theorem setQ_other (W : World) (g k : Nat) (r : R4) {j : Nat} (h0 : j ≠ k * 4) (h1 : j ≠ k * 4 + 1) (h2 : j ≠ k * 4 + 2) (h3 : j ≠ k * 4 + 3) : (setQ W g k r).cell? ⟨g, j, none⟩ = W.cell? ⟨g, j, none⟩ := by
  unfold setQ
  have ne : ∀ i, j ≠ i → (⟨g, i, none⟩ : Addr) ≠ ⟨g, j, none⟩ := fun i hi e => hi (by simpa using (congrArg Addr.off e).symm)
  rw [World.cell?_setCell_other _ _ _ _ (ne _ h3), World.cell?_setCell_other _ _ _ _ (ne _ h2), World.cell?_setCell_other _ _ _ _ (ne _ h1), World.cell?_setCell_other _ _ _ _ (ne _ h0)]
theorem Rr.put {W : World} {g n : Nat} {ps : List R4} (h : Rr W g n ps) (k : Nat) (hk : ps.length = k) (hn : k < n) (r : R4) : Rr (setQ W g k r) g n (ps ++ [r]) := by
  have ne : ∀ i j : Nat, j ≠ i → (⟨g, i, none⟩ : Addr) ≠ ⟨g, j, none⟩ := fun i j hi e => hi (by simpa using (congrArg Addr.off e).symm)
  have s0 := h.has (k * 4) (by omega)
  have s1 := h.has (k * 4 + 1) (by omega)
  have s2 := h.has (k * 4 + 2) (by omega)
  have s3 := h.has (k * 4 + 3) (by omega)
  have e0 : (setQ W g k r).cell? ⟨g, k * 4, none⟩ = some (.int .i64 r.x1) := by
    unfold setQ
    rw [World.cell?_setCell_other _ _ _ _ (ne _ _ (by omega)), World.cell?_setCell_other _ _ _ _ (ne _ _ (by omega)), World.cell?_setCell_other _ _ _ _ (ne _ _ (by omega))]
    exact World.cell?_setCell_same' _ _ _ s0
  have e1 : (setQ W g k r).cell? ⟨g, k * 4 + 1, none⟩ = some (.int .i64 r.y1) := by
    unfold setQ
    rw [World.cell?_setCell_other _ _ _ _ (ne _ _ (by omega)), World.cell?_setCell_other _ _ _ _ (ne _ _ (by omega))]
    refine World.cell?_setCell_same' _ _ _ ?_
    rw [World.cell?_setCell_other _ _ _ _ (ne _ _ (by omega))]
    exact s1
  have e2 : (setQ W g k r).cell? ⟨g, k * 4 + 2, none⟩ = some (.int .i64 r.x2) := by
    unfold setQ
    rw [World.cell?_setCell_other _ _ _ _ (ne _ _ (by omega))]
    refine World.cell?_setCell_same' _ _ _ ?_
    rw [World.cell?_setCell_other _ _ _ _ (ne _ _ (by omega)), World.cell?_setCell_other _ _ _ _ (ne _ _ (by omega))]
    exact s2
  have e3 : (setQ W g k r).cell? ⟨g, k * 4 + 3, none⟩ = some (.int .i64 r.y2) := by
    unfold setQ
    refine World.cell?_setCell_same' _ _ _ ?_
    rw [World.cell?_setCell_other _ _ _ _ (ne _ _ (by omega)), World.cell?_setCell_other _ _ _ _ (ne _ _ (by omega)), World.cell?_setCell_other _ _ _ _ (ne _ _ (by omega))]
    exact s3
  refine ⟨fun j hj => ?_, fun j => ?_, fun i hi => ?_, ?_⟩
  · by_cases h0 : j = k * 4
    · rw [h0, e0]; rfl
    by_cases h1 : j = k * 4 + 1
    · rw [h1, e1]; rfl
    by_cases h2 : j = k * 4 + 2
    · rw [h2, e2]; rfl
    by_cases h3 : j = k * 4 + 3
    · rw [h3, e3]; rfl
    rw [setQ_other W g k r h0 h1 h2 h3]
    exact h.has j hj
  · unfold setQ
    rw [frozen_set, frozen_set, frozen_set, frozen_set]
    exact h.soft j
  · rw [List.length_append] at hi
    simp at hi
    by_cases hik : i < ps.length
    · have := h.at' i hik
      rw [List.getElem_append_left hik]
      rw [setQ_other W g k r (by omega) (by omega) (by omega) (by omega), setQ_other W g k r (by omega) (by omega) (by omega) (by omega), setQ_other W g k r (by omega) (by omega) (by omega) (by omega), setQ_other W g k r (by omega) (by omega) (by omega) (by omega)]
      exact this
    · have hie : i = k := by omega
      subst hie
      rw [List.getElem_append_right (by omega)]
      simp only [hk, Nat.sub_self, List.getElem_cons_zero]
      exact ⟨e0, e1, e2, e3⟩
  · unfold setQ
    simpa using h.lt
theorem Rr.made {W : World} {base e g n cap : Nat} {xs : List Value} (h : W.ownsRow base e 4 (.slice (some ⟨g, 0, none⟩) n cap) n xs) : Rr W g n [] := by
  refine ⟨fun j hj => ?_, fun j => h.frozenAt j, fun k hk => by simp at hk, ?_⟩
  · rw [h.cellAt j hj]
    have := h.1
    rw [List.getElem?_eq_getElem (by omega)]; rfl
  · rcases h.2 with ⟨e, _⟩ | ⟨g', _, _, e, _, hh, _⟩
    · cases e
    · simp at e
      rw [e.1]
      exact (Array.getElem?_eq_some_iff.1 hh).1
def RcR (w : World) (v : World) (g n : Nat) (rs : List R4) (i : Value) (wr : World) : Prop :=
  ∃ j : Nat, j ≤ n ∧ i = .int .i64 j ∧ Rr wr g n (rs.take j) ∧ Below w.heap.size w wr
theorem setQ_below {B : Nat} {w W : World} (h : Below B w W) {g k : Nat} (r : R4) (hg : B ≤ g) : Below B w (Rt.setQ W g k r) := (((h.setCell hg _).setCell hg _).setCell hg _).setCell hg _

set_option maxHeartbeats 2000000 in
theorem rects_any (n : Nat) (d : Pd) (σ : St) (V : Nat → Value) (w : World) (hM : Mem w σ V) (hd : σ n = some d) (hk : ∀ k ∈ d.kids, ∃ e, σ k = some e ∧ may4 e.r) (hn : d.kids.length ≤ 20) :
    Calls Tryz.prog 66 #[ptr n] w fun e w' => ∃ g, e = .returned (.slice (some ⟨g, 0, none⟩) d.kids.length d.kids.length) ∧ RsAt w' w'.heap.size (some ⟨g, 0, none⟩) (d.kids.map (rOf σ)) ∧ Below w.heap.size w w' := by
  have HM := Lib.hid hM
  have HP := Lib.hid (hM.part n d hd)
  have HK := Lib.hid hk
  obtain ⟨s, hs⟩ : ∃ s, s = V n := ⟨_, rfl⟩
  rw [← hs] at HP
  clear hs hM hk
  obtain ⟨A0, c, hsv, hc1, hc2, hrow⟩ := HP.out.kids
  obtain ⟨z0, z1, z2, z3, z4, z5, z6⟩ := HP.out.cells
  obtain ⟨m, em⟩ : ∃ m, m = d.kids.length := ⟨_, rfl⟩
  have EM := Lib.hid em
  have HROW := Lib.hid hrow
  rw [← em] at hn ⊢
  rw [hsv, ← em] at z6
  have HZ := Lib.hid z6
  obtain ⟨rs, hrs⟩ : ∃ rs, rs = d.kids.map (rOf σ) := ⟨_, rfl⟩
  have HRS := Lib.hid hrs
  rw [← hrs]
  have LRS : rs.length = m := by rw [hrs, List.length_map, ← em]
  have HL := Lib.hid LRS
  unfold ptr
  clear hsv hc1 hc2 hrow em hrs LRS z0 z1 z2 z3 z4 z5
  have hn' : (m : Int) ≤ 20 := by omega
  obtain ⟨i0, hi, hz0, hz1, hz2⟩ := info_parts A.infoRc
  go_enter Tryz.func66, Tryz.ntmps66
  go_wp2_with (first | (at_make; refine wpList_make_full _ rfl _ _ 55 rfl w.heap.size 26 i0 (.agg #[.int .i64 0, .int .i64 0, .int .i64 0, .int .i64 0]) 4 Tryz.underlying55 hi hz0 hz1 .i64 .i64 _ _ m rfl rfl rfl rfl (by rw [hz2]; omega) (by unfold maxLen; omega) (Nat.le_refl _) ?_; intro w2 hown hgrow; have B2 := Lib.hid ((Below.refl w.heap.size w).grown hgrow (Nat.le_refl _) (fun k hk => by cases hk)); have z7 := cell_later B2.out HZ.out))
  have R0 := Lib.hid (Rr.made hown)
  clear hown hgrow
  obtain ⟨g, hg⟩ : ∃ g, g = w.heap.size := ⟨_, rfl⟩
  rw [← hg] at R0 ⊢
  have HG := Lib.hid hg
  clear hg z6
  go_loopw [17] (fun i wr => RcR w w2 g m rs i wr) (fun i _ => m - (intOf i).toNat)
  case atStart => exact ⟨0, Nat.zero_le _, rfl, R0.out, B2.out⟩
  case round =>
    clear B2 R0 z7
    obtain ⟨j, hj, rfl, hR, hB⟩ := hrel
    have HR := Lib.hid hR
    have HB := Lib.hid hB
    clear hR hB
    by_cases hlt : j < m
    · have hlz : (j : Int) < (m : Int) := by omega
      have hj0 : (0 : Int) ≤ (j : Int) := by omega
      have hjl : j < d.kids.length := by rw [← EM.out]; exact hlt
      obtain ⟨q, eq, hq, hc⟩ := HROW.out (by omega)
      obtain ⟨b, hb⟩ : ∃ b, b = d.kids[j] := ⟨_, rfl⟩
      obtain ⟨eb, heb, hmay⟩ := HK.out b (by rw [hb]; exact List.getElem_mem hjl)
      have c6 : wr.cell? ⟨q, j, none⟩ = some (ptr b) := by rw [hb]; exact cell_later HB.out (hc j hjl)
      unfold ptr at c6
      obtain ⟨b0, b1, b2, b3, b4, -, -⟩ := (HM.out.part b eb heb).cells
      obtain ⟨x, hx⟩ : ∃ x, x = eb.r := ⟨_, rfl⟩
      rw [← hx] at b1 b2 b3 b4
      have HX := Lib.hid (show rs[j]'(by rw [HL.out]; exact hlt) = x by
        simp only [HRS.out, List.getElem_map]
        rw [← hb, rOf_some heb, hx])
      have c1 := cell_later HB.out b1
      have c2 := cell_later HB.out b2
      have c3 := cell_later HB.out b3
      have c4 := cell_later HB.out b4
      have h := HR.out
      have s0 := h.has (j * 4) (by omega)
      have s1 := h.has (j * 4 + 1) (by omega)
      have s2 := h.has (j * 4 + 2) (by omega)
      have s3 := h.has (j * 4 + 3) (by omega)
      obtain ⟨u0, t0⟩ := Option.isSome_iff_exists.1 s0
      obtain ⟨u1, t1⟩ := Option.isSome_iff_exists.1 s1
      obtain ⟨u2, t2⟩ := Option.isSome_iff_exists.1 s2
      obtain ⟨u3, t3⟩ := Option.isSome_iff_exists.1 s3
      have tf := h.soft
      subst eq
      clear hc hb hx b0 b1 b2 b3 b4 h s0 s1 s2 s3 hmay
      go_wp2_with fail
      go_roundw
      case rel =>
        refine ⟨j + 1, by omega, by go_num, ?_, ?_⟩
        · rw [List.take_succ_eq_append_getElem (by rw [HL.out]; exact hlt), HX.out]
          exact HR.out.put j (by rw [List.length_take, HL.out]; omega) hlt x
        · exact setQ_below HB.out x (by rw [HG.out]; exact Nat.le_refl _)
      case measure => simp [intOf]; omega
    · have hlz : ¬ (j : Int) < (m : Int) := by omega
      have hjm : j = m := by omega
      have h2 := HR.out
      rw [hjm, List.take_of_length_le (by rw [HL.out]; exact Nat.le_refl _)] at h2
      have HF := Lib.hid h2
      clear h2 hjm
      go_wp2_with fail
      go_ret
      refine ⟨g, rfl, ⟨by rw [HL.out]; omega, fun r hr => ?_, fun _ => ⟨g, 0, rfl, HF.out.lt, fun k hk => by simpa using HF.out.at' k hk⟩⟩, HB.out⟩
      rw [HRS.out] at hr
      obtain ⟨k, hk, rfl⟩ := List.mem_map.1 hr
      obtain ⟨e, he, hm⟩ := HK.out k hk
      rw [rOf_some he]
      exact hm
end Go.Proofs.YtobkgamcjfjghaaGreat.Rt
