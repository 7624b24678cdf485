/-
  Contracts of newNode and newItem: a new part. Memory that was there is left as it was.
-/
import Derived.Test.YtobkgamcjfjghaaGreatMf04
import Derived.OwnWalk
import Derived.Maps.AppendAt
import Derived.Maps.OwnSet
import Derived.Test.YtobkgamcjfjghaaGreatMf03
import Derived.IntWalk
import Derived.Test.YtobkgamcjfjghaaGreatMf02
import Derived.StillTailTactics
/-
  The parts of an R*-tree in memory: a store of parts, each in a block of its own, its kids in a row of its own. No function of the program here.
-/
namespace Go.Proofs.YtobkgamcjfjghaaGreat.Rt
open Go.RowKit Go.Proofs.YtobkgamcjfjghaaGreat.Pt Go.Proofs.YtobkgamcjfjghaaGreat.Rc Go.Proofs.YtobkgamcjfjghaaGreat.Rs
set_option linter.unusedVariables false
set_option linter.unusedSimpArgs false

/-- A call that leaves alone all old blocks but those of X. -/
structure Ke (X : Nat → Prop) (w w' : World) : Prop where
  os : w'.os = w.os
  tape : w'.tape = w.tape
  output : w'.output = w.output
  size : w.heap.size ≤ w'.heap.size
  block : ∀ k, k < w.heap.size → ¬ X k → w'.heap[k]? = w.heap[k]?
section
variable {X Y : Nat → Prop} {a b c : World}
theorem Ke.refl (X : Nat → Prop) (w : World) : Ke X w w := ⟨rfl, rfl, rfl, Nat.le_refl _, fun _ _ _ => rfl⟩
theorem Ke.trans (h : Ke X a b) (k : Ke Y b c) (hY : ∀ g, g < a.heap.size → Y g → X g) : Ke X a c :=
  ⟨k.os.trans h.os, k.tape.trans h.tape, k.output.trans h.output, Nat.le_trans h.size k.size, fun g hg hx => (k.block g (Nat.lt_of_lt_of_le hg h.size) (fun hy => hx (hY g hg hy))).trans (h.block g hg hx)⟩
theorem Ke.of_below (h : Below a.heap.size a b) : Ke X a b := ⟨h.os, h.tape, h.output, h.size, fun k hk _ => h.block k hk⟩
theorem Ke.below (h : Ke X a b) (k : Below b.heap.size b c) : Ke X a c := h.trans (Y := fun _ => False) (Ke.of_below k) fun _ _ h => h.elim
theorem Ke.alloc (h : Ke X a b) (o : Obj) : Ke X a (b.alloc o) := h.below ((Below.refl _ _).alloc (Nat.le_refl _) o)
theorem Ke.set (h : Ke X a b) (p j : Nat) (v : Value) (hp : X p ∨ a.heap.size ≤ p) : Ke X a (b.setCell ⟨p, j, none⟩ v) :=
  ⟨h.os, h.tape, h.output, by simpa using h.size, fun k hk hx => (Below.heap_setCell _ _ _ _ (by
    intro e
    have e' : k = p := e
    rcases hp with hp | hp
    · exact hx (e' ▸ hp)
    · omega)).trans (h.block k hk hx)⟩
theorem Ke.grown {r : Option Nat} (h : Ke X a b) (hg : b.grownBy c r) (hr : ∀ k, r = some k → X k ∨ a.heap.size ≤ k) : Ke X a c :=
  ⟨hg.os.trans h.os, hg.tape.trans h.tape, hg.output.trans h.output, Nat.le_trans h.size hg.size, fun k hk hx => (hg.block k (Nat.lt_of_lt_of_le hk h.size) (by
    intro e
    rcases hr k e.symm with h' | h'
    · exact hx h'
    · omega)).trans (h.block k hk hx)⟩
theorem Ke.drew (h : Ke X a b) : Ke X a b.drew := ⟨h.os, h.tape, h.output, h.size, h.block⟩
theorem Ke.mono (h : Ke X a b) (hy : ∀ g, g < a.heap.size → X g → Y g) : Ke Y a b := ⟨h.os, h.tape, h.output, h.size, fun k hk hx => h.block k hk fun e => hx (hy k hk e)⟩
theorem Ke.old (h : Ke X a b) {z : Nat} (hz : z ≤ a.heap.size) (hx : ∀ k, k < z → ¬ X k) : Below z a b := ⟨h.os, h.tape, h.output, h.size, fun k hk => h.block k (by omega) (hx k hk)⟩
end
def ptr (b : Nat) : Value := .pointer (some ⟨b, 0, none⟩)
def pdC (d : Pd) (s : Value) : Array Value := #[.int .i64 d.lvl, .int .i64 d.r.x1, .int .i64 d.r.y1, .int .i64 d.r.x2, .int .i64 d.r.y2, .int .i64 d.id, s]
/-- A part in block b, its kids' row in s. -/
structure PAt (W : World) (b : Nat) (d : Pd) (s : Value) : Prop where
  obj : W.heap[b]? = some (.cells (pdC d s) 75 (0, 0))
  row : W.ownsRow 0 61 1 s d.kids.length (d.kids.map ptr)
section
variable {W W' : World} {b : Nat} {d : Pd} {s : Value}
theorem PAt.lt (h : PAt W b d s) : b < W.heap.size := (Array.getElem?_eq_some_iff.1 h.obj).1
/-- The seven cells. -/
theorem PAt.cells (h : PAt W b d s) : W.cell? ⟨b, 0, none⟩ = some (.int .i64 d.lvl) ∧ W.cell? ⟨b, 1, none⟩ = some (.int .i64 d.r.x1) ∧ W.cell? ⟨b, 2, none⟩ = some (.int .i64 d.r.y1) ∧ W.cell? ⟨b, 3, none⟩ = some (.int .i64 d.r.x2) ∧ W.cell? ⟨b, 4, none⟩ = some (.int .i64 d.r.y2) ∧ W.cell? ⟨b, 5, none⟩ = some (.int .i64 d.id) ∧ W.cell? ⟨b, 6, none⟩ = some s := by
  have h1 := h.obj
  refine ⟨?_, ?_, ?_, ?_, ?_, ?_, ?_⟩ <;> simp [World.cell?, h1, pdC]
theorem PAt.soft (h : PAt W b d s) : ∀ o, W.frozen? ⟨b, o, none⟩ = false := by
  have h1 := h.obj
  intro o
  simp [World.frozen?, h1]
/-- The kids' row: its value, its cells. -/
theorem PAt.kids (h : PAt W b d s) : ∃ (A : Option Addr) (c : Nat), s = .slice A d.kids.length c ∧ d.kids.length ≤ c ∧ c ≤ maxLen ∧ (0 < d.kids.length → ∃ g, A = some ⟨g, 0, none⟩ ∧ g < W.heap.size ∧ ∀ (i : Nat) (hi : i < d.kids.length), W.cell? ⟨g, i, none⟩ = some (ptr d.kids[i])) := by
  have h1 := h.row
  rcases h1.2 with ⟨rfl, e⟩ | ⟨g, c, cur, rfl, _, hh, hc, hm, hs, _⟩
  · exact ⟨none, 0, by rw [e], by omega, Nat.zero_le _, fun h0 => by omega⟩
  · refine ⟨some ⟨g, 0, none⟩, c, rfl, hc, hm, fun _ => ⟨g, rfl, (Array.getElem?_eq_some_iff.1 hh).1, fun i hi => ?_⟩⟩
    have := h1.cellAt i (by omega)
    rw [this, List.getElem?_map, List.getElem?_eq_getElem hi]
    rfl
theorem PAt.rowBlock (h : PAt W b d s) {g : Nat} (hg : s.ownBlock = some g) : ∃ cur, W.heap[g]? = some (.cells cur 61 (0, 0)) := by
  rcases h.row.2 with ⟨rfl, e⟩ | ⟨g', c, cur, rfl, _, hh, _⟩
  · simp [Value.ownBlock] at hg
  · simp [Value.ownBlock] at hg
    subst hg
    exact ⟨cur, hh⟩
theorem PAt.same (h : PAt W b d s) (hb : W'.heap[b]? = W.heap[b]?) (hr : ∀ g, s.ownBlock = some g → W'.heap[g]? = W.heap[g]?) : PAt W' b d s := by
  refine ⟨hb.trans h.obj, h.row.1, ?_⟩
  rcases h.row.2 with ⟨e, e2⟩ | ⟨g, c, cur, rfl, k1, k2, k3⟩
  · exact Or.inl ⟨e, e2⟩
  · exact Or.inr ⟨g, c, cur, rfl, k1, (hr g rfl).trans k2, k3⟩
end
theorem PAt.later {W W' : World} {b : Nat} {d : Pd} {s : Value} (h : PAt W b d s) (hb : Below W.heap.size W W') : PAt W' b d s := h.same (hb.block b h.lt) fun g hg => by
  obtain ⟨cur, hc⟩ := h.rowBlock hg
  exact hb.block g (Array.getElem?_eq_some_iff.1 hc).1
theorem PAt.drew {W : World} {b : Nat} {d : Pd} {s : Value} (h : PAt W b d s) : PAt W.drew b d s := ⟨h.obj, h.row⟩
theorem PAt.far {W : World} {b n : Nat} {d : Pd} {s : Value} (h : PAt W b d s) (hb : b ≠ n) (hs : s.ownBlock ≠ some n) (i : Nat) (v : Value) : PAt (W.setCell ⟨n, i, none⟩ v) b d s :=
  h.same (Below.heap_setCell _ _ _ _ hb) fun g hg => Below.heap_setCell _ _ _ _ (fun e => hs (by rw [hg]; exact congrArg some e))
/-- All parts of a store; V: where their kids' rows are. -/
structure Mem (W : World) (σ : St) (V : Nat → Value) : Prop where
  part : ∀ b d, σ b = some d → PAt W b d (V b)
  apart : ∀ b c d e g, σ b = some d → σ c = some e → (V b).ownBlock = some g → (V c).ownBlock = some g → b = c
def Foot (σ : St) (V : Nat → Value) (k : Nat) : Prop := (∃ d, σ k = some d) ∨ ∃ b d, σ b = some d ∧ (V b).ownBlock = some k
section
variable {W W' : World} {σ : St} {V : Nat → Value}
theorem Mem.foot_lt (h : Mem W σ V) {k : Nat} (hk : Foot σ V k) : k < W.heap.size := by
  rcases hk with ⟨d, hd⟩ | ⟨b, d, hd, hg⟩
  · exact (h.part k d hd).lt
  · obtain ⟨cur, hc⟩ := (h.part b d hd).rowBlock hg
    exact (Array.getElem?_eq_some_iff.1 hc).1
theorem Mem.keep (h : Mem W σ V) {X : Nat → Prop} (hk : Ke X W W') (hX : ∀ k, Foot σ V k → ¬ X k) : Mem W' σ V :=
  ⟨fun b d hb => (h.part b d hb).same (hk.block b (h.part b d hb).lt (hX b (Or.inl ⟨d, hb⟩))) fun g hg => hk.block g (h.foot_lt (Or.inr ⟨b, d, hb, hg⟩)) (hX g (Or.inr ⟨b, d, hb, hg⟩)), h.apart⟩
theorem Mem.later (h : Mem W σ V) (hb : Below W.heap.size W W') : Mem W' σ V := h.keep (X := fun _ => False) (Ke.of_below hb) fun _ _ h => h
theorem Mem.alloc (h : Mem W σ V) (o : Obj) : Mem (W.alloc o) σ V := h.later ((Below.refl _ _).alloc (Nat.le_refl _) o)
theorem Mem.drew (h : Mem W σ V) : Mem W.drew σ V := h.keep (X := fun _ => False) (Ke.drew (Ke.refl _ _)) fun _ _ h => h
/-- Parts and rows are of two types: no block is both. -/
theorem Mem.tags (h : Mem W σ V) {b c : Nat} {d e : Pd} (hb : σ b = some d) (hc : σ c = some e) : (V c).ownBlock ≠ some b := by
  intro hg
  obtain ⟨cur, hh⟩ := (h.part c e hc).rowBlock hg
  have := (h.part b d hb).obj
  rw [this] at hh
  simp at hh
def updV (V : Nat → Value) (b : Nat) (s : Value) : Nat → Value := fun k => if k = b then s else V k
theorem updV_same (V : Nat → Value) (b : Nat) (s : Value) : updV V b s b = s := by simp [updV]
theorem updV_other (V : Nat → Value) {b k : Nat} (s : Value) (h : k ≠ b) : updV V b s k = V k := by simp [updV, h]
/-- A part is another one now; its row may be another one. -/
theorem Mem.put (h : Mem W σ V) {b : Nat} {d d' : Pd} {s : Value} (hb : σ b = some d) (hp : PAt W' b d' s) (hk : Ke (fun k => k = b ∨ (V b).ownBlock = some k) W W')
    (ha : ∀ c e g, σ c = some e → c ≠ b → (V c).ownBlock = some g → s.ownBlock ≠ some g) : Mem W' (upd σ b d') (updV V b s) := by
  have oth : ∀ c e, σ c = some e → c ≠ b → PAt W' c e (V c) := fun c e hc hcb => (h.part c e hc).same (hk.block c (h.part c e hc).lt (fun hx => hx.elim hcb (h.tags hc hb))) fun g hg => hk.block g (h.foot_lt (Or.inr ⟨c, e, hc, hg⟩)) fun hx => hx.elim (fun e2 => h.tags hb hc (e2 ▸ hg)) fun hg2 => hcb (h.apart c b e d g hc hb hg hg2)
  refine ⟨fun c e hc => ?_, fun c1 c2 e1 e2 g h1 h2 g1 g2 => ?_⟩
  · by_cases hcb : c = b
    · subst hcb
      rw [upd_same] at hc
      cases hc
      rw [updV_same]
      exact hp
    · rw [upd_other _ _ hcb] at hc
      rw [updV_other _ _ hcb]
      exact oth c e hc hcb
  · by_cases hb1 : c1 = b
    · by_cases hb2 : c2 = b
      · rw [hb1, hb2]
      · rw [hb1, updV_same] at g1
        rw [updV_other _ _ hb2] at g2
        rw [upd_other _ _ hb2] at h2
        exact absurd g1 (ha c2 e2 g h2 hb2 g2)
    · by_cases hb2 : c2 = b
      · rw [hb2, updV_same] at g2
        rw [updV_other _ _ hb1] at g1
        rw [upd_other _ _ hb1] at h1
        exact absurd g2 (ha c1 e1 g h1 hb1 g1)
      · rw [updV_other _ _ hb1] at g1
        rw [updV_other _ _ hb2] at g2
        rw [upd_other _ _ hb1] at h1
        rw [upd_other _ _ hb2] at h2
        exact h.apart c1 c2 e1 e2 g h1 h2 g1 g2
/-- A new part. -/
theorem Mem.new (h : Mem W σ V) {b : Nat} {d' : Pd} {s : Value} (hb : σ b = none) (hp : PAt W' b d' s) (hk : Below W.heap.size W W')
    (ha : ∀ c e g, σ c = some e → (V c).ownBlock = some g → s.ownBlock ≠ some g) : Mem W' (upd σ b d') (updV V b s) := by
  have hm := h.later hk
  have hne : ∀ {c : Nat} {e : Pd}, σ c = some e → c ≠ b := fun hc e2 => by rw [e2, hb] at hc; cases hc
  refine ⟨fun c e hc => ?_, fun c1 c2 e1 e2 g h1 h2 g1 g2 => ?_⟩
  · by_cases hcb : c = b
    · subst hcb
      rw [upd_same] at hc
      cases hc
      rw [updV_same]
      exact hp
    · rw [upd_other _ _ hcb] at hc
      rw [updV_other _ _ hcb]
      exact hm.part c e hc
  · by_cases hb1 : c1 = b
    · by_cases hb2 : c2 = b
      · rw [hb1, hb2]
      · rw [hb1, updV_same] at g1
        rw [updV_other _ _ hb2] at g2
        rw [upd_other _ _ hb2] at h2
        exact absurd g1 (ha c2 e2 g h2 g2)
    · by_cases hb2 : c2 = b
      · rw [hb2, updV_same] at g2
        rw [updV_other _ _ hb1] at g1
        rw [upd_other _ _ hb1] at h1
        exact absurd g2 (ha c1 e1 g h1 g1)
      · rw [updV_other _ _ hb1] at g1
        rw [updV_other _ _ hb2] at g2
        rw [upd_other _ _ hb1] at h1
        rw [upd_other _ _ hb2] at h2
        exact h.apart c1 c2 e1 e2 g h1 h2 g1 g2
/-- A block's cells, one written. -/
theorem set_obj {b : Nat} {cs : Array Value} {t : TypeId} (h : W.heap[b]? = some (.cells cs t (0, 0))) (i : Nat) (v : Value) : (W.setCell ⟨b, i, none⟩ v).heap[b]? = some (.cells (cs.setIfInBounds i v) t (0, 0)) := by
  simp [World.setCell, h, Array.getElem?_modify]
/-- A part's rectangle, written. -/
def setR (W : World) (b : Nat) (r : R4) : World := (((W.setCell ⟨b, 1, none⟩ (.int .i64 r.x1)).setCell ⟨b, 2, none⟩ (.int .i64 r.y1)).setCell ⟨b, 3, none⟩ (.int .i64 r.x2)).setCell ⟨b, 4, none⟩ (.int .i64 r.y2)
theorem Ke.setR {X : Nat → Prop} {a : World} (h : Ke X a W) {b : Nat} (r : R4) (hb : X b ∨ a.heap.size ≤ b) : Ke X a (Rt.setR W b r) := (((h.set b 1 _ hb).set b 2 _ hb).set b 3 _ hb).set b 4 _ hb
theorem PAt.setR {b : Nat} {d : Pd} {s : Value} (h : PAt W b d s) (hs : s.ownBlock ≠ some b) (r : R4) : PAt (Rt.setR W b r) b { d with r := r } s := by
  refine ⟨?_, ?_⟩
  · have h1 := set_obj h.obj 1 (.int .i64 r.x1)
    have h2 := set_obj h1 2 (.int .i64 r.y1)
    have h3 := set_obj h2 3 (.int .i64 r.x2)
    have h4 := set_obj h3 4 (.int .i64 r.y2)
    rw [show Rt.setR W b r = _ from rfl]
    unfold Rt.setR
    rw [h4]
    simp [pdC]
  · refine ⟨h.row.1, ?_⟩
    rcases h.row.2 with ⟨e, e2⟩ | ⟨g, c, cur, rfl, k1, k2, k3⟩
    · exact Or.inl ⟨e, e2⟩
    · have hg : g ≠ b := fun e => hs (by rw [e]; rfl)
      refine Or.inr ⟨g, c, cur, rfl, k1, ?_, k3⟩
      unfold Rt.setR
      rw [Below.heap_setCell _ _ _ _ hg, Below.heap_setCell _ _ _ _ hg, Below.heap_setCell _ _ _ _ hg, Below.heap_setCell _ _ _ _ hg]
      exact k2
end
theorem PAt.farR {W : World} {b n : Nat} {d : Pd} {s : Value} (h : PAt W b d s) (hb : b ≠ n) (hs : s.ownBlock ≠ some n) (r : R4) : PAt (Rt.setR W n r) b d s := (((h.far hb hs 1 _).far hb hs 2 _).far hb hs 3 _).far hb hs 4 _
theorem hullF_snoc : ∀ {l : List R4} (x : R4), l ≠ [] → hullF (l ++ [x]) = joinR (hullF l) x
  | [], _, h => absurd rfl h
  | r :: t, x, _ => by
    show ((r :: (t ++ [x])).foldl joinR r) = _
    rw [show r :: (t ++ [x]) = (r :: t) ++ [x] from rfl, List.foldl_append]
    rfl
theorem hullF_one (x : R4) : hullF [x] = joinR x x := rfl
end Go.Proofs.YtobkgamcjfjghaaGreat.Rt
/-
  The tree's map of items (map[int]*part), told by a function from numbers to blocks: looked up, counted, written, deleted from.
-/
namespace Go.Proofs.YtobkgamcjfjghaaGreat.Rt
open Go.RowKit Go.Maps Go.Proofs.YtobkgamcjfjghaaGreat.Pt Go.Proofs.YtobkgamcjfjghaaGreat.Rc Go.Proofs.YtobkgamcjfjghaaGreat.Rs
set_option linter.unusedVariables false
set_option linter.unusedSimpArgs false
/-- How a pointer to a part reads. -/
def ptrE : Value → Option (DataW Unit × List MemPlace)
  | .pointer none => some (.nil, [])
  | .pointer (some ⟨b, 0, none⟩) => some (.lit (.int .i64 (b : Int)), [])
  | _ => none
theorem ptrE_ptr (b : Nat) : ptrE (ptr b) = some (.lit (.int .i64 (b : Int)), []) := rfl
theorem ptrE_inv {v : Value} {b : Nat} {ps : List MemPlace} (h : ptrE v = some (.lit (.int .i64 (b : Int)), ps)) : v = ptr b := by
  unfold ptrE at h
  split at h
  · cases h
  · simp at h
    obtain ⟨h, -⟩ := h
    have := Int.ofNat.inj h
    subst this
    rfl
  · cases h
theorem int_law : Keyed Tryz.prog 3 := int_keyed Tryz.underlying3
theorem zero_part (w : World) : (zeroValue 61).run Tryz.prog w = .ok (.pointer none) w := by kernel_rfl
def wf64 (i : Int) : Prop := -9223372036854775808 ≤ i ∧ i ≤ 9223372036854775807
theorem key_int {i : Int} (h : wf64 i) : keyOf Tryz.prog 3 (.int .i64 i) = some (.int .i64 i) := keyOf_int_mk Tryz.underlying3 (WalkArith.wf_i64 h)
theorem isKey_int {i : Int} (h : wf64 i) : WideAt.IsKeyLit (.int .i64 i) := int_law.key (key_int h)
/-- A function from numbers to blocks, changed at one. -/
def at_ (M : Int → Option Nat) (i : Int) (o : Option Nat) : Int → Option Nat := fun j => if j = i then o else M j
def oD : Option Nat → DataW Unit
  | some k => .lit (.int .i64 (k : Int))
  | none => .nil
/-- Block mb is a map of n entries that says what M says. -/
def MapAt (w : World) (mb : Nat) (M : Int → Option Nat) (n : Nat) : Prop :=
  ∃ D : DataW Unit, w.ownsMap Tryz.prog 3 ptrE mb n D ∧ size D = n ∧ ∀ i, wf64 i → has D (.int .i64 i) = (M i).isSome ∧ D.atKey (.int .i64 i) .nil = oD (M i)
section
variable {w w' : World} {mb n : Nat} {M : Int → Option Nat} {i : Int}
theorem MapAt.lt (h : MapAt w mb M n) : mb < w.heap.size := by
  obtain ⟨D, h1, _⟩ := h
  exact h1.lt
theorem MapAt.same (h : MapAt w mb M n) (hb : w'.heap[mb]? = w.heap[mb]?) : MapAt w' mb M n := by
  obtain ⟨D, ⟨es, clock, k1, k2⟩, h2⟩ := h
  exact ⟨D, ⟨es, clock, hb.trans k1, k2⟩, h2⟩
theorem MapAt.later (h : MapAt w mb M n) (hb : Below w.heap.size w w') : MapAt w' mb M n := h.same (hb.block mb h.lt)
theorem MapAt.made (w : World) : MapAt (w.alloc (.map #[] 0)) w.heap.size (fun _ => none) 0 :=
  ⟨.map [], World.ownsMap_made _ _ _ _, rfl, fun i _ => ⟨rfl, rfl⟩⟩
theorem own_size {b m : Nat} {D : DataW Unit} (h : w.ownsMap Tryz.prog 3 ptrE b m D) : w.ownsMap Tryz.prog 3 ptrE b (size D) D := by
  obtain ⟨es, clock, hb, F, hs, rfl⟩ := h
  refine ⟨es, clock, hb, F, ?_, rfl⟩
  have := length_read (H := Unit) (P := Tryz.prog) (k := 3) (R0 := ptrE) es
  show es.size ≤ List.length _
  rw [this]
  exact Nat.le_refl _
/-- 'v, ok := m[i]'. -/
theorem MapAt.look (h : MapAt w mb M n) (hi : wf64 i) : ∃ v, (Instr.lookup 60 (.map (some mb)) (.int .i64 i) true).run Tryz.prog w = .ok (.tuple #[v, .bool (M i).isSome]) w ∧ ∀ k, M i = some k → v = ptr k := by
  obtain ⟨D, h1, h2, h3⟩ := h
  obtain ⟨v, ps, hrun, hv⟩ := h1.look_ok int_law Tryz.underlying60 (zero_part w) (zd := .nil) (zp := []) rfl (key_int hi)
  obtain ⟨a, b⟩ := h3 i hi
  rw [a] at hrun
  refine ⟨v, hrun, fun k hk => ptrE_inv (ps := ps) ?_⟩
  rw [hv, b, hk]
  rfl
theorem MapAt.len (h : MapAt w mb M n) (ty : TypeId) : (Builtin.len_ #[60] ty #[.map (some mb)]).run Tryz.prog w = .ok (.int .i64 (n : Int)) w := by
  obtain ⟨D, h1, h2, h3⟩ := h
  have := h1.len Tryz.underlying60 ty
  rw [h2] at this
  exact this
/-- 'm[i] = k' where i is new. -/
theorem MapAt.store {k : Nat} (h : MapAt w mb M n) (hi : wf64 i) (hn : n < maxLen) (hnew : M i = none) : ∃ w', (Instr.mapUpdate 60 (.map (some mb)) (.int .i64 i) (ptr k)).run Tryz.prog w = .ok () w' ∧ MapAt w' mb (at_ M i (some k)) (n + 1) ∧ w.grownBy w' (some mb) := by
  obtain ⟨D, h1, h2, h3⟩ := h
  obtain ⟨w', hrun, ho, ht⟩ := h1.store int_law Tryz.underlying60 hn (key_int hi) (ptrE_ptr k)
  have hs : size (D.put (.int .i64 i) (.lit (.int .i64 (k : Int)))) = n + 1 := by
    rw [size_put (h1.tidy int_law), (h3 i hi).1, hnew, h2]
    rfl
  refine ⟨w', hrun, ⟨_, by have := own_size ho; rw [hs] at this; exact this, hs, fun j hj => ?_⟩, ht.grown⟩
  by_cases e : j = i
  · subst e
    rw [has_put_same h1.isMap (isKey_int hi), atKey_put_same h1.isMap (isKey_int hi)]
    simp [at_, oD]
  · have hne : (Lit.int .i64 j) ≠ .int .i64 i := fun h => e (by cases h; rfl)
    rw [has_put_other hne, atKey_put_other hne]
    simp only [at_, if_neg e]
    exact h3 j hj
/-- 'delete(m, i)' where i is there. -/
theorem MapAt.drop {k : Nat} (h : MapAt w mb M (n + 1)) (hi : wf64 i) (hk : M i = some k) (ty : TypeId) : ∃ w', (Builtin.delete_ #[60, 3] ty #[.map (some mb), .int .i64 i]).run Tryz.prog w = .ok (.tuple #[]) w' ∧ MapAt w' mb (at_ M i none) n ∧ w.grownBy w' (some mb) := by
  obtain ⟨D, h1, h2, h3⟩ := h
  obtain ⟨w', hrun, ho, ht⟩ := h1.drop int_law Tryz.underlying60 (key_int hi) ty
  have hs : size (D.del (.int .i64 i)) = n := by
    have := size_del (h1.tidy int_law) (k := .int .i64 i)
    rw [(h3 i hi).1, hk, h2] at this
    simpa using this
  refine ⟨w', hrun, ⟨_, by have := own_size ho; rw [hs] at this; exact this, hs, fun j hj => ?_⟩, ht.grown⟩
  by_cases e : j = i
  · subst e
    rw [has_del_same, atKey_del_same]
    simp [at_, oD]
  · have hne : (Lit.int .i64 j) ≠ .int .i64 i := fun h => e (by cases h; rfl)
    rw [has_del_other hne, atKey_del_other hne]
    simp only [at_, if_neg e]
    exact h3 j hj
end
end Go.Proofs.YtobkgamcjfjghaaGreat.Rt
/-
  Rectangles in memory, to be read; hull, may of package rsplit. Memory that was there is left as it was.
-/
namespace Go.Proofs.YtobkgamcjfjghaaGreat.Rs
open Go.RowKit Go.Proofs.YtobkgamcjfjghaaGreat.Pt Go.Proofs.YtobkgamcjfjghaaGreat.Rc Go.Proofs.YtobkgamcjfjghaaGreat.Pts
set_option linter.unusedVariables false
set_option linter.unusedSimpArgs false
set_option maxHeartbeats 4000000
set_option maxRecDepth 100000
/-- Rectangles that may be, in a slice that begins at a: at most so many. -/
def RsAt (W : World) (z : Nat) (a : Option Addr) (l : List R4) : Prop :=
  l.length ≤ 100 ∧ (∀ r ∈ l, may4 r) ∧ (0 < l.length → ∃ g o, a = some ⟨g, o, none⟩ ∧ g < z ∧ ∀ (k : Nat) (h : k < l.length), W.cell? ⟨g, o + k * 4, none⟩ = some (.int .i64 l[k].x1) ∧ W.cell? ⟨g, o + k * 4 + 1, none⟩ = some (.int .i64 l[k].y1) ∧ W.cell? ⟨g, o + k * 4 + 2, none⟩ = some (.int .i64 l[k].x2) ∧ W.cell? ⟨g, o + k * 4 + 3, none⟩ = some (.int .i64 l[k].y2))
theorem RsAt.later {W V : World} {z : Nat} {a : Option Addr} {l : List R4} (h : RsAt W z a l) (hb : Below z W V) : RsAt V z a l := by
  refine ⟨h.1, h.2.1, fun h0 => ?_⟩
  obtain ⟨g, o, e, hg, hc⟩ := h.2.2 h0
  have hq : ∀ x, V.cell? ⟨g, x, none⟩ = W.cell? ⟨g, x, none⟩ := fun x => World.cell?_of_block (w := W) (w' := V) (a := ⟨g, x, none⟩) (hb.block g hg)
  exact ⟨g, o, e, hg, fun k hk => by simp only [hq]; exact hc k hk⟩
theorem RsAt.wide {W : World} {z z' : Nat} {a : Option Addr} {l : List R4} (h : RsAt W z a l) (hz : z ≤ z') : RsAt W z' a l := by
  refine ⟨h.1, h.2.1, fun h0 => ?_⟩
  obtain ⟨g, o, e, hg, hc⟩ := h.2.2 h0
  exact ⟨g, o, e, by omega, hc⟩
/-- One of them. -/
theorem RsAt.at {W : World} {z : Nat} {a : Option Addr} {l : List R4} (h : RsAt W z a l) {k : Nat} (hk : k < l.length) : ∃ g o, a = some ⟨g, o, none⟩ ∧ g < z ∧ ∃ r, may4 r ∧ l[k] = r ∧ W.cell? ⟨g, o + k * 4, none⟩ = some (.int .i64 r.x1) ∧ W.cell? ⟨g, o + k * 4 + 1, none⟩ = some (.int .i64 r.y1) ∧ W.cell? ⟨g, o + k * 4 + 2, none⟩ = some (.int .i64 r.x2) ∧ W.cell? ⟨g, o + k * 4 + 3, none⟩ = some (.int .i64 r.y2) := by
  obtain ⟨g, o, e, hg, hc⟩ := h.2.2 (by omega)
  exact ⟨g, o, e, hg, l[k], h.2.1 _ (List.getElem_mem _), rfl, hc k hk⟩
/-- A rectangle in a block of the call's own: what it is is left open. -/
def Rk (W : World) (g : Nat) : Prop := ∃ r : R4, may4 r ∧ Rc4 W g r.x1 r.y1 r.x2 r.y2
theorem maybe_any (r : R4) (hr : may4 r) (w : World) : Calls Tryz.prog 107 #[rv r] w fun e w' => e = .returned (.bool false) ∧ Below w.heap.size w w' := by
  obtain ⟨x1, y1, x2, y2⟩ := r
  unfold rv
  dsimp only
  have CM := Lib.hid (fun W => rmay_any x1 y1 x2 y2 W)
  have hm : rmayB x1 y1 x2 y2 = true := hr
  rw [hm] at CM
  clear hr hm
  have HB := Lib.hid ((Below.refl w.heap.size w).alloc (Nat.le_refl _) (.cells #[.int .i64 x1, .int .i64 y1, .int .i64 x2, .int .i64 y2] 26))
  go_enter Tryz.func107, Tryz.ntmps107
  go_wp2_with fail
  refine Calls.mono (CM.out _) ?_
  rintro e w1 ⟨rfl, hb1⟩
  have B1 := Lib.hid (HB.out.trans (hb1.mono HB.out.size))
  clear hb1
  go_wp2_with fail
  go_ret
  exact ⟨rfl, B1.out⟩
/-- None among the first k. -/
def IxR (n : Nat) (w : World) (v8 : Value) (wr : World) : Prop := ∃ k : Nat, v8 = .int .i64 (k : Int) ∧ k ≤ n ∧ Hid (Below w.heap.size w wr)
theorem index_any (a : Option Addr) (c : Nat) (l : List R4) (w : World) (h : RsAt w w.heap.size a l) : Calls Tryz.prog 122 #[.slice a l.length c, .func (.func 107) #[] #[]] w fun e w' => e = .returned (.int .i64 (-1)) ∧ Below w.heap.size w w' := by
  have h100 := h.1
  obtain ⟨n, hn⟩ : ∃ n, n = l.length := ⟨_, rfl⟩
  have H := Lib.hid h
  have HN := Lib.hid hn
  rw [← hn] at h100 ⊢
  clear h hn
  go_enter Tryz.func122, Tryz.ntmps122
  go_wp2_with fail
  go_loopw [8] (fun v8 wr => IxR n w v8 wr) (fun v8 _ => n - (intOf v8).toNat)
  case atStart => exact ⟨0, rfl, Nat.zero_le _, Lib.hid (Below.refl _ _)⟩
  case round =>
    obtain ⟨k, rfl, hk, HW⟩ := hrel
    by_cases hlt : k < n
    · have hlz : (k : Int) < (n : Int) := by omega
      obtain ⟨g, o, rfl, hg, r, hr, -, c0, c1, c2, c3⟩ := (H.out.later HW.out).at (k := k) (by rw [← HN.out]; exact hlt)
      have CM := Lib.hid (maybe_any r hr wr)
      obtain ⟨x1, y1, x2, y2⟩ := r
      dsimp only at c0 c1 c2 c3
      clear hr
      go_wp2_with fail
      refine Calls.mono CM.out ?_
      rintro e w1 ⟨rfl, hb1⟩
      have W1 := Lib.hid (HW.out.trans (hb1.mono HW.out.size))
      clear hb1
      go_wp2_with fail
      go_roundw
      case rel => exact ⟨k + 1, by go_num, by omega, W1⟩
      case measure => simp [intOf]; omega
    · have hlz : ¬ (k : Int) < (n : Int) := by omega
      go_wp2_with fail
      go_ret
      exact ⟨rfl, HW.out⟩
theorem contains_any (a : Option Addr) (c : Nat) (l : List R4) (w : World) (h : RsAt w w.heap.size a l) : Calls Tryz.prog 106 #[.slice a l.length c, .func (.func 107) #[] #[]] w fun e w' => e = .returned (.bool false) ∧ Below w.heap.size w w' := by
  have CI := Lib.hid (index_any a c l w h)
  clear h
  go_enter Tryz.func106, Tryz.ntmps106
  go_wp2_with fail
  refine Calls.mono CI.out ?_
  rintro e w1 ⟨rfl, hb1⟩
  go_wp2_with fail
  go_ret
  exact ⟨rfl, hb1⟩
theorem rsmay_any (a : Option Addr) (c : Nat) (l : List R4) (w : World) (h : RsAt w w.heap.size a l) : Calls Tryz.prog 82 #[.slice a l.length c] w fun e w' => e = .returned (.bool true) ∧ Below w.heap.size w w' := by
  have CI := Lib.hid (contains_any a c l w h)
  have h100 := h.1
  obtain ⟨n, hn⟩ : ∃ n, n = l.length := ⟨_, rfl⟩
  rw [← hn] at h100 CI ⊢
  have hz : (n : Int) ≤ 100 := by omega
  clear h hn
  go_enter Tryz.func82, Tryz.ntmps82
  go_wp2_with fail
  refine Calls.mono CI.out ?_
  rintro e w1 ⟨rfl, hb1⟩
  go_wp2_with fail
  go_ret
  exact ⟨rfl, hb1⟩
end Go.Proofs.YtobkgamcjfjghaaGreat.Rs
/-
  Contract of package rsplit's hull: some rectangle that may be. Memory that was there is left as it was.
-/
namespace Go.Proofs.YtobkgamcjfjghaaGreat.Rs
open Go.RowKit Go.Proofs.YtobkgamcjfjghaaGreat.Pt Go.Proofs.YtobkgamcjfjghaaGreat.Rc Go.Proofs.YtobkgamcjfjghaaGreat.Pts
set_option linter.unusedVariables false
set_option linter.unusedSimpArgs false
set_option maxHeartbeats 4000000
set_option maxRecDepth 100000
def HuR (w : World) (g n : Nat) (v8 : Value) (wr : World) : Prop := ∃ k : Nat, v8 = .int .i64 (k : Int) ∧ k ≤ n ∧ Hid (Rc4 wr g 0 0 0 0) ∧ Hid (Rk wr (g + 1)) ∧ Hid (Below w.heap.size w wr)
theorem set4_below {w W : World} {g : Nat} (h : Below w.heap.size w W) (hg : w.heap.size ≤ g) (a b c d : Value) : Below w.heap.size w ((((W.setCell ⟨g, 0, none⟩ a).setCell ⟨g, 1, none⟩ b).setCell ⟨g, 2, none⟩ c).setCell ⟨g, 3, none⟩ d) :=
  (((h.setCell hg _).setCell hg _).setCell hg _).setCell hg _
theorem Rc4.set4 {W : World} {g h : Nat} {x1 y1 x2 y2 : Int} (r : Rc4 W h x1 y1 x2 y2) (hne : g ≠ h) (a b c d : Value) : Rc4 ((((W.setCell ⟨g, 0, none⟩ a).setCell ⟨g, 1, none⟩ b).setCell ⟨g, 2, none⟩ c).setCell ⟨g, 3, none⟩ d) h x1 y1 x2 y2 :=
  (((Rc4.far r _ hne).far _ hne).far _ hne).far _ hne
theorem hull_any (a : Option Addr) (c : Nat) (l : List R4) (w : World) (h : RsAt w w.heap.size a l) : Calls Tryz.prog 93 #[.slice a l.length c] w fun e w' => ∃ r, may4 r ∧ e = .returned (rv r) ∧ Below w.heap.size w w' := by
  have h100 := h.1
  obtain ⟨n, hn⟩ : ∃ n, n = l.length := ⟨_, rfl⟩
  have H := Lib.hid h
  have HN := Lib.hid hn
  rw [← hn] at h100 ⊢
  clear h hn
  obtain ⟨g, hg⟩ : ∃ g, g = w.heap.size := ⟨_, rfl⟩
  have HG := Lib.hid hg
  have Z0 := Lib.hid (show Rc4 ((w.alloc (.cells #[.int .i64 0, .int .i64 0, .int .i64 0, .int .i64 0] 26)).alloc (.cells #[.int .i64 0, .int .i64 0, .int .i64 0, .int .i64 0] 26)) g 0 0 0 0 by rw [hg]; exact (Rc4.new w 0 0 0 0 _).alloc _)
  have Z1 := Lib.hid (show Rk ((w.alloc (.cells #[.int .i64 0, .int .i64 0, .int .i64 0, .int .i64 0] 26)).alloc (.cells #[.int .i64 0, .int .i64 0, .int .i64 0, .int .i64 0] 26)) (g + 1) by
    have := Rc4.new (w.alloc (.cells #[.int .i64 0, .int .i64 0, .int .i64 0, .int .i64 0] 26)) 0 0 0 0 26
    rw [World.size_alloc, ← hg] at this
    exact ⟨⟨0, 0, 0, 0⟩, may0, this⟩)
  have B0 := Lib.hid (below2 w (.cells #[.int .i64 0, .int .i64 0, .int .i64 0, .int .i64 0] 26) (.cells #[.int .i64 0, .int .i64 0, .int .i64 0, .int .i64 0] 26))
  clear hg
  go_enter Tryz.func93, Tryz.ntmps93
  go_wp2_with fail
  rw [← HG.out]
  go_loopw [8] (fun v8 wr => HuR w g n v8 wr) (fun v8 _ => n - (intOf v8).toNat)
  case atStart => exact ⟨0, rfl, Nat.zero_le _, Z0, Z1, B0⟩
  case round =>
    obtain ⟨k, rfl, hk, R0, R1, HW⟩ := hrel
    by_cases hlt : k < n
    · have hlz : (k : Int) < (n : Int) := by omega
      obtain ⟨b, o, rfl, hb, x, hx, -, c0, c1, c2, c3⟩ := (H.out.later HW.out).at (k := k) (by rw [← HN.out]; exact hlt)
      have HX := Lib.hid hx
      obtain ⟨x1, y1, x2, y2⟩ := x
      dsimp only at c0 c1 c2 c3
      obtain ⟨r0, hm0, hr0⟩ := R1.out
      have HR0 := Lib.hid hm0
      have q0 := hr0
      obtain ⟨d0, d1, d2, d3, f0, f1, f2, f3⟩ := q0
      have q5 := hr0.alloc (.cells #[.int .i64 x1, .int .i64 y1, .int .i64 x2, .int .i64 y2] 26)
      obtain ⟨p0, p1, p2, p3, s0, s1, s2, s3⟩ := q5
      have hlt1 := hr0.lt
      have hne1 : ¬ g + 1 = wr.heap.size := by omega
      have hne2 : ¬ wr.heap.size = g + 1 := by omega
      clear hx hm0 hlt1
      by_cases h0 : k = 0
      · subst h0
        simp only [Nat.zero_mul, Nat.add_zero] at c0 c1 c2 c3
        have RA := Lib.hid (show Rc4 (((((wr.alloc (.cells #[.int .i64 x1, .int .i64 y1, .int .i64 x2, .int .i64 y2] 26)).setCell ⟨g + 1, 0, none⟩ (.int .i64 x1)).setCell ⟨g + 1, 1, none⟩ (.int .i64 y1)).setCell ⟨g + 1, 2, none⟩ (.int .i64 x2)).setCell ⟨g + 1, 3, none⟩ (.int .i64 y2)) (g + 1) x1 y1 x2 y2 from (hr0.alloc _).set x1 y1 x2 y2)
        have RB := Lib.hid (show Rc4 (((((wr.alloc (.cells #[.int .i64 x1, .int .i64 y1, .int .i64 x2, .int .i64 y2] 26)).setCell ⟨g + 1, 0, none⟩ (.int .i64 x1)).setCell ⟨g + 1, 1, none⟩ (.int .i64 y1)).setCell ⟨g + 1, 2, none⟩ (.int .i64 x2)).setCell ⟨g + 1, 3, none⟩ (.int .i64 y2)) g 0 0 0 0 from Rc4.set4 (R0.out.alloc _) (by omega) _ _ _ _)
        have BW := Lib.hid (show Below w.heap.size w (((((wr.alloc (.cells #[.int .i64 x1, .int .i64 y1, .int .i64 x2, .int .i64 y2] 26)).setCell ⟨g + 1, 0, none⟩ (.int .i64 x1)).setCell ⟨g + 1, 1, none⟩ (.int .i64 y1)).setCell ⟨g + 1, 2, none⟩ (.int .i64 x2)).setCell ⟨g + 1, 3, none⟩ (.int .i64 y2)) from set4_below (HW.out.alloc HW.out.size _) (by rw [← HG.out]; omega) _ _ _ _)
        go_wp2_with fail
        refine Calls.mono (join_any x1 y1 x2 y2 x1 y1 x2 y2 _) ?_
        rintro e w1 ⟨rfl, hb1⟩
        have R1' := Lib.hid (RA.out.later hb1)
        have R2' := Lib.hid (RB.out.later hb1)
        have B1' := Lib.hid (BW.out.trans (hb1.mono BW.out.size))
        have q1 := R1'.out
        obtain ⟨z0, z1, z2, z3, k0, k1, k2, k3⟩ := q1
        clear hb1 RA RB BW d0 d1 d2 d3 f0 f1 f2 f3 p0 p1 p2 p3 s0 s1 s2 s3
        go_wp2_with fail
        go_roundw
        case rel => exact ⟨0 + 1, by go_num, by omega, Lib.hid (Rc4.set4 R2'.out (by omega) _ _ _ _), Lib.hid ⟨_, join_may HX.out HX.out, R1'.out.set _ _ _ _⟩, Lib.hid (set4_below B1'.out (by rw [← HG.out]; omega) _ _ _ _)⟩
        case measure => simp [intOf]; omega
      · have h0z : ¬ (k : Int) = 0 := by omega
        have RA := Lib.hid (show Rc4 (wr.alloc (.cells #[.int .i64 x1, .int .i64 y1, .int .i64 x2, .int .i64 y2] 26)) (g + 1) r0.x1 r0.y1 r0.x2 r0.y2 from hr0.alloc _)
        have RB := Lib.hid (show Rc4 (wr.alloc (.cells #[.int .i64 x1, .int .i64 y1, .int .i64 x2, .int .i64 y2] 26)) g 0 0 0 0 from R0.out.alloc _)
        have BW := Lib.hid (show Below w.heap.size w (wr.alloc (.cells #[.int .i64 x1, .int .i64 y1, .int .i64 x2, .int .i64 y2] 26)) from HW.out.alloc HW.out.size _)
        go_wp2_with fail
        refine Calls.mono (join_any r0.x1 r0.y1 r0.x2 r0.y2 x1 y1 x2 y2 _) ?_
        rintro e w1 ⟨rfl, hb1⟩
        have R1' := Lib.hid (RA.out.later hb1)
        have R2' := Lib.hid (RB.out.later hb1)
        have B1' := Lib.hid (BW.out.trans (hb1.mono BW.out.size))
        have q1 := R1'.out
        obtain ⟨z0, z1, z2, z3, k0, k1, k2, k3⟩ := q1
        clear hb1 RA RB BW d0 d1 d2 d3 f0 f1 f2 f3 p0 p1 p2 p3 s0 s1 s2 s3
        go_wp2_with fail
        go_roundw
        case rel => exact ⟨k + 1, by go_num, by omega, Lib.hid (Rc4.set4 R2'.out (by omega) _ _ _ _), Lib.hid ⟨_, join_may HR0.out HX.out, R1'.out.set _ _ _ _⟩, Lib.hid (set4_below B1'.out (by rw [← HG.out]; omega) _ _ _ _)⟩
        case measure => simp [intOf]; omega
    · have hlz : ¬ (k : Int) < (n : Int) := by omega
      obtain ⟨r, hr, hc⟩ := R1.out
      obtain ⟨d0, d1, d2, d3, -, -, -, -⟩ := hc
      have q := R0.out
      obtain ⟨y0, y1, y2, y3, f0, f1, f2, f3⟩ := q
      have HR := Lib.hid hr
      have BE := Lib.hid (set4_below HW.out (show w.heap.size ≤ g by rw [HG.out]; exact Nat.le_refl _) (.int .i64 r.x1) (.int .i64 r.y1) (.int .i64 r.x2) (.int .i64 r.y2))
      clear hr
      go_wp2_with fail
      refine bodyPost_ret (v := rv r) ?hv rfl ?hr
      case hv => simp [results, Tryz.results93, go_sem, rv, *]
      case hr => exact ⟨r, HR.out, rfl, BE.out⟩
end Go.Proofs.YtobkgamcjfjghaaGreat.Rs
/-
  Contract of fit of an R*-tree's part: its rectangle is the hull of its kids'. All other blocks are left as they were.
-/
namespace Go.Proofs.YtobkgamcjfjghaaGreat.Rt
open Go.RowKit Go.Proofs.YtobkgamcjfjghaaGreat.Pt Go.Proofs.YtobkgamcjfjghaaGreat.Rc Go.Proofs.YtobkgamcjfjghaaGreat.Rs
set_option linter.unusedVariables false
set_option linter.unusedSimpArgs false
set_option maxRecDepth 100000

def accN (σ : St) (ks : List Nat) (i : Nat) : R4 := hullF ((ks.take i).map (rOf σ))
theorem accN_zero (σ : St) (ks : List Nat) : accN σ ks 0 = ⟨0, 0, 0, 0⟩ := rfl
theorem accN_all (σ : St) (ks : List Nat) : accN σ ks ks.length = hull σ ks := by unfold accN hull; rw [List.take_of_length_le (Nat.le_refl _)]
theorem accN_one (σ : St) (ks : List Nat) (h : 0 < ks.length) : accN σ ks 1 = joinR (rOf σ ks[0]) (rOf σ ks[0]) := by
  unfold accN
  rw [List.take_succ_eq_append_getElem h]
  rfl
theorem accN_succ (σ : St) (ks : List Nat) {i : Nat} (h : i < ks.length) (h0 : 0 < i) : accN σ ks (i + 1) = joinR (accN σ ks i) (rOf σ ks[i]) := by
  unfold accN
  rw [List.take_succ_eq_append_getElem h, List.map_append]
  exact hullF_snoc _ (by
    intro e
    have := congrArg List.length e
    rw [List.length_map, List.length_take, List.length_nil] at this
    omega)
/-- What is known while fit goes on. -/
def FitR (w : World) (n : Nat) (d : Pd) (s : Value) (σ : St) (i : Value) (wr : World) : Prop :=
  ∃ j : Nat, j ≤ d.kids.length ∧ i = .int .i64 j ∧ PAt wr n { d with r := accN σ d.kids j } s ∧ Ke (fun k => k = n) w wr

theorem far4 {W : World} {b n o : Nat} {v : Value} (hbn : b ≠ n) (h : W.cell? ⟨b, o, none⟩ = some v) (r : R4) : (setR W n r).cell? ⟨b, o, none⟩ = some v := by
  unfold setR
  rw [World.cell?_of_block (w' := _) (w := W) (a := ⟨b, o, none⟩) (by rw [Below.heap_setCell _ _ _ _ hbn, Below.heap_setCell _ _ _ _ hbn, Below.heap_setCell _ _ _ _ hbn, Below.heap_setCell _ _ _ _ hbn])]
  exact h
set_option maxHeartbeats 2000000 in
theorem fit_any (n : Nat) (d : Pd) (σ : St) (V : Nat → Value) (w : World) (hM : Mem w σ V) (hd : σ n = some d) (hk : ∀ k ∈ d.kids, k ≠ n ∧ ∃ e, σ k = some e) (hn : d.kids.length ≤ 20) :
    Calls Tryz.prog 35 #[ptr n] w fun e w' => e = .returned (.tuple #[]) ∧ PAt w' n { d with r := hull σ d.kids } (V n) ∧ Ke (fun k => k = n) w w' := by
  have HM := Lib.hid hM
  have HP := Lib.hid (hM.part n d hd)
  have HT := Lib.hid (hM.tags hd hd)
  have HK := Lib.hid hk
  obtain ⟨s, hs⟩ : ∃ s, s = V n := ⟨_, rfl⟩
  rw [← hs] at HP HT ⊢
  have HS := Lib.hid hs
  clear hs hM hk
  obtain ⟨A, c, hsv, hc1, hc2, hrow⟩ := HP.out.kids
  obtain ⟨z0, z1, z2, z3, z4, z5, z6⟩ := HP.out.cells
  have zf := HP.out.soft
  have P0 := Lib.hid (HP.out.setR HT.out ⟨0, 0, 0, 0⟩)
  have K0 := Lib.hid ((Ke.refl (fun k => k = n) w).setR (b := n) ⟨0, 0, 0, 0⟩ (Or.inl rfl))
  have p0 := P0.out.cells
  have pf := P0.out.soft
  unfold setR at p0 pf
  dsimp only at p0
  obtain ⟨y0, y1, y2, y3, y4, y5, y6⟩ := p0
  obtain ⟨m, em⟩ : ∃ m, m = d.kids.length := ⟨_, rfl⟩
  have EM := Lib.hid em
  have HSV := Lib.hid hsv
  rw [← em] at hn
  rw [hsv, ← em] at z6 y6
  rw [← accN_all]
  unfold ptr
  clear hsv hc1 hc2 hrow em
  have hn' : (m : Int) ≤ 20 := by omega
  go_enter Tryz.func35, Tryz.ntmps35
  go_wp2_with fail
  go_loopw [13] (fun i wr => FitR w n d s σ i wr) (fun i _ => m - (intOf i).toNat)
  case atStart => exact ⟨0, Nat.zero_le _, rfl, P0.out, K0.out⟩
  case round =>
    clear z0 z1 z2 z3 z4 z5 z6 zf y0 y1 y2 y3 y4 y5 y6 pf P0 K0
    obtain ⟨j, hj, rfl, hP, hKe⟩ := hrel
    rw [← EM.out] at hj
    have P := Lib.hid hP
    have KW := Lib.hid hKe
    clear hP hKe
    by_cases hlt : j < m
    · have hlz : (j : Int) < (m : Int) := by omega
      have hj0 : (0 : Int) ≤ (j : Int) := by omega
      have hjl : j < d.kids.length := by rw [← EM.out]; exact hlt
      obtain ⟨A', c', e1, -, -, e4⟩ := P.out.kids
      obtain ⟨g, eg, hg, e5⟩ := e4 (by dsimp only; omega)
      have e6 := e5 j hjl
      rw [HSV.out] at e1
      simp only [Value.slice.injEq] at e1
      obtain ⟨e7, -, -⟩ := e1
      rw [eg] at e7
      subst e7
      dsimp only at e6
      obtain ⟨b, hb⟩ : ∃ b, b = d.kids[j] := ⟨_, rfl⟩
      obtain ⟨hbn, eb, heb⟩ := HK.out b (by rw [hb]; exact List.getElem_mem hjl)
      rw [← hb] at e6
      unfold ptr at e6
      have PB := Lib.hid ((HM.out.part b eb heb).same (KW.out.block b (HM.out.part b eb heb).lt hbn) (fun g' hg' => KW.out.block g' (HM.out.foot_lt (Or.inr ⟨b, eb, heb, hg'⟩)) (fun e => HM.out.tags hd heb (e ▸ hg'))))
      have HB := Lib.hid hb
      have HRB := Lib.hid (show rOf σ d.kids[j] = eb.r by rw [← hb]; exact rOf_some heb)
      have HTB := Lib.hid (HM.out.tags hd heb)
      clear e5 hb
      obtain ⟨b0, b1, b2, b3, b4, -, -⟩ := PB.out.cells
      obtain ⟨x, hx⟩ : ∃ x, x = eb.r := ⟨_, rfl⟩
      rw [← hx] at b1 b2 b3 b4 HRB
      have HX := Lib.hid hx
      clear hx
      obtain ⟨z0, z1, z2, z3, z4, z5, z6⟩ := P.out.cells
      have zf := P.out.soft
      dsimp only at z0 z1 z2 z3 z4 z5 z6
      by_cases h0 : j = 0
      · subst h0
        obtain ⟨W2, hW2⟩ : ∃ W2, W2 = setR wr n x := ⟨_, rfl⟩
        have P1 := Lib.hid (show PAt W2 n _ s by rw [hW2]; exact P.out.setR HT.out x)
        have K1 := Lib.hid (show Ke (fun k => k = n) w W2 by rw [hW2]; exact KW.out.setR (b := n) x (Or.inl rfl))
        have QB := Lib.hid (show PAt W2 b eb (V b) by rw [hW2]; exact PB.out.farR hbn HTB.out x)
        unfold setR at hW2
        have HW2 := Lib.hid hW2
        clear b0 hW2
        go_wp2_with fail
        rw [← HW2.out]
        clear z0 z1 z2 z3 z4 z5 zf z6 b1 b2 b3 b4 e6 HW2
        have q := P1.out.cells
        have qb := QB.out.cells
        dsimp only at q
        obtain ⟨q0, q1, q2, q3, q4, q5, q6⟩ := q
        obtain ⟨r0, r1, r2, r3, r4, -, -⟩ := qb
        rw [← HX.out] at r1 r2 r3 r4
        refine wp_region_held_drew (S := (fun W => (∃ y, PAt W n { d with r := y } s) ∧ W.cell? ⟨b, 1, none⟩ = some (.int .i64 x.x1) ∧ W.cell? ⟨b, 2, none⟩ = some (.int .i64 x.y1) ∧ W.cell? ⟨b, 3, none⟩ = some (.int .i64 x.x2) ∧ W.cell? ⟨b, 4, none⟩ = some (.int .i64 x.y2) ∧ Ke (fun k => k = n) w W)) (by kernel_rfl) ⟨⟨_, P1.out.drew⟩, r1, r2, r3, r4, K1.out.drew⟩ (fun hHeld => ?_)
        refine wpAnyH_take (i := 0) (v := ?vA0) rfl (by kernel_rfl) (by kernel_rfl) (by kernel_rfl) (fun _ _ _ h => h) (Or.inl ⟨by rfl, ?yA0⟩) hHeld ?rA0
        case yA0 => (intro W hSw; simp only [List.getElem_toArray, List.getElem_cons_zero]; go_simp; try (with_reducible rfl))
        simp only [List.getElem_toArray, List.getElem_cons_zero, Act.put, List.setIfInBounds_toArray, List.set_cons_zero, List.set_cons_succ]
        refine wpAnyH_take (i := 1) (v := ?vA1) rfl (by kernel_rfl) (by kernel_rfl) (by kernel_rfl) (fun _ _ _ h => h) (Or.inl ⟨by rfl, ?yA1⟩) hHeld ?rA1
        case yA1 => (intro W hSw; simp only [List.getElem_toArray, List.getElem_cons_succ, List.getElem_cons_zero]; go_simp; try (with_reducible rfl))
        simp only [List.getElem_toArray, List.getElem_cons_succ, List.getElem_cons_zero, Act.put, List.setIfInBounds_toArray, List.set_cons_zero, List.set_cons_succ]
        refine wpAnyH_take (i := 2) (v := ?vA2) rfl (by kernel_rfl) (by kernel_rfl) (by kernel_rfl) (fun _ _ _ h => h) (Or.inl ⟨by rfl, ?yA2⟩) hHeld ?rA2
        case yA2 => (intro W hSw; simp only [List.getElem_toArray, List.getElem_cons_succ, List.getElem_cons_zero]; go_simp; try (with_reducible rfl))
        simp only [List.getElem_toArray, List.getElem_cons_succ, List.getElem_cons_zero, Act.put, List.setIfInBounds_toArray, List.set_cons_zero, List.set_cons_succ]
        refine wpAnyH_take (i := 3) (v := ?vA3) rfl (by kernel_rfl) (by kernel_rfl) (by kernel_rfl) (fun _ _ _ h => h) (Or.inl ⟨by rfl, ?yA3⟩) hHeld ?rA3
        case yA3 => (intro W hSw; simp only [List.getElem_toArray, List.getElem_cons_succ, List.getElem_cons_zero]; go_simp; try (with_reducible rfl))
        simp only [List.getElem_toArray, List.getElem_cons_succ, List.getElem_cons_zero, Act.put, List.setIfInBounds_toArray, List.set_cons_zero, List.set_cons_succ]
        refine wpAnyH_take (i := 5) (v := ?vA5) rfl (by kernel_rfl) (by kernel_rfl) (by kernel_rfl) (fun _ _ _ h => h) (Or.inl ⟨by rfl, ?yA5⟩) hHeld ?rA5
        case yA5 => (intro W hSw; simp only [List.getElem_toArray, List.getElem_cons_succ, List.getElem_cons_zero]; go_simp; try (with_reducible rfl))
        simp only [List.getElem_toArray, List.getElem_cons_succ, List.getElem_cons_zero, Act.put, List.setIfInBounds_toArray, List.set_cons_zero, List.set_cons_succ]
        refine wpAnyH_take (i := 6) (v := ?vA6) rfl (by kernel_rfl) (by kernel_rfl) (by kernel_rfl) (fun _ _ _ h => h) (Or.inl ⟨by rfl, ?yA6⟩) hHeld ?rA6
        case yA6 => (intro W hSw; simp only [List.getElem_toArray, List.getElem_cons_succ, List.getElem_cons_zero]; go_simp; try (with_reducible rfl))
        simp only [List.getElem_toArray, List.getElem_cons_succ, List.getElem_cons_zero, Act.put, List.setIfInBounds_toArray, List.set_cons_zero, List.set_cons_succ]
        refine wpAnyH_take (i := 7) (v := ?vA7) rfl (by kernel_rfl) (by kernel_rfl) (by kernel_rfl) (fun _ _ _ h => h) (Or.inl ⟨by rfl, ?yA7⟩) hHeld ?rA7
        case yA7 => (intro W hSw; simp only [List.getElem_toArray, List.getElem_cons_succ, List.getElem_cons_zero]; go_simp; try (with_reducible rfl))
        simp only [List.getElem_toArray, List.getElem_cons_succ, List.getElem_cons_zero, Act.put, List.setIfInBounds_toArray, List.set_cons_zero, List.set_cons_succ]
        refine wpAnyH_take (i := 8) (v := ?vA8) rfl (by kernel_rfl) (by kernel_rfl) (by kernel_rfl) (fun _ _ _ h => h) (Or.inl ⟨by rfl, ?yA8⟩) hHeld ?rA8
        case yA8 => (intro W hSw; simp only [List.getElem_toArray, List.getElem_cons_succ, List.getElem_cons_zero]; go_simp; try (with_reducible rfl))
        simp only [List.getElem_toArray, List.getElem_cons_succ, List.getElem_cons_zero, Act.put, List.setIfInBounds_toArray, List.set_cons_zero, List.set_cons_succ]
        refine wpAnyH_ready (rs := [4]) (by kernel_rfl) (by simp) (AllReadyH.cons rfl (fun K hK => ?_) AllReadyH.nil)
        simp only [List.getElem_toArray, List.getElem_cons_succ, List.getElem_cons_zero]
        go_simp
        refine hK.out _ _ (by exact hHeld) (fun hHeld1 => ?_)
        clear hK K hHeld
        have hHeld := hHeld1; clear hHeld1
        try simp only [List.getElem_toArray, List.getElem_cons_succ, List.getElem_cons_zero, Act.put, List.setIfInBounds_toArray, List.set_cons_zero, List.set_cons_succ]
        refine wpAnyH_ready (rs := [9]) (by kernel_rfl) (by simp) (AllReadyH.cons rfl (fun K hK => ?_) AllReadyH.nil)
        simp only [List.getElem_toArray, List.getElem_cons_succ, List.getElem_cons_zero]
        go_simp
        go_at_call 49
        refine (join_any x.x1 x.y1 x.x2 x.y2 x.x1 x.y1 x.x2 x.y2 _).mono ?_
        rintro e w9 ⟨rfl, hb1⟩
        try go_wp2_with fail
        have P4 := Lib.hid (P1.out.drew.later hb1)
        have K4 := Lib.hid (K1.out.drew.below hb1)
        refine hK.out _ _ (by exact ⟨⟨_, P4.out⟩, cell_later hb1 hHeld.2.1, cell_later hb1 hHeld.2.2.1, cell_later hb1 hHeld.2.2.2.1, cell_later hb1 hHeld.2.2.2.2.1, K4.out⟩) (fun hHeld1 => ?_)
        clear hK K hHeld hb1 q0 q1 q2 q3 q4 q5 q6
        have hHeld := hHeld1; clear hHeld1
        try simp only [List.getElem_toArray, List.getElem_cons_succ, List.getElem_cons_zero, Act.put, List.setIfInBounds_toArray, List.set_cons_zero, List.set_cons_succ]
        refine wpAnyH_take (i := 10) (v := ?vAz10) rfl (by kernel_rfl) (by kernel_rfl) (by kernel_rfl) (fun _ _ _ h => h) (Or.inl ⟨by rfl, ?yAz10⟩) hHeld ?rAz10
        case yAz10 => (intro W hSw; simp only [List.getElem_toArray, List.getElem_cons_succ, List.getElem_cons_zero]; go_simp; try (with_reducible rfl))
        simp only [List.getElem_toArray, List.getElem_cons_succ, List.getElem_cons_zero, Act.put, List.setIfInBounds_toArray, List.set_cons_zero, List.set_cons_succ]
        refine wpAnyH_take (i := 11) (v := ?vAz11) rfl (by kernel_rfl) (by kernel_rfl) (by kernel_rfl) (fun _ _ _ h => h) (Or.inl ⟨by rfl, ?yAz11⟩) hHeld ?rAz11
        case yAz11 => (intro W hSw; simp only [List.getElem_toArray, List.getElem_cons_succ, List.getElem_cons_zero]; go_simp; try (with_reducible rfl))
        simp only [List.getElem_toArray, List.getElem_cons_succ, List.getElem_cons_zero, Act.put, List.setIfInBounds_toArray, List.set_cons_zero, List.set_cons_succ]
        have p4 := P4.out.cells
        have f4 := P4.out.soft
        dsimp only at p4
        obtain ⟨a0, a1, a2, a3, a4, a5, a6⟩ := p4
        refine wpAnyH_ready (rs := [12]) (by kernel_rfl) (by simp) (AllReadyH.cons rfl (fun K hK => ?_) AllReadyH.nil)
        simp only [List.getElem_toArray, List.getElem_cons_succ, List.getElem_cons_zero]
        go_simp
        have P5 := Lib.hid (P4.out.setR HT.out (joinR x x))
        have K5 := Lib.hid (K4.out.setR (b := n) (joinR x x) (Or.inl rfl))
        refine hK.out _ _ (by exact ⟨⟨_, P5.out⟩, far4 hbn hHeld.2.1 (joinR x x), far4 hbn hHeld.2.2.1 (joinR x x), far4 hbn hHeld.2.2.2.1 (joinR x x), far4 hbn hHeld.2.2.2.2.1 (joinR x x), K5.out⟩) (fun hHeld1 => ?_)
        clear hK K hHeld hHeld1 a0 a1 a2 a3 a4 a5 a6 f4 P4 K4
        refine wpAnyH_done (by kernel_rfl) ?_ _
        go_wp2_with fail
        go_roundw
        case rel => exact ⟨0 + 1, by omega, by go_num, by rw [accN_one σ d.kids hjl, HRB.out]; exact P5.out, K5.out⟩
        case measure => simp [intOf]; omega
      · have h0z : ¬ (j : Int) = 0 := by omega
        obtain ⟨y, hy⟩ : ∃ y, y = accN σ d.kids j := ⟨_, rfl⟩
        rw [← hy] at z1 z2 z3 z4 P
        have HY := Lib.hid hy
        clear hy
        go_wp2_with fail
        refine wp_region_held_drew (S := (fun W => (∃ y, PAt W n { d with r := y } s) ∧ W.cell? ⟨b, 1, none⟩ = some (.int .i64 x.x1) ∧ W.cell? ⟨b, 2, none⟩ = some (.int .i64 x.y1) ∧ W.cell? ⟨b, 3, none⟩ = some (.int .i64 x.x2) ∧ W.cell? ⟨b, 4, none⟩ = some (.int .i64 x.y2) ∧ Ke (fun k => k = n) w W)) (by kernel_rfl) ⟨⟨_, P.out.drew⟩, b1, b2, b3, b4, KW.out.drew⟩ (fun hHeld => ?_)
        refine wpAnyH_take (i := 0) (v := ?vB0) rfl (by kernel_rfl) (by kernel_rfl) (by kernel_rfl) (fun _ _ _ h => h) (Or.inl ⟨by rfl, ?yB0⟩) hHeld ?rB0
        case yB0 => (intro W hSw; simp only [List.getElem_toArray, List.getElem_cons_zero]; go_simp; try (with_reducible rfl))
        simp only [List.getElem_toArray, List.getElem_cons_zero, Act.put, List.setIfInBounds_toArray, List.set_cons_zero, List.set_cons_succ]
        refine wpAnyH_take (i := 1) (v := ?vB1) rfl (by kernel_rfl) (by kernel_rfl) (by kernel_rfl) (fun _ _ _ h => h) (Or.inl ⟨by rfl, ?yB1⟩) hHeld ?rB1
        case yB1 => (intro W hSw; simp only [List.getElem_toArray, List.getElem_cons_succ, List.getElem_cons_zero]; go_simp; try (with_reducible rfl))
        simp only [List.getElem_toArray, List.getElem_cons_succ, List.getElem_cons_zero, Act.put, List.setIfInBounds_toArray, List.set_cons_zero, List.set_cons_succ]
        refine wpAnyH_take (i := 2) (v := ?vB2) rfl (by kernel_rfl) (by kernel_rfl) (by kernel_rfl) (fun _ _ _ h => h) (Or.inl ⟨by rfl, ?yB2⟩) hHeld ?rB2
        case yB2 => (intro W hSw; simp only [List.getElem_toArray, List.getElem_cons_succ, List.getElem_cons_zero]; go_simp; try (with_reducible rfl))
        simp only [List.getElem_toArray, List.getElem_cons_succ, List.getElem_cons_zero, Act.put, List.setIfInBounds_toArray, List.set_cons_zero, List.set_cons_succ]
        refine wpAnyH_take (i := 3) (v := ?vB3) rfl (by kernel_rfl) (by kernel_rfl) (by kernel_rfl) (fun _ _ _ h => h) (Or.inl ⟨by rfl, ?yB3⟩) hHeld ?rB3
        case yB3 => (intro W hSw; simp only [List.getElem_toArray, List.getElem_cons_succ, List.getElem_cons_zero]; go_simp; try (with_reducible rfl))
        simp only [List.getElem_toArray, List.getElem_cons_succ, List.getElem_cons_zero, Act.put, List.setIfInBounds_toArray, List.set_cons_zero, List.set_cons_succ]
        refine wpAnyH_take (i := 5) (v := ?vB5) rfl (by kernel_rfl) (by kernel_rfl) (by kernel_rfl) (fun _ _ _ h => h) (Or.inl ⟨by rfl, ?yB5⟩) hHeld ?rB5
        case yB5 => (intro W hSw; simp only [List.getElem_toArray, List.getElem_cons_succ, List.getElem_cons_zero]; go_simp; try (with_reducible rfl))
        simp only [List.getElem_toArray, List.getElem_cons_succ, List.getElem_cons_zero, Act.put, List.setIfInBounds_toArray, List.set_cons_zero, List.set_cons_succ]
        refine wpAnyH_take (i := 6) (v := ?vB6) rfl (by kernel_rfl) (by kernel_rfl) (by kernel_rfl) (fun _ _ _ h => h) (Or.inl ⟨by rfl, ?yB6⟩) hHeld ?rB6
        case yB6 => (intro W hSw; simp only [List.getElem_toArray, List.getElem_cons_succ, List.getElem_cons_zero]; go_simp; try (with_reducible rfl))
        simp only [List.getElem_toArray, List.getElem_cons_succ, List.getElem_cons_zero, Act.put, List.setIfInBounds_toArray, List.set_cons_zero, List.set_cons_succ]
        refine wpAnyH_take (i := 7) (v := ?vB7) rfl (by kernel_rfl) (by kernel_rfl) (by kernel_rfl) (fun _ _ _ h => h) (Or.inl ⟨by rfl, ?yB7⟩) hHeld ?rB7
        case yB7 => (intro W hSw; simp only [List.getElem_toArray, List.getElem_cons_succ, List.getElem_cons_zero]; go_simp; try (with_reducible rfl))
        simp only [List.getElem_toArray, List.getElem_cons_succ, List.getElem_cons_zero, Act.put, List.setIfInBounds_toArray, List.set_cons_zero, List.set_cons_succ]
        refine wpAnyH_take (i := 8) (v := ?vB8) rfl (by kernel_rfl) (by kernel_rfl) (by kernel_rfl) (fun _ _ _ h => h) (Or.inl ⟨by rfl, ?yB8⟩) hHeld ?rB8
        case yB8 => (intro W hSw; simp only [List.getElem_toArray, List.getElem_cons_succ, List.getElem_cons_zero]; go_simp; try (with_reducible rfl))
        simp only [List.getElem_toArray, List.getElem_cons_succ, List.getElem_cons_zero, Act.put, List.setIfInBounds_toArray, List.set_cons_zero, List.set_cons_succ]
        refine wpAnyH_ready (rs := [4]) (by kernel_rfl) (by simp) (AllReadyH.cons rfl (fun K hK => ?_) AllReadyH.nil)
        simp only [List.getElem_toArray, List.getElem_cons_succ, List.getElem_cons_zero]
        go_simp
        refine hK.out _ _ (by exact hHeld) (fun hHeld1 => ?_)
        clear hK K hHeld
        have hHeld := hHeld1; clear hHeld1
        try simp only [List.getElem_toArray, List.getElem_cons_succ, List.getElem_cons_zero, Act.put, List.setIfInBounds_toArray, List.set_cons_zero, List.set_cons_succ]
        refine wpAnyH_ready (rs := [9]) (by kernel_rfl) (by simp) (AllReadyH.cons rfl (fun K hK => ?_) AllReadyH.nil)
        simp only [List.getElem_toArray, List.getElem_cons_succ, List.getElem_cons_zero]
        go_simp
        go_at_call 49
        refine (join_any y.x1 y.y1 y.x2 y.y2 x.x1 x.y1 x.x2 x.y2 _).mono ?_
        rintro e w9 ⟨rfl, hb1⟩
        try go_wp2_with fail
        have P4 := Lib.hid (P.out.drew.later hb1)
        have K4 := Lib.hid (KW.out.drew.below hb1)
        refine hK.out _ _ (by exact ⟨⟨_, P4.out⟩, cell_later hb1 hHeld.2.1, cell_later hb1 hHeld.2.2.1, cell_later hb1 hHeld.2.2.2.1, cell_later hb1 hHeld.2.2.2.2.1, K4.out⟩) (fun hHeld1 => ?_)
        clear hK K hHeld hb1 z0 z1 z2 z3 z4 z5 z6
        have hHeld := hHeld1; clear hHeld1
        try simp only [List.getElem_toArray, List.getElem_cons_succ, List.getElem_cons_zero, Act.put, List.setIfInBounds_toArray, List.set_cons_zero, List.set_cons_succ]
        refine wpAnyH_take (i := 10) (v := ?vBz10) rfl (by kernel_rfl) (by kernel_rfl) (by kernel_rfl) (fun _ _ _ h => h) (Or.inl ⟨by rfl, ?yBz10⟩) hHeld ?rBz10
        case yBz10 => (intro W hSw; simp only [List.getElem_toArray, List.getElem_cons_succ, List.getElem_cons_zero]; go_simp; try (with_reducible rfl))
        simp only [List.getElem_toArray, List.getElem_cons_succ, List.getElem_cons_zero, Act.put, List.setIfInBounds_toArray, List.set_cons_zero, List.set_cons_succ]
        refine wpAnyH_take (i := 11) (v := ?vBz11) rfl (by kernel_rfl) (by kernel_rfl) (by kernel_rfl) (fun _ _ _ h => h) (Or.inl ⟨by rfl, ?yBz11⟩) hHeld ?rBz11
        case yBz11 => (intro W hSw; simp only [List.getElem_toArray, List.getElem_cons_succ, List.getElem_cons_zero]; go_simp; try (with_reducible rfl))
        simp only [List.getElem_toArray, List.getElem_cons_succ, List.getElem_cons_zero, Act.put, List.setIfInBounds_toArray, List.set_cons_zero, List.set_cons_succ]
        have p4 := P4.out.cells
        have f4 := P4.out.soft
        dsimp only at p4
        obtain ⟨a0, a1, a2, a3, a4, a5, a6⟩ := p4
        refine wpAnyH_ready (rs := [12]) (by kernel_rfl) (by simp) (AllReadyH.cons rfl (fun K hK => ?_) AllReadyH.nil)
        simp only [List.getElem_toArray, List.getElem_cons_succ, List.getElem_cons_zero]
        go_simp
        have P5 := Lib.hid (P4.out.setR HT.out (joinR y x))
        have K5 := Lib.hid (K4.out.setR (b := n) (joinR y x) (Or.inl rfl))
        refine hK.out _ _ (by exact ⟨⟨_, P5.out⟩, far4 hbn hHeld.2.1 (joinR y x), far4 hbn hHeld.2.2.1 (joinR y x), far4 hbn hHeld.2.2.2.1 (joinR y x), far4 hbn hHeld.2.2.2.2.1 (joinR y x), K5.out⟩) (fun hHeld1 => ?_)
        clear hK K hHeld hHeld1 a0 a1 a2 a3 a4 a5 a6 f4 P4 K4
        refine wpAnyH_done (by kernel_rfl) ?_ _
        go_wp2_with fail
        go_roundw
        case rel => exact ⟨j + 1, by omega, by go_num, by rw [accN_succ σ d.kids hjl (by omega), HRB.out, ← HY.out]; exact P5.out, K5.out⟩
        case measure => simp [intOf]; omega
    · have hlz : ¬ (j : Int) < (m : Int) := by omega
      have hjm : j = d.kids.length := by have := EM.out; omega
      have P2 := Lib.hid (by have := P.out; rw [hjm] at this; exact this)
      go_wp2_with fail
      refine bodyPost_end (v := .tuple #[]) (by simp [results, Tryz.results35, go_sem]) rfl ⟨rfl, P2.out, KW.out⟩
end Go.Proofs.YtobkgamcjfjghaaGreat.Rt
namespace Go.Proofs.YtobkgamcjfjghaaGreat.Rt
open Go.RowKit Go.Proofs.YtobkgamcjfjghaaGreat.Pt Go.Proofs.YtobkgamcjfjghaaGreat.Rc Go.Proofs.YtobkgamcjfjghaaGreat.Rs
set_option linter.unusedVariables false
set_option linter.unusedSimpArgs false
set_option maxRecDepth 100000

theorem Mem.none {W : World} {σ : St} {V : Nat → Value} (h : Mem W σ V) {b : Nat} (hb : W.heap.size ≤ b) : σ b = .none := by
  cases e : σ b with
  | none => rfl
  | some d => exact absurd (h.part b d e).lt (by omega)
theorem PAt.made {W : World} {d : Pd} {s : Value} (h : W.ownsRow 0 61 1 s d.kids.length (d.kids.map ptr)) : PAt (W.alloc (.cells (pdC d s) 75)) W.heap.size d s :=
  ⟨heap_alloc_new W _, h.alloc _⟩
theorem hull_upd {σ : St} {b : Nat} {d : Pd} {l : List Nat} (h : ∀ k ∈ l, k ≠ b) : hull (upd σ b d) l = hull σ l := hull_agree fun k hk => upd_other σ d (h k hk)
theorem upd_twice (σ : St) (b : Nat) (d e : Pd) : upd (upd σ b d) b e = upd σ b e := by
  funext k
  unfold upd
  split <;> rfl
theorem updV_twice (V : Nat → Value) (b : Nat) (s t : Value) : updV (updV V b s) b t = updV V b t := by
  funext k
  unfold updV
  split <;> rfl
set_option maxHeartbeats 1000000 in
theorem newNode_any (lv : Int) (s : Value) (ks : List Nat) (σ : St) (V : Nat → Value) (w : World) (hM : Mem w σ V) (hs : w.ownsRow 0 61 1 s ks.length (ks.map ptr)) (ha : ∀ c e g, σ c = some e → (V c).ownBlock = some g → s.ownBlock ≠ some g) (hk : ∀ k ∈ ks, ∃ e, σ k = some e) (hn : ks.length ≤ 20) :
    Calls Tryz.prog 22 #[.int .i64 lv, s] w fun e w' => ∃ b, e = .returned (ptr b) ∧ w.heap.size ≤ b ∧ σ b = .none ∧ Mem w' (upd σ b ⟨lv, hull σ ks, 0, ks⟩) (updV V b s) ∧ Below w.heap.size w w' := by
  obtain ⟨b, hb⟩ : ∃ b, b = w.heap.size := ⟨_, rfl⟩
  have hbn : σ b = .none := hM.none (by omega)
  have hne : ∀ k ∈ ks, k ≠ b := fun k hk' e => by
    obtain ⟨d, hd⟩ := hk k hk'
    rw [e, hbn] at hd
    cases hd
  have P1 : PAt (w.alloc (.cells (pdC ⟨lv, ⟨0, 0, 0, 0⟩, 0, ks⟩ s) 75)) b ⟨lv, ⟨0, 0, 0, 0⟩, 0, ks⟩ s := by rw [hb]; exact PAt.made (d := ⟨lv, ⟨0, 0, 0, 0⟩, 0, ks⟩) hs
  have M1 := hM.new hbn P1 ((Below.refl _ _).alloc (Nat.le_refl _) _) ha
  have C := Lib.hid (fit_any b ⟨lv, ⟨0, 0, 0, 0⟩, 0, ks⟩ _ _ _ M1 (upd_same _ _ _) (fun k hk' => ⟨hne k hk', by rw [upd_other _ _ (hne k hk')]; exact hk k hk'⟩) hn)
  rw [updV_same, hull_upd (fun k hk' => hne k hk')] at C
  have HM := Lib.hid hM
  have HA := Lib.hid ha
  have HB := Lib.hid hb
  have HBN := Lib.hid hbn
  unfold ptr pdC at C
  dsimp only at C
  obtain ⟨A0, c, e, -⟩ := P1.kids
  subst hb
  clear hM hs ha hk hbn hne P1 M1
  unfold ptr
  subst e
  go_enter Tryz.func22, Tryz.ntmps22
  go_wp2_with fail
  refine (C.out).mono ?_
  rintro e w1 ⟨rfl, hP, hK⟩
  have HP := Lib.hid hP
  have B1 := Lib.hid (show Below w.heap.size w w1 from ((Below.refl w.heap.size w).alloc (Nat.le_refl _) _).trans (hK.old (by simp) (fun k hk e => by omega)))
  clear hP hK C
  go_wp2_with fail
  go_ret
  exact ⟨w.heap.size, rfl, Nat.le_refl _, HBN.out, HM.out.new HBN.out HP.out B1.out HA.out, B1.out⟩
end Go.Proofs.YtobkgamcjfjghaaGreat.Rt
