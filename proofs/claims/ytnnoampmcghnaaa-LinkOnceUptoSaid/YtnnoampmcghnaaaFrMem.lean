/-
  A reader of frames in memory; rows of slices of bytes; append of bytes and of such rows to what a call owns. No function of the program here.
-/
import Derived.Test.YtnnoampmcghnaaaFrPlain
import Derived.Test.YtnnoampmcghnaaaWiBq
import Derived.Deep.AppendLies
import Derived.Deep.RegionLaw
import Derived.Laws.Slices
namespace Go.Proofs.Ytnnoampmcghnaaa.Fr
open Go.RowKit Go.Proofs.Ytnnoampmcghnaaa.Fl Go.Proofs.Ytnnoampmcghnaaa.Wi
set_option linter.unusedVariables false
set_option linter.unusedSimpArgs false

def mn (a b : Int) : Int := if b < a then b else a
def mx (a b : Int) : Int := if a < b then b else a
theorem run_mn (P : Program) (ts : Array TypeId) (t : TypeId) (x y : Int) (W : World) : (Builtin.min_ ts t #[.int .i64 x, .int .i64 y]).run P W = .ok (.int .i64 (mn x y)) W := run_min_int2 W ts t .i64 .i64 x y
theorem run_mx (P : Program) (ts : Array TypeId) (t : TypeId) (x y : Int) (W : World) : (Builtin.max_ ts t #[.int .i64 x, .int .i64 y]).run P W = .ok (.int .i64 (mx x y)) W := run_max_int2 W ts t .i64 .i64 x y
theorem infoS : (Try.prog.info? 38).map (fun i => (i.zero, i.size, i.bytes)) = some (some (.slice none 0 0), 1, 24) := by kernel_rfl
theorem below_grown {w W V : World} {z : Nat} {r : Option Nat} (h : Below z w W) (hz : z ≤ W.heap.size) (hg : W.grownBy V r) (hr : ∀ k, r = some k → z ≤ k) : Below z w V :=
  ⟨hg.os.trans h.os, hg.tape.trans h.tape, hg.output.trans h.output, Nat.le_trans h.size hg.size, fun k hk => (hg.block k (by omega) (fun e => by have := hr k e.symm; omega)).trans (h.block k hk)⟩
section
variable {P : Program}
/-- append of nothing to a row of a call's own. -/
theorem run_append_none (w : World) (base : Nat) (t ty e : TypeId) (i : TypeInfo) (ht : P.underlying t = some (.slice e)) (hi : P.info? e = some i) (size : Nat) (v : Value) (n : Nat) (xs : List Value) (hown : w.ownsRow base e size v n xs) (ad : Option Addr) (c : Nat) :
    (Builtin.append_ #[t, t] ty #[v, .slice ad 0 c]).run P w = .ok v w := by
  have h1 : ∀ a u, (storeCells a []).run P u = .ok () u := fun a u => by simp [storeCells]
  have h2 : ∀ a u, (loadCells a 0).run P u = .ok #[] u := fun a u => by simp [loadCells, loadCellsFrom]
  rcases hown.2 with ⟨rfl, rfl⟩ | ⟨g, cap, cur, rfl, hbg, hg, hnc, hcm, hcs, htake⟩
  · cases ad <;> simp [h1, h2, Builtin.append_, run_underlying ht, sizeOf, typeInfo, hi, Builtin.lenOf, Builtin.firstCells]
  · cases ad <;> simp [h1, h2, Builtin.append_, run_underlying ht, sizeOf, typeInfo, hi, Builtin.lenOf, hnc, Builtin.firstCells, Addr.add_lit]
/-- append of what lies anywhere to a row of a call's own. -/
theorem run_append_src (w : World) (base : Nat) (t ty e : TypeId) (i : TypeInfo) (z : Value) (size bytes : Nat) (ht : P.underlying t = some (.slice e)) (hi : P.info? e = some i) (hz : i.zero = some z)
    (hsize : i.size = size) (hby : i.bytes = bytes) (hzs : z.cells.size = size) (hsz : 0 < size)
    (v : Value) (n : Nat) (xs : List Value) (hown : w.ownsRow base e size v n xs)
    (src : Option Addr) (m c : Nat) (news : List Value) (hl : news.length = m * size) (hnews : 0 < m → ∃ g o, src = some ⟨g, o, none⟩ ∧ ∀ j u, news[j]? = some u → w.cell? ⟨g, o + j, none⟩ = some u) (h1 : ∀ u ∈ news, u.oneCell' = true)
    (h63 : n + m ≤ maxLen) (hbytes : (n + m) * bytes ≤ 140737488355328) (hbase : base ≤ w.heap.size) :
    ∃ v' w', (Builtin.append_ #[t, t] ty #[v, .slice src m c]).run P w = .ok v' w' ∧ w'.ownsRow base e size v' (n + m) (xs ++ news) ∧ w.grownBy w' v.ownBlock ∧
      (v'.ownBlock = v.ownBlock ∨ v'.ownBlock = some w.heap.size) := by
  rcases Nat.eq_zero_or_pos m with h0 | h0
  · subst h0
    have hn : news = [] := List.eq_nil_of_length_eq_zero (by simpa using hl)
    subst hn
    refine ⟨v, w, run_append_none (P := P) w base t ty e i ht hi size v n xs hown src c, by simpa using hown, gr_refl w _, Or.inl rfl⟩
  · obtain ⟨g, o, rfl, hc⟩ := hnews h0
    obtain ⟨v', w', hr, h2, h3, -, h5⟩ := run_append_own_at (P := P) w base t ty e i z size bytes ht hi hz hsize hby hzs hsz v n xs hown ⟨g, o, none⟩ m c news hl (fun j u hu => by
      rw [show ((⟨g, o, none⟩ : Addr).add j) = ⟨g, o + j, none⟩ by unfold Addr.add; split <;> simp_all]
      exact hc j u hu) h1 h63 hbytes hbase
    exact ⟨v', w', hr, h2, h3, h5⟩
end
/-- append of bytes to bytes of a call's own. -/
theorem run_append_bytes (w : World) (ty : TypeId) (base : Nat) (v : Value) (l : List UInt8) (hown : OB w base v l) (src : Option Addr) (c : Nat) (r : List UInt8) {S : Nat → Prop} (hB : BytesAt w S src r) (h63 : l.length + r.length ≤ 1000000000) (hbase : base ≤ w.heap.size) :
    ∃ v' w', (Builtin.append_ #[38, 38] ty #[v, .slice src r.length c]).run Try.prog w = .ok v' w' ∧ OB w' base v' (l ++ r) ∧ w.grownBy w' v.ownBlock ∧ (v'.ownBlock = v.ownBlock ∨ v'.ownBlock = some w.heap.size) := by
  obtain ⟨i0, hi, hz0, hz1, hz2⟩ := info_parts infoB
  obtain ⟨v', w', hr, h2, h3, h4⟩ := run_append_src (P := Try.prog) w base 38 ty 5 i0 (.int .u8 0) 1 1 Try.underlying38 hi hz0 hz1 hz2 rfl (by decide) v l.length (byC l) hown src r.length c (byC r) (by simp [byC]) (fun h0 => by
    obtain ⟨g, o, e, _, hc⟩ := hB.2 h0
    refine ⟨g, o, e, fun j u hu => ?_⟩
    obtain ⟨hj, rfl⟩ := List.getElem?_eq_some_iff.1 hu
    simp only [byC, List.length_map] at hj
    rw [hc j hj]
    simp [byC]) (byC_one r) (by unfold maxLen; omega) (by omega) hbase
  refine ⟨v', w', hr, ?_, h3, h4⟩
  unfold OB
  rw [List.length_append, byC_app]
  exact h2
theorem wpList_append_bytes {w : World} {ops : Array Oper} {rest : List Oper} {o : Oper} {a : Act} {Q : Exit → Act → World → Prop} (hgd : o.guard = none) (s x : Operand)
    (ho : o.op = .call { callee := .builtin .append, args := #[s, x], argTypes := #[38, 38] })
    (base : Nat) (v : Value) (l : List UInt8) (hs : a.eval s = v) (hown : OB w base v l) (src : Option Addr) (m c : Nat) (r : List UInt8) (hm : m = r.length) {S : Nat → Prop} (hx : a.eval x = .slice src m c) (hB : BytesAt w S src r) (h63 : l.length + r.length ≤ 1000000000) (hbase : base ≤ w.heap.size)
    (h : ∀ v' w', OB w' base v' (l ++ r) → w.grownBy w' v.ownBlock → (v'.ownBlock = v.ownBlock ∨ v'.ownBlock = some w.heap.size) → wpList Try.prog ops Q rest (a.put o.dst v') w') :
    wpList Try.prog ops Q (o :: rest) a w := by
  subst hm
  refine wpList_plain hgd fun K hK => ?_
  obtain ⟨v', w', hr, h2, h3, h4⟩ := run_append_bytes w o.type base v l hown src c r hB h63 hbase
  unfold Oper.wp execOp
  simp only [ho, resolve, invoke, builtin, Sem.run_bind, Sem.run_pure, Result.andThen_ok, List.map_toArray, List.map_cons, List.map_nil, hs, hx, hr]
  exact hK _ _ (h v' w' h2 h3 h4)
/-- The same as one step of a region that draws. -/
theorem step_append_bytes {ops : Array Oper} {o : Oper} {a : Act} {w : World} {K : Act → World → Prop} {Q : Exit → Act → World → Prop} {E : Prop} (hgd : o.guard = none) (s x : Operand)
    (ho : o.op = .call { callee := .builtin .append, args := #[s, x], argTypes := #[38, 38] })
    (base : Nat) (v : Value) (l : List UInt8) (hs : a.eval s = v) (hown : OB w base v l) (src : Option Addr) (m c : Nat) (r : List UInt8) (hm : m = r.length) {S : Nat → Prop} (hx : a.eval x = .slice src m c) (hB : BytesAt w S src r) (h63 : l.length + r.length ≤ 1000000000) (hbase : base ≤ w.heap.size)
    (h : ∀ v' w', OB w' base v' (l ++ r) → w.grownBy w' v.ownBlock → (v'.ownBlock = v.ownBlock ∨ v'.ownBlock = some w.heap.size) → K (a.put o.dst v') w') :
    if Region.wanted o (yielded ops a.tmps) = true then Oper.wp Try.prog o a w K Q else E := by
  have hw : Region.wanted o (yielded ops a.tmps) = true := by simp [Region.wanted, hgd]
  rw [if_pos hw]
  subst hm
  obtain ⟨v', w', hr, h2, h3, h4⟩ := run_append_bytes w o.type base v l hown src c r hB h63 hbase
  unfold Oper.wp execOp
  simp only [ho, resolve, invoke, builtin, Sem.run_bind, Sem.run_pure, Result.andThen_ok, List.map_toArray, List.map_cons, List.map_nil, hs, hx, hr]
  exact h v' w' h2 h3 h4
/-- All old blocks but p and v's own are as they were; behind it v' stands for v, or nothing. -/
structure Fed (w w' : World) (p : Nat) (v v' : Value) : Prop where
  os : w'.os = w.os
  tape : w'.tape = w.tape
  output : w'.output = w.output
  size : w.heap.size ≤ w'.heap.size
  block : ∀ k, k < w.heap.size → k ≠ p → some k ≠ v.ownBlock → w'.heap[k]? = w.heap[k]?
  nxt : v'.ownBlock = none ∨ v'.ownBlock = v.ownBlock ∨ ∃ b, v'.ownBlock = some b ∧ w.heap.size ≤ b
theorem Fed.refl (w : World) (p : Nat) (v : Value) : Fed w w p v v := ⟨rfl, rfl, rfl, Nat.le_refl _, fun _ _ _ _ => rfl, Or.inr (Or.inl rfl)⟩
theorem Fed.trans {a b c : World} {p : Nat} {u v x : Value} (h : Fed a b p u v) (k : Fed b c p v x) : Fed a c p u x := by
  refine ⟨k.os.trans h.os, k.tape.trans h.tape, k.output.trans h.output, Nat.le_trans h.size k.size, fun i hi hp hu => ?_, ?_⟩
  · refine (k.block i (Nat.lt_of_lt_of_le hi h.size) hp ?_).trans (h.block i hi hp hu)
    rcases h.nxt with e | e | ⟨b, e, hb⟩
    · rw [e]; intro e2; cases e2
    · rw [e]; exact hu
    · rw [e]; intro e2; cases e2; omega
  · rcases k.nxt with e | e | ⟨b, e, hb⟩
    · exact Or.inl e
    · rcases h.nxt with e2 | e2 | ⟨b, e2, hb⟩
      · exact Or.inl (e.trans e2)
      · exact Or.inr (Or.inl (e.trans e2))
      · exact Or.inr (Or.inr ⟨b, e.trans e2, hb⟩)
    · exact Or.inr (Or.inr ⟨b, e, Nat.le_trans h.size hb⟩)
theorem Fed.below {w W V : World} {p : Nat} {v v' : Value} (h : Fed w W p v v') (hb : Below W.heap.size W V) : Fed w V p v v' :=
  ⟨hb.os.trans h.os, hb.tape.trans h.tape, hb.output.trans h.output, Nat.le_trans h.size hb.size, fun k hk hp hv => (hb.block k (Nat.lt_of_lt_of_le hk h.size)).trans (h.block k hk hp hv), h.nxt⟩
theorem Fed.set {w W : World} {p : Nat} {v v' : Value} (h : Fed w W p v v') (j : Nat) (x : Value) : Fed w (W.setCell ⟨p, j, none⟩ x) p v v' :=
  ⟨h.os, h.tape, h.output, by have := h.size; simpa [World.setCell] using this, fun k hk hp hv => (Below.heap_setCell _ _ _ _ (by simpa using hp)).trans (h.block k hk hp hv), h.nxt⟩
theorem Fed.grown {w W V : World} {p : Nat} {v v' v2 : Value} (h : Fed w W p v v') (hg : W.grownBy V v'.ownBlock) (hat : v2.ownBlock = v'.ownBlock ∨ v2.ownBlock = some W.heap.size) : Fed w V p v v2 :=
  h.trans ⟨hg.os, hg.tape, hg.output, hg.size, fun k hk _ hv => hg.block k hk hv, by rcases hat with e | e; exact Or.inr (Or.inl e); exact Or.inr (Or.inr ⟨_, e, Nat.le_refl _⟩)⟩
theorem Fed.none {w W : World} {p : Nat} {v v' : Value} (h : Fed w W p v v') : Fed w W p v (.slice none 0 0) := ⟨h.os, h.tape, h.output, h.size, h.block, Or.inl rfl⟩
/-- A row of another block grows. -/
theorem Fed.row {w W V : World} {p : Nat} {v v' : Value} {r : Option Nat} (h : Fed w W p v v') (hg : W.grownBy V r) (hr : ∀ k, r = some k → w.heap.size ≤ k) : Fed w V p v v' :=
  ⟨hg.os.trans h.os, hg.tape.trans h.tape, hg.output.trans h.output, Nat.le_trans h.size hg.size, fun k hk hp hv => (hg.block k (Nat.lt_of_lt_of_le hk h.size) (fun e => by have := hr k e.symm; omega)).trans (h.block k hk hp hv), h.nxt⟩
/-- Cells that lie anywhere. -/
def CellsAt (W : World) (S : Nat → Prop) (a : Option Addr) (cs : List Value) : Prop :=
  cs.length ≤ maxLen ∧ (0 < cs.length → ∃ g o, a = some ⟨g, o, none⟩ ∧ S g ∧ ∀ k u, cs[k]? = some u → W.cell? ⟨g, o + k, none⟩ = some u)
theorem CellsAt.far {W V : World} {S T : Nat → Prop} {a : Option Addr} {cs : List Value} (h : CellsAt W S a cs) (hS : ∀ g, S g → T g ∧ V.heap[g]? = W.heap[g]?) : CellsAt V T a cs := by
  refine ⟨h.1, fun h0 => ?_⟩
  obtain ⟨g, o, e, hg, hc⟩ := h.2 h0
  have hq : ∀ x, V.cell? ⟨g, x, none⟩ = W.cell? ⟨g, x, none⟩ := fun x => World.cell?_of_block (w := W) (w' := V) (a := ⟨g, x, none⟩) (hS g hg).2
  exact ⟨g, o, e, (hS g hg).1, fun k u hu => by rw [hq]; exact hc k u hu⟩
/-- Slices of bytes, as cells. -/
def FsV (W : World) (X : Nat → Prop) (cs : List Value) (l : List (List UInt8)) : Prop :=
  cs.length = l.length ∧ ∀ k (h : k < l.length), ∃ a c, cs[k]? = some (.slice a l[k].length c) ∧ l[k].length ≤ c ∧ BytesAt W X a l[k]
theorem FsV.far {W V : World} {S T : Nat → Prop} {cs : List Value} {l : List (List UInt8)} (h : FsV W S cs l) (hS : ∀ g, S g → T g ∧ V.heap[g]? = W.heap[g]?) : FsV V T cs l :=
  ⟨h.1, fun k hk => by obtain ⟨a, c, h1, h2, h3⟩ := h.2 k hk; exact ⟨a, c, h1, h2, h3.far hS⟩⟩
theorem FsV.nil (W : World) (X : Nat → Prop) : FsV W X [] [] := ⟨rfl, fun k h => by simp at h⟩
theorem FsV.one {W : World} {X : Nat → Prop} {a : Option Addr} {c : Nat} {b : List UInt8} (hc : b.length ≤ c) (h : BytesAt W X a b) : FsV W X [.slice a b.length c] [b] :=
  ⟨rfl, fun k hk => by
    have hk0 : k = 0 := by simp at hk; omega
    subst hk0
    exact ⟨a, c, rfl, hc, h⟩⟩
theorem FsV.two {W : World} {X : Nat → Prop} {a : Option Addr} {c n : Nat} {b : List UInt8} (hn : n = b.length) (hc : n ≤ c) (h : BytesAt W X a b) : FsV W X [.slice a n c] [b] := by subst hn; exact FsV.one hc h
theorem FsV.app {W : World} {X : Nat → Prop} {cs ds : List Value} {l m : List (List UInt8)} (h : FsV W X cs l) (k : FsV W X ds m) : FsV W X (cs ++ ds) (l ++ m) := by
  refine ⟨by rw [List.length_append, List.length_append, h.1, k.1], fun j hj => ?_⟩
  rw [List.length_append] at hj
  by_cases hjl : j < l.length
  · obtain ⟨a, c, h1, h2, h3⟩ := h.2 j hjl
    have e1 : (l ++ m)[j]'(by rw [List.length_append]; exact hj) = l[j] := List.getElem_append_left hjl
    rw [e1]
    exact ⟨a, c, by rw [List.getElem?_append_left (by rw [h.1]; exact hjl)]; exact h1, h2, h3⟩
  · obtain ⟨a, c, h1, h2, h3⟩ := k.2 (j - l.length) (by omega)
    have e1 : (l ++ m)[j]'(by rw [List.length_append]; exact hj) = m[j - l.length]'(by omega) := List.getElem_append_right (by omega)
    rw [e1]
    exact ⟨a, c, by rw [List.getElem?_append_right (by rw [h.1]; omega), h.1]; exact h1, h2, h3⟩
theorem FsV.one' {W : World} {X : Nat → Prop} {cs : List Value} {l : List (List UInt8)} (h : FsV W X cs l) : ∀ u ∈ cs, u.oneCell' = true := by
  intro u hu
  obtain ⟨k, hk, rfl⟩ := List.getElem_of_mem hu
  obtain ⟨a, c, h1, _, _⟩ := h.2 k (by rw [← h.1]; exact hk)
  rw [List.getElem?_eq_getElem hk] at h1
  injection h1 with h1
  rw [h1]
  rfl
/-- A row of slices of a call's own. -/
def OS (W : World) (z : Nat) (v : Value) (cs : List Value) : Prop := W.ownsRow z 38 1 v cs.length cs
theorem OS.nil (W : World) (z : Nat) : OS W z (.slice none 0 0) [] := World.ownsRow_nil _ _ _ _
theorem OS.lt {W : World} {z : Nat} {v : Value} {cs : List Value} (h : OS W z v cs) {k : Nat} (hk : v.ownBlock = some k) : z ≤ k ∧ k < W.heap.size := World.ownsRow.lt h k hk
theorem OS.keep {W V : World} {z : Nat} {v : Value} {cs : List Value} (h : OS W z v cs) (hk : ∀ g, v.ownBlock = some g → V.heap[g]? = W.heap[g]?) : OS V z v cs := by
  obtain ⟨h1, h2⟩ := h
  refine ⟨h1, ?_⟩
  rcases h2 with h2 | ⟨g, cap, cur, e, hb, hh, r⟩
  · exact Or.inl h2
  · refine Or.inr ⟨g, cap, cur, e, hb, ?_, r⟩
    rw [hk g (by rw [e]; rfl)]
    exact hh
theorem OS.later {W V : World} {z : Nat} {v : Value} {cs : List Value} (h : OS W z v cs) (hb : Below W.heap.size W V) : OS V z v cs := h.keep fun g hg => hb.block g (h.lt hg).2
theorem OS.cells {W : World} {z n c : Nat} {a : Option Addr} {cs : List Value} (h : OS W z (.slice a n c) cs) : n = cs.length ∧ CellsAt W (fun g => (Value.slice a n c).ownBlock = some g) a cs := by
  have hm : cs.length ≤ maxLen := by
    rcases h.2 with ⟨_, h0⟩ | ⟨g, cap, cur, e, hb, hh, hn, hm, _⟩
    · omega
    · exact Nat.le_trans hn hm
  rcases h.2 with ⟨e, h0⟩ | ⟨g, cap, cur, e, hb, hh, hn, hm2, _⟩
  · cases e
    exact ⟨h0.symm, hm, fun h => by omega⟩
  · cases e
    refine ⟨rfl, hm, fun h0 => ⟨g, 0, rfl, rfl, fun k u hu => ?_⟩⟩
    have := World.ownsRow.cells h (g := g) rfl k u hu
    rwa [show ((⟨g, 0, none⟩ : Addr).add k) = ⟨g, 0 + k, none⟩ by unfold Addr.add; split <;> simp_all] at this
theorem one_new (w : World) (x : Value) (t : TypeId) : CellsAt (w.alloc (.cells #[x] t)) (fun _ => True) (some ⟨w.heap.size, 0, none⟩) [x] := by
  refine ⟨by simp [maxLen], fun _ => ⟨w.heap.size, 0, rfl, trivial, fun k u hu => ?_⟩⟩
  have := cell_one_new w x t k u hu
  rwa [show ((⟨w.heap.size, 0, none⟩ : Addr).add k) = ⟨w.heap.size, 0 + k, none⟩ by unfold Addr.add; split <;> simp_all] at this
theorem BytesAt.pre {W : World} {S : Nat → Prop} {a : Option Addr} {l : List UInt8} (h : BytesAt W S a l) (k : Nat) : BytesAt W S a (l.take k) := by
  refine ⟨by rw [List.length_take]; have := h.1; omega, fun h0 => ?_⟩
  rw [List.length_take] at h0
  obtain ⟨g, o, e, hg, hcl⟩ := h.2 (by omega)
  subst e
  refine ⟨g, o, rfl, hg, fun j hj => ?_⟩
  rw [List.length_take] at hj
  rw [hcl j (by omega), List.getElem_take]
theorem run_rest2 (a : Option Addr) (n c k : Nat) (hk : 2 + k ≤ n) (w : World) : (Instr.slice 38 (.slice a n c) (some (.int .i64 (2 + (k : Int)))) none none).run Try.prog w = .ok (.slice (rest a c (2 + k)) (n - (2 + k)) (c - (2 + k))) w := by
  have := run_rest a n c (2 + k) hk w
  rwa [show ((2 + k : Nat) : Int) = 2 + (k : Int) by omega] at this
theorem run_mid2 (a : Option Addr) (n c k : Nat) (hk : 2 + k ≤ c) (w : World) : (Instr.slice 38 (.slice a n c) (some (.int .i64 2)) (some (.int .i64 (2 + (k : Int)))) none).run Try.prog w = .ok (.slice (rest a c 2) k (c - 2)) w := by
  have hu := Try.underlying38
  have hu2 : Try.prog.underlying 38 = some (.slice (Try.prog.elem 38)) := by rw [elemB]; exact hu
  rw [run_slice_lh (P := Try.prog) w 38 a n c hu2 .i64 .i64 2 (2 + (k : Int)) (by omega) (by omega) (by omega), elemB, sizeB]
  have e : (2 + (k : Int)).toNat = 2 + k := by omega
  simp [Result.andThen, sliced, rest, e]
theorem wpList_append_slices {w : World} {ops : Array Oper} {rest : List Oper} {o : Oper} {a : Act} {Q : Exit → Act → World → Prop} (hgd : o.guard = none) (s x : Operand)
    (ho : o.op = .call { callee := .builtin .append, args := #[s, x], argTypes := #[33, 33] })
    (base : Nat) (v : Value) (cs : List Value) (hs : a.eval s = v) (hown : OS w base v cs) (src : Option Addr) (m c : Nat) (ds : List Value) (hm : m = ds.length) {S : Nat → Prop} (hx : a.eval x = .slice src m c) (hB : CellsAt w S src ds) (h1 : ∀ u ∈ ds, u.oneCell' = true) (h63 : cs.length + ds.length ≤ 1000000000) (hbase : base ≤ w.heap.size)
    (h : ∀ v' w', OS w' base v' (cs ++ ds) → w.grownBy w' v.ownBlock → (v'.ownBlock = v.ownBlock ∨ v'.ownBlock = some w.heap.size) → wpList Try.prog ops Q rest (a.put o.dst v') w') :
    wpList Try.prog ops Q (o :: rest) a w := by
  subst hm
  refine wpList_plain hgd fun K hK => ?_
  obtain ⟨i0, hi, hz0, hz1, hz2⟩ := info_parts infoS
  obtain ⟨v', w', hr, h2, h3, h4⟩ := run_append_src (P := Try.prog) w base 33 o.type 38 i0 (.slice none 0 0) 1 24 Try.underlying33 hi hz0 hz1 hz2 rfl (by decide) v cs.length cs hown src ds.length c ds (by simp) (fun h0 => by
    obtain ⟨g, o, e, _, hc⟩ := hB.2 h0
    exact ⟨g, o, e, hc⟩) h1 (by unfold maxLen; omega) (by omega) hbase
  unfold Oper.wp execOp
  simp only [ho, resolve, invoke, builtin, Sem.run_bind, Sem.run_pure, Result.andThen_ok, List.map_toArray, List.map_cons, List.map_nil, hs, hx, hr]
  refine hK _ _ (h v' w' ?_ h3 h4)
  unfold OS
  rw [List.length_append]
  exact h2
end Go.Proofs.Ytnnoampmcghnaaa.Fr
