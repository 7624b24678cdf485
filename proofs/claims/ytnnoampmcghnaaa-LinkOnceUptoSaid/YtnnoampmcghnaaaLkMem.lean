/-
  Packets in memory, read or a call's own; a sender under way; empty literals. No function of the program here.
-/
import Derived.Test.YtnnoampmcghnaaaFrMem
namespace Go.Proofs.Ytnnoampmcghnaaa.Lk
open Go.RowKit Go.Proofs.Ytnnoampmcghnaaa.Fl Go.Proofs.Ytnnoampmcghnaaa.Wi Go.Proofs.Ytnnoampmcghnaaa.Fr
set_option linter.unusedVariables false
set_option linter.unusedSimpArgs false

theorem infoP : (Try.prog.info? 49).map (fun i => (i.zero, i.size, i.bytes)) = some (some (.agg #[.int .u64 0, .slice none 0 0]), 2, 32) := by kernel_rfl
/-- A packet: its number, its data. -/
abbrev Pk := Nat × List UInt8
/-- Packets as cells: two of each. -/
def PkV (W : World) (X : Nat → Prop) (cs : List Value) (l : List Pk) : Prop :=
  cs.length = l.length * 2 ∧ ∀ k (h : k < l.length), ∃ a c, cs[k * 2]? = some (.int .u64 (l[k].1 : Int)) ∧ cs[k * 2 + 1]? = some (.slice a l[k].2.length c) ∧ l[k].2.length ≤ c ∧ BytesAt W X a l[k].2
theorem PkV.far {W V : World} {S T : Nat → Prop} {cs : List Value} {l : List Pk} (h : PkV W S cs l) (hS : ∀ g, S g → T g ∧ V.heap[g]? = W.heap[g]?) : PkV V T cs l :=
  ⟨h.1, fun k hk => by obtain ⟨a, c, h1, h2, h3, h4⟩ := h.2 k hk; exact ⟨a, c, h1, h2, h3, h4.far hS⟩⟩
theorem PkV.nil (W : World) (X : Nat → Prop) : PkV W X [] [] := ⟨rfl, fun k h => by simp at h⟩
theorem PkV.one {W : World} {X : Nat → Prop} {a : Option Addr} {m c : Nat} {n : Nat} {b : List UInt8} (hm : m = b.length) (hc : m ≤ c) (h : BytesAt W X a b) : PkV W X [.int .u64 (n : Int), .slice a m c] [(n, b)] :=
  ⟨rfl, fun k hk => by
    have hk0 : k = 0 := by simp at hk; omega
    subst hk0
    subst hm
    exact ⟨a, c, rfl, rfl, hc, h⟩⟩
theorem PkV.app {W : World} {X : Nat → Prop} {cs ds : List Value} {l m : List Pk} (h : PkV W X cs l) (k : PkV W X ds m) : PkV W X (cs ++ ds) (l ++ m) := by
  refine ⟨by rw [List.length_append, List.length_append, h.1, k.1]; omega, fun j hj => ?_⟩
  rw [List.length_append] at hj
  by_cases hjl : j < l.length
  · obtain ⟨a, c, h1, h2, h3, h4⟩ := h.2 j hjl
    have e1 : (l ++ m)[j]'(by rw [List.length_append]; exact hj) = l[j] := List.getElem_append_left hjl
    rw [e1]
    exact ⟨a, c, by rw [List.getElem?_append_left (by rw [h.1]; omega)]; exact h1, by rw [List.getElem?_append_left (by rw [h.1]; omega)]; exact h2, h3, h4⟩
  · obtain ⟨a, c, h1, h2, h3, h4⟩ := k.2 (j - l.length) (by omega)
    have e1 : (l ++ m)[j]'(by rw [List.length_append]; exact hj) = m[j - l.length]'(by omega) := List.getElem_append_right (by omega)
    rw [e1]
    refine ⟨a, c, ?_, ?_, h3, h4⟩
    · rw [List.getElem?_append_right (by rw [h.1]; omega), h.1, show j * 2 - l.length * 2 = (j - l.length) * 2 by omega]; exact h1
    · rw [List.getElem?_append_right (by rw [h.1]; omega), h.1, show j * 2 + 1 - l.length * 2 = (j - l.length) * 2 + 1 by omega]; exact h2
theorem PkV.pre {W : World} {X : Nat → Prop} {cs : List Value} {l : List Pk} (h : PkV W X cs l) (k : Nat) : PkV W X (cs.take (k * 2)) (l.take k) := by
  refine ⟨by rw [List.length_take, List.length_take, h.1]; omega, fun j hj => ?_⟩
  rw [List.length_take] at hj
  obtain ⟨a, c, h1, h2, h3, h4⟩ := h.2 j (by omega)
  rw [List.getElem_take]
  exact ⟨a, c, by rw [List.getElem?_take_of_lt (by omega)]; exact h1, by rw [List.getElem?_take_of_lt (by omega)]; exact h2, h3, h4⟩
theorem PkV.drop {W : World} {X : Nat → Prop} {cs : List Value} {l : List Pk} (h : PkV W X cs l) (k : Nat) : PkV W X (cs.drop (k * 2)) (l.drop k) := by
  refine ⟨by rw [List.length_drop, List.length_drop, h.1]; omega, fun j hj => ?_⟩
  rw [List.length_drop] at hj
  obtain ⟨a, c, h1, h2, h3, h4⟩ := h.2 (k + j) (by omega)
  rw [List.getElem_drop]
  exact ⟨a, c, by rw [List.getElem?_drop, show k * 2 + j * 2 = (k + j) * 2 by omega]; exact h1, by rw [List.getElem?_drop, show k * 2 + (j * 2 + 1) = (k + j) * 2 + 1 by omega]; exact h2, h3, h4⟩
theorem PkV.one' {W : World} {X : Nat → Prop} {cs : List Value} {l : List Pk} (h : PkV W X cs l) : ∀ u ∈ cs, u.oneCell' = true := by
  intro u hu
  obtain ⟨k, hk, rfl⟩ := List.getElem_of_mem hu
  have h1 := h.1
  obtain ⟨a, c, h2, h3, _, _⟩ := h.2 (k / 2) (by omega)
  have h4 : cs[k]? = some cs[k] := List.getElem?_eq_getElem hk
  rcases Nat.mod_two_eq_zero_or_one k with e | e
  · rw [show k / 2 * 2 = k by omega, h4] at h2
    injection h2 with h2
    rw [h2]; rfl
  · rw [show k / 2 * 2 + 1 = k by omega, h4] at h3
    injection h3 with h3
    rw [h3]; rfl
/-- A row of packets of a call's own. -/
def OP (W : World) (z : Nat) (v : Value) (n : Nat) (cs : List Value) : Prop := W.ownsRow z 49 2 v n cs
theorem OP.nil (W : World) (z : Nat) : OP W z (.slice none 0 0) 0 [] := World.ownsRow_nil _ _ _ _
theorem OP.lt {W : World} {z : Nat} {v : Value} {n : Nat} {cs : List Value} (h : OP W z v n cs) {k : Nat} (hk : v.ownBlock = some k) : z ≤ k ∧ k < W.heap.size := World.ownsRow.lt h k hk
theorem OP.keep {W V : World} {z n : Nat} {v : Value} {cs : List Value} (h : OP W z v n cs) (hk : ∀ g, v.ownBlock = some g → V.heap[g]? = W.heap[g]?) : OP V z v n cs := by
  obtain ⟨h1, h2⟩ := h
  refine ⟨h1, ?_⟩
  rcases h2 with h2 | ⟨g, cap, cur, e, hb, hh, r⟩
  · exact Or.inl h2
  · refine Or.inr ⟨g, cap, cur, e, hb, ?_, r⟩
    rw [hk g (by rw [e]; rfl)]
    exact hh
theorem OP.later {W V : World} {z n : Nat} {v : Value} {cs : List Value} (h : OP W z v n cs) (hb : Below W.heap.size W V) : OP V z v n cs := h.keep fun g hg => hb.block g (h.lt hg).2
/-- Cells that lie anywhere. -/
def CeAt (W : World) (S : Nat → Prop) (a : Option Addr) (cs : List Value) : Prop := 0 < cs.length → ∃ g o, a = some ⟨g, o, none⟩ ∧ S g ∧ ∀ k u, cs[k]? = some u → W.cell? ⟨g, o + k, none⟩ = some u
theorem CeAt.far {W V : World} {S T : Nat → Prop} {a : Option Addr} {cs : List Value} (h : CeAt W S a cs) (hS : ∀ g, S g → T g ∧ V.heap[g]? = W.heap[g]?) : CeAt V T a cs := by
  intro h0
  obtain ⟨g, o, e, hg, hc⟩ := h h0
  have hq : ∀ x, V.cell? ⟨g, x, none⟩ = W.cell? ⟨g, x, none⟩ := fun x => World.cell?_of_block (w := W) (w' := V) (a := ⟨g, x, none⟩) (hS g hg).2
  exact ⟨g, o, e, (hS g hg).1, fun k u hu => by rw [hq]; exact hc k u hu⟩
theorem CeAt.nil (W : World) (S : Nat → Prop) (a : Option Addr) : CeAt W S a [] := fun h => by simp at h
theorem CeAt.pre {W : World} {S : Nat → Prop} {a : Option Addr} {cs : List Value} (h : CeAt W S a cs) (k : Nat) : CeAt W S a (cs.take k) := by
  intro h0
  rw [List.length_take] at h0
  obtain ⟨g, o, e, hg, hc⟩ := h (by omega)
  refine ⟨g, o, e, hg, fun j u hu => hc j u ?_⟩
  rw [List.getElem?_take] at hu
  split at hu
  · exact hu
  · cases hu
/-- The rest of a slice of packets. -/
def restP (a : Option Addr) (c k : Nat) : Option Addr := if c = k then a else a.map (·.add (k * 2))
theorem CeAt.drop {W : World} {S : Nat → Prop} {a : Option Addr} {cs : List Value} {n c k : Nat} (h : CeAt W S a cs) (hl : cs.length = n * 2) (hc : n ≤ c) (hk : k ≤ n) : CeAt W S (restP a c k) (cs.drop (k * 2)) := by
  intro h0
  rw [List.length_drop] at h0
  obtain ⟨g, o, e, hg, hcl⟩ := h (by omega)
  subst e
  refine ⟨g, o + k * 2, ?_, hg, fun j u hu => ?_⟩
  · unfold restP
    rw [if_neg (by omega)]
    simp only [Option.map_some, Addr.add_lit]
  · rw [List.getElem?_drop] at hu
    have := hcl (k * 2 + j) u hu
    rwa [← Nat.add_assoc] at this
theorem OP.cells {W : World} {z n m c : Nat} {a : Option Addr} {cs : List Value} (h : OP W z (.slice a m c) n cs) : m = n ∧ n ≤ c ∧ CeAt W (fun g => (Value.slice a m c).ownBlock = some g) a cs := by
  rcases h.2 with ⟨e, h0⟩ | ⟨g, cap, cur, e, hb, hh, hn, hm2, hcs, ht⟩
  · have h1 := h.1
    cases e
    subst h0
    have hl : cs.length = 0 := by simpa using h1
    exact ⟨rfl, Nat.le_refl _, fun h => by omega⟩
  · cases e
    refine ⟨rfl, hn, fun h0 => ⟨g, 0, rfl, rfl, fun k u hu => ?_⟩⟩
    have := World.ownsRow.cells h (g := g) rfl k u hu
    rwa [Addr.add_lit] at this
theorem two_new (w : World) (x y : Value) (t : TypeId) : CeAt (w.alloc (.cells #[x, y] t)) (fun _ => True) (some ⟨w.heap.size, 0, none⟩) [x, y] := by
  refine fun _ => ⟨w.heap.size, 0, rfl, trivial, fun k u hu => ?_⟩
  have hb := heap_alloc_new w (.cells #[x, y] t)
  generalize w.alloc (.cells #[x, y] t) = V at hb ⊢
  rcases k with _ | _ | k
  · simp at hu; subst hu; simp [World.cell?, hb]
  · simp at hu; subst hu; simp [World.cell?, hb]
  · simp at hu
theorem OP.fresh (w : World) : OP (w.alloc (.cells #[] 49)) w.heap.size (.slice (some ⟨w.heap.size, 0, none⟩) 0 0) 0 [] := ⟨rfl, Or.inr ⟨w.heap.size, 0, #[], rfl, Nat.le_refl _, heap_alloc_new w _, Nat.le_refl _, Nat.zero_le _, rfl, rfl⟩⟩
theorem OB.fresh (w : World) : OB (w.alloc (.cells #[] 5)) w.heap.size (.slice (some ⟨w.heap.size, 0, none⟩) 0 0) [] := ⟨rfl, Or.inr ⟨w.heap.size, 0, #[], rfl, Nat.le_refl _, heap_alloc_new w _, Nat.le_refl _, Nat.zero_le _, rfl, rfl⟩⟩
theorem run_emptyB (w : World) {i0 : TypeInfo} (hi : Try.prog.info? 5 = some i0) : (Instr.buildSlice 38 0 #[]).run Try.prog w = .ok (.slice (some ⟨w.heap.size, 0, none⟩) 0 0) (w.alloc (.cells #[] 5)) := by
  have hu := Try.underlying38
  simp [Instr.buildSlice, run_underlying hu, sizeOf, typeInfo, hi, newRow, Instr.fill]
  rw [show Array.range 0 = (#[] : Array Nat) by decide]
  simp
theorem wpList_emptyB {w : World} {ops : Array Oper} {rest : List Oper} {o : Oper} {a : Act} {Q : Exit → Act → World → Prop} (hgd : o.guard = none) (ho : o.op = .buildSlice 38 0 #[])
    (h : wpList Try.prog ops Q rest (a.put o.dst (.slice (some ⟨w.heap.size, 0, none⟩) 0 0)) (w.alloc (.cells #[] 5))) : wpList Try.prog ops Q (o :: rest) a w := by
  obtain ⟨i0, hi, -⟩ := info_parts infoB
  refine wpList_plain hgd fun K hK => ?_
  unfold Oper.wp execOp
  simp only [ho, Sem.run_bind, List.map_toArray, List.map_nil, run_emptyB w hi, Result.andThen_ok]
  exact hK _ _ h
theorem run_emptyP (w : World) {i0 : TypeInfo} (hi : Try.prog.info? 49 = some i0) : (Instr.buildSlice 37 0 #[]).run Try.prog w = .ok (.slice (some ⟨w.heap.size, 0, none⟩) 0 0) (w.alloc (.cells #[] 49)) := by
  have hu := Try.underlying37
  simp [Instr.buildSlice, run_underlying hu, sizeOf, typeInfo, hi, newRow, Instr.fill]
  rw [show Array.range 0 = (#[] : Array Nat) by decide]
  simp
theorem wpList_emptyP {w : World} {ops : Array Oper} {rest : List Oper} {o : Oper} {a : Act} {Q : Exit → Act → World → Prop} (hgd : o.guard = none) (ho : o.op = .buildSlice 37 0 #[])
    (h : wpList Try.prog ops Q rest (a.put o.dst (.slice (some ⟨w.heap.size, 0, none⟩) 0 0)) (w.alloc (.cells #[] 49))) : wpList Try.prog ops Q (o :: rest) a w := by
  obtain ⟨i0, hi, -⟩ := info_parts infoP
  refine wpList_plain hgd fun K hK => ?_
  unfold Oper.wp execOp
  simp only [ho, Sem.run_bind, List.map_toArray, List.map_nil, run_emptyP w hi, Result.andThen_ok]
  exact hK _ _ h
theorem run_append_pk (w : World) (ty : TypeId) (base : Nat) (v : Value) (n : Nat) (cs : List Value) (hown : OP w base v n cs) (src : Option Addr) (m c : Nat) (ds : List Value) (hm : ds.length = m * 2) {S : Nat → Prop} (hB : CeAt w S src ds) (h1 : ∀ u ∈ ds, u.oneCell' = true) (h63 : n + m ≤ 1000000000) (hbase : base ≤ w.heap.size) :
    ∃ v' w', (Builtin.append_ #[37, 37] ty #[v, .slice src m c]).run Try.prog w = .ok v' w' ∧ OP w' base v' (n + m) (cs ++ ds) ∧ w.grownBy w' v.ownBlock ∧ (v'.ownBlock = v.ownBlock ∨ v'.ownBlock = some w.heap.size) := by
  obtain ⟨i0, hi, hz0, hz1, hz2⟩ := info_parts infoP
  exact run_append_src (P := Try.prog) w base 37 ty 49 i0 (.agg #[.int .u64 0, .slice none 0 0]) 2 32 Try.underlying37 hi hz0 hz1 hz2 (by first | rfl | (simp [Value.cells])) (by decide) v n cs hown src m c ds hm (fun h0 => by
    obtain ⟨g, o, e, _, hc⟩ := hB (by omega)
    exact ⟨g, o, e, hc⟩) h1 (by unfold maxLen; omega) (by omega) hbase
theorem wpList_append_pk {w : World} {ops : Array Oper} {rest : List Oper} {o : Oper} {a : Act} {Q : Exit → Act → World → Prop} (hgd : o.guard = none) (s x : Operand)
    (ho : o.op = .call { callee := .builtin .append, args := #[s, x], argTypes := #[37, 37] })
    (base : Nat) (v : Value) (n : Nat) (cs : List Value) (hs : a.eval s = v) (hown : OP w base v n cs) (src : Option Addr) (m c : Nat) (ds : List Value) (hm : ds.length = m * 2) {S : Nat → Prop} (hx : a.eval x = .slice src m c) (hB : CeAt w S src ds) (h1 : ∀ u ∈ ds, u.oneCell' = true) (h63 : n + m ≤ 1000000000) (hbase : base ≤ w.heap.size)
    (h : ∀ v' w', OP w' base v' (n + m) (cs ++ ds) → w.grownBy w' v.ownBlock → (v'.ownBlock = v.ownBlock ∨ v'.ownBlock = some w.heap.size) → wpList Try.prog ops Q rest (a.put o.dst v') w') :
    wpList Try.prog ops Q (o :: rest) a w := by
  refine wpList_plain hgd fun K hK => ?_
  obtain ⟨v', w', hr, h2, h3, h4⟩ := run_append_pk w o.type base v n cs hown src m c ds hm hB h1 h63 hbase
  unfold Oper.wp execOp
  simp only [ho, resolve, invoke, builtin, Sem.run_bind, Sem.run_pure, Result.andThen_ok, List.map_toArray, List.map_cons, List.map_nil, hs, hx, hr]
  exact hK _ _ (h v' w' h2 h3 h4)
/-- The same as one step of a region that draws. -/
theorem step_append_pk {ops : Array Oper} {o : Oper} {a : Act} {w : World} {K : Act → World → Prop} {Q : Exit → Act → World → Prop} {E : Prop} (hgd : o.guard = none) (s x : Operand)
    (ho : o.op = .call { callee := .builtin .append, args := #[s, x], argTypes := #[37, 37] })
    (base : Nat) (v : Value) (n : Nat) (cs : List Value) (hs : a.eval s = v) (hown : OP w base v n cs) (src : Option Addr) (m c : Nat) (ds : List Value) (hm : ds.length = m * 2) {S : Nat → Prop} (hx : a.eval x = .slice src m c) (hB : CeAt w S src ds) (h1 : ∀ u ∈ ds, u.oneCell' = true) (h63 : n + m ≤ 1000000000) (hbase : base ≤ w.heap.size)
    (h : ∀ v' w', OP w' base v' (n + m) (cs ++ ds) → w.grownBy w' v.ownBlock → (v'.ownBlock = v.ownBlock ∨ v'.ownBlock = some w.heap.size) → K (a.put o.dst v') w') :
    if Region.wanted o (yielded ops a.tmps) = true then Oper.wp Try.prog o a w K Q else E := by
  have hw : Region.wanted o (yielded ops a.tmps) = true := by simp [Region.wanted, hgd]
  rw [if_pos hw]
  obtain ⟨v', w', hr, h2, h3, h4⟩ := run_append_pk w o.type base v n cs hown src m c ds hm hB h1 h63 hbase
  unfold Oper.wp execOp
  simp only [ho, resolve, invoke, builtin, Sem.run_bind, Sem.run_pure, Result.andThen_ok, List.map_toArray, List.map_cons, List.map_nil, hs, hx, hr]
  exact h v' w' h2 h3 h4
/-- append to slices of bytes as one step of a region that draws. -/
theorem step_append_sl {ops : Array Oper} {o : Oper} {a : Act} {w : World} {K : Act → World → Prop} {Q : Exit → Act → World → Prop} {E : Prop} (hgd : o.guard = none) (s x : Operand)
    (ho : o.op = .call { callee := .builtin .append, args := #[s, x], argTypes := #[33, 33] })
    (base : Nat) (v : Value) (cs : List Value) (hs : a.eval s = v) (hown : OS w base v cs) (src : Option Addr) (m c : Nat) (ds : List Value) (hm : m = ds.length) {S : Nat → Prop} (hx : a.eval x = .slice src m c) (hB : CellsAt w S src ds) (h1 : ∀ u ∈ ds, u.oneCell' = true) (h63 : cs.length + ds.length ≤ 1000000000) (hbase : base ≤ w.heap.size)
    (h : ∀ v' w', OS w' base v' (cs ++ ds) → w.grownBy w' v.ownBlock → (v'.ownBlock = v.ownBlock ∨ v'.ownBlock = some w.heap.size) → K (a.put o.dst v') w') :
    if Region.wanted o (yielded ops a.tmps) = true then Oper.wp Try.prog o a w K Q else E := by
  have hw : Region.wanted o (yielded ops a.tmps) = true := by simp [Region.wanted, hgd]
  rw [if_pos hw]
  subst hm
  obtain ⟨i0, hi, hz0, hz1, hz2⟩ := info_parts infoS
  obtain ⟨v', w', hr, h2, h3, h4⟩ := run_append_src (P := Try.prog) w base 33 o.type 38 i0 (.slice none 0 0) 1 24 Try.underlying33 hi hz0 hz1 hz2 rfl (by decide) v cs.length cs hown src ds.length c ds (by simp) (fun h0 => by
    obtain ⟨g, o, e, _, hc⟩ := hB.2 h0
    exact ⟨g, o, e, hc⟩) h1 (by unfold maxLen; omega) (by omega) hbase
  unfold Oper.wp execOp
  simp only [ho, resolve, invoke, builtin, Sem.run_bind, Sem.run_pure, Result.andThen_ok, List.map_toArray, List.map_cons, List.map_nil, hs, hx, hr]
  refine h v' w' ?_ h3 h4
  unfold OS
  rw [List.length_append]
  exact h2
/-- All old blocks but those of X are as they were. -/
structure Lv (X : Nat → Prop) (w w' : World) : Prop where
  os : w'.os = w.os
  tape : w'.tape = w.tape
  output : w'.output = w.output
  size : w.heap.size ≤ w'.heap.size
  block : ∀ k, k < w.heap.size → ¬ X k → w'.heap[k]? = w.heap[k]?
theorem Lv.refl (X : Nat → Prop) (w : World) : Lv X w w := ⟨rfl, rfl, rfl, Nat.le_refl _, fun _ _ _ => rfl⟩
theorem Lv.trans {X Y : Nat → Prop} {a b c : World} (h : Lv X a b) (k : Lv Y b c) (hY : ∀ g, g < a.heap.size → Y g → X g) : Lv X a c :=
  ⟨k.os.trans h.os, k.tape.trans h.tape, k.output.trans h.output, Nat.le_trans h.size k.size, fun g hg hx => (k.block g (Nat.lt_of_lt_of_le hg h.size) (fun hy => hx (hY g hg hy))).trans (h.block g hg hx)⟩
theorem Lv.of_below {X : Nat → Prop} {w w' : World} (h : Below w.heap.size w w') : Lv X w w' := ⟨h.os, h.tape, h.output, h.size, fun k hk _ => h.block k hk⟩
theorem Lv.below {X : Nat → Prop} {a b c : World} (h : Lv X a b) (k : Below b.heap.size b c) : Lv X a c := h.trans (Y := fun _ => False) (Lv.of_below k) fun _ _ h => h.elim
theorem Lv.alloc {X : Nat → Prop} {a b : World} (h : Lv X a b) (o : Obj) : Lv X a (b.alloc o) := h.below (below_alloc b o)
theorem Lv.set {X : Nat → Prop} {a b : World} (h : Lv X a b) (p j : Nat) (v : Value) (hp : X p ∨ a.heap.size ≤ p) : Lv X a (b.setCell ⟨p, j, none⟩ v) :=
  ⟨h.os, h.tape, h.output, by have := h.size; simpa [World.setCell] using this, fun k hk hx => (Below.heap_setCell _ _ _ _ (by rcases hp with hp | hp; exact fun e => hx (by rw [show k = p from e]; exact hp); show k ≠ p; omega)).trans (h.block k hk hx)⟩
theorem Lv.grown {X : Nat → Prop} {a b c : World} {r : Option Nat} (h : Lv X a b) (hg : b.grownBy c r) (hr : ∀ k, r = some k → X k ∨ a.heap.size ≤ k) : Lv X a c :=
  ⟨hg.os.trans h.os, hg.tape.trans h.tape, hg.output.trans h.output, Nat.le_trans h.size hg.size, fun k hk hx => (hg.block k (Nat.lt_of_lt_of_le hk h.size) (fun e => by rcases hr k e.symm with h1 | h1; exact hx h1; omega)).trans (h.block k hk hx)⟩
theorem Lv.drew {X : Nat → Prop} {a b : World} (h : Lv X a b) : Lv X a b.drew := ⟨h.os, h.tape, h.output, h.size, h.block⟩
theorem Lv.mono {X Y : Nat → Prop} {a b : World} (h : Lv X a b) (hy : ∀ g, g < a.heap.size → X g → Y g) : Lv Y a b := ⟨h.os, h.tape, h.output, h.size, fun k hk hx => h.block k hk fun e => hx (hy k hk e)⟩
/-- What is below both is as it was. -/
theorem Lv.old {X : Nat → Prop} {w W : World} (h : Lv X w W) {z : Nat} (hz : z ≤ w.heap.size) (hx : ∀ k, k < z → ¬ X k) : Below z w W :=
  ⟨h.os, h.tape, h.output, h.size, fun k hk => h.block k (by omega) (hx k hk)⟩
/-- A sender's block and its queue's. -/
def Sp (p : Nat) (v : Value) (g : Nat) : Prop := g = p ∨ some g = v.ownBlock
/-- Behind a call v' stands for v. -/
def Nxt (w : World) (v v' : Value) : Prop := v'.ownBlock = v.ownBlock ∨ ∃ b, v'.ownBlock = some b ∧ w.heap.size ≤ b
theorem Nxt.refl (w : World) (v : Value) : Nxt w v v := Or.inl rfl
theorem Nxt.le {w W : World} {v v' : Value} (h : Nxt W v v') (hz : w.heap.size ≤ W.heap.size) : Nxt w v v' := h.imp id fun ⟨b, e, hb⟩ => ⟨b, e, Nat.le_trans hz hb⟩
/-- New data: in blocks behind the elder world's, and not the row's own. -/
def Nw (w w' : World) (v : Value) (g : Nat) : Prop := w.heap.size ≤ g ∧ g < w'.heap.size ∧ some g ≠ v.ownBlock
/-- A sender: its window, its queue v with the cells cs, what was sent in all, how many were acknowledged, told. -/
structure Sn (W : World) (S : Nat → Prop) (p : Nat) (win : Nat) (v : Value) (cs : List Value) (all : List (List UInt8)) (ack told : Nat) : Prop where
  bq : Bq W p 57 #[.int .i64 (win : Int), v, .int .u64 (ack : Int), .int .i64 ((told - ack : Nat) : Int)]
  row : OS W (p + 1) v cs
  dat : FsV W S cs (all.drop ack)
  dis : ∀ g, S g → g < W.heap.size ∧ g ≠ p ∧ some g ≠ v.ownBlock
  hat : ack ≤ told
  htl : told ≤ all.length
  htw : told ≤ ack + win
  hw1 : 1 ≤ win
  hw2 : win ≤ 64
  hln : all.length ≤ 100000
theorem Sn.len {W : World} {S : Nat → Prop} {p win : Nat} {v : Value} {cs : List Value} {all : List (List UInt8)} {ack told : Nat} (h : Sn W S p win v cs all ack told) : cs.length = all.length - ack := by rw [h.dat.1, List.length_drop]
theorem Sn.lt {W : World} {S : Nat → Prop} {p win : Nat} {v : Value} {cs : List Value} {all : List (List UInt8)} {ack told : Nat} (h : Sn W S p win v cs all ack told) : p < W.heap.size := h.bq.lt
theorem Sn.own {W : World} {S : Nat → Prop} {p win : Nat} {v : Value} {cs : List Value} {all : List (List UInt8)} {ack told : Nat} (h : Sn W S p win v cs all ack told) {k : Nat} (hk : v.ownBlock = some k) : p < k ∧ k < W.heap.size := by have := h.row.lt hk; omega
theorem Sn.cells {W : World} {S : Nat → Prop} {p win : Nat} {v : Value} {cs : List Value} {all : List (List UInt8)} {ack told : Nat} (h : Sn W S p win v cs all ack told) :
    W.cell? ⟨p, 0, none⟩ = some (.int .i64 (win : Int)) ∧ W.cell? ⟨p, 1, none⟩ = some v ∧ W.cell? ⟨p, 2, none⟩ = some (.int .u64 (ack : Int)) ∧ W.cell? ⟨p, 3, none⟩ = some (.int .i64 ((told - ack : Nat) : Int)) := h.bq.c4
/-- What leaves the sender and its data alone leaves it a sender. -/
theorem Sn.keep {W V : World} {S T : Nat → Prop} {p win : Nat} {v : Value} {cs : List Value} {all : List (List UInt8)} {ack told : Nat} (h : Sn W S p win v cs all ack told) (hp : V.heap[p]? = W.heap[p]?) (hv : ∀ g, v.ownBlock = some g → V.heap[g]? = W.heap[g]?) (hs : ∀ g, S g → T g ∧ V.heap[g]? = W.heap[g]?) (hd : ∀ g, T g → g < V.heap.size ∧ g ≠ p ∧ some g ≠ v.ownBlock) : Sn V T p win v cs all ack told :=
  ⟨hp.trans h.bq, h.row.keep hv, h.dat.far hs, hd, h.hat, h.htl, h.htw, h.hw1, h.hw2, h.hln⟩
end Go.Proofs.Ytnnoampmcghnaaa.Lk
