/-
  Contract of part.pathTo for an item: the nodes from the one whose kid it is up to this one; none, if it isn't below. Memory that was there is left as it was.
-/
import Derived.Test.YtobkgamcjfjghaaGreatMp14
import Derived.Deep.Upon
import Derived.Lib.AppendZeros
import Derived.Test.YtobkgamcjfjghaaGreatMp12
import Derived.Test.YtobkgamcjfjghaaGreatMp04
import Derived.Test.YtobkgamcjfjghaaGreatMp01
/-
  A list of parts that is cut from the front and appended to: a slice that may begin anywhere in its block. No function of the program here.
-/
namespace Go.Proofs.YtobkgamcjfjghaaGreat.Rt
open Go.RowKit Go.Proofs.YtobkgamcjfjghaaGreat.Pt Go.Proofs.YtobkgamcjfjghaaGreat.Rc Go.Proofs.YtobkgamcjfjghaaGreat.Rs
set_option linter.unusedVariables false
set_option linter.unusedSimpArgs false
/-- Parts in a slice; its block is one of Q. -/
def Td (W : World) (Q : Nat → Prop) (v : Value) (T : List Nat) : Prop :=
  ∃ (ao : Option Addr) (b off cap : Nat), v = .slice ao T.length cap ∧ cap ≤ maxLen ∧ Came W 1 ao b off T.length cap (T.map ptr) ∧ (0 < cap → Q b)
section
variable {W W' : World} {Q Q' : Nat → Prop} {v : Value} {T A : List Nat}
theorem came_same {ao : Option Addr} {b off len cap : Nat} {olds : List Value} (h : Came W 1 ao b off len cap olds) (hb : 0 < cap → W'.heap[b]? = W.heap[b]?) (hs : W.heap.size ≤ W'.heap.size) : Came W' 1 ao b off len cap olds := by
  refine ⟨h.le, h.addr, fun hc => Nat.lt_of_lt_of_le (h.lt hc) hs, h.oldsLen, fun j u hu => ?_, fun j hj => ?_⟩
  · have hc : 0 < cap := by
      have := (List.getElem?_eq_some_iff.1 hu).1
      have := h.oldsLen
      have := h.le
      omega
    exact (World.cell?_of_block (w := W) (w' := W') (a := ⟨b, off + j, none⟩) (hb hc)).trans (h.olds j u hu)
  · have hc : 0 < cap := by omega
    have := h.spare j hj
    exact ⟨by rw [World.cell?_of_block (w := W) (w' := W') (a := ⟨b, off + len * 1 + j, none⟩) (hb hc)]; exact this.1, (World.frozen?_of_block (w := W) (w' := W') (a := ⟨b, off + len * 1 + j, none⟩) (hb hc)).trans this.2⟩
theorem Td.same (h : Td W Q v T) (hb : ∀ k, k < W.heap.size → Q k → W'.heap[k]? = W.heap[k]? ∧ Q' k) (hs : W.heap.size ≤ W'.heap.size) : Td W' Q' v T := by
  obtain ⟨ao, b, off, cap, e, hm, hc, hq⟩ := h
  exact ⟨ao, b, off, cap, e, hm, came_same hc (fun h0 => (hb b (hc.lt h0) (hq h0)).1) hs, fun h0 => (hb b (hc.lt h0) (hq h0)).2⟩
/-- One part alone, in a new block. -/
theorem Td.one (x : Nat) (hQ : Q W.heap.size) : Td (W.alloc (.cells #[ptr x] 61)) Q (.slice (some ⟨W.heap.size, 0, none⟩) 1 1) [x] := by
  refine ⟨_, W.heap.size, 0, 1, rfl, by unfold maxLen; omega, ⟨Nat.le_refl _, fun _ => rfl, fun _ => by simp, rfl, fun j u hu => ?_, fun j hj => by simp at hj⟩, fun _ => hQ⟩
  match j, hu with
  | 0, hu => simp at hu; subst hu; simp [go_sem]
  | j + 1, hu => simp at hu
/-- The first one. -/
theorem Td.head {x : Nat} (h : Td W Q v (x :: T)) : ∃ b off cap, v = .slice (some ⟨b, off, none⟩) (T.length + 1) cap ∧ T.length + 1 ≤ cap ∧ cap ≤ maxLen ∧ W.cell? ⟨b, off, none⟩ = some (ptr x) ∧
    Td W Q (.slice (some ⟨b, off + 1, none⟩) T.length (cap - 1)) T ∧ (cap = 1 → Td W Q (.slice (some ⟨b, off, none⟩) T.length (cap - 1)) T) := by
  obtain ⟨ao, b, off, cap, e, hm, hc, hq⟩ := h
  have hle := hc.le
  simp only [List.length_cons] at hle e hc
  have h0 : 0 < cap := by omega
  have ha := hc.addr h0
  subst ha
  have c0 := hc.olds 0 (ptr x) (by simp)
  have go : ∀ o2, (0 < cap - 1 → o2 = off + 1) → Td W Q (.slice (some ⟨b, o2, none⟩) T.length (cap - 1)) T := fun o2 ho => by
    refine ⟨_, b, o2, cap - 1, rfl, by omega, ⟨by omega, fun _ => rfl, fun _ => hc.lt h0, by simp, fun j u hu => ?_, fun j hj => ?_⟩, fun _ => hq h0⟩
    · have hj := (List.getElem?_eq_some_iff.1 hu).1
      rw [List.length_map] at hj
      rw [ho (by omega)]
      have := hc.olds (j + 1) u (by simpa using hu)
      rw [show off + (j + 1) = off + 1 + j by omega] at this
      exact this
    · have h1 : 0 < cap - 1 := by omega
      rw [ho h1]
      have := hc.spare j (by omega)
      rw [show off + (T.length + 1) * 1 + j = off + 1 + T.length * 1 + j by omega] at this
      exact this
  exact ⟨b, off, cap, e, hle, hm, by simpa using c0, go _ (fun _ => rfl), fun hc1 => go _ (fun h => by omega)⟩
/-- More parts are appended. -/
theorem Td.append (h : Td W Q v T) (hQ : Q W.heap.size) {x : Value} {base : Nat} (hx : W.ownsRow base 61 1 x A.length (A.map ptr)) (hn : T.length + A.length ≤ 1000000) (ty : TypeId) :
    ∃ v' w', (Builtin.append_ #[73, 73] ty #[v, x]).run Tryz.prog W = .ok v' w' ∧ Td w' Q v' (T ++ A) ∧ Ke Q W w' := by
  obtain ⟨i0, hi0, hz0, hz1, hz2⟩ := info_parts Rt.A.infoPp
  obtain ⟨ao, b, off, cap, rfl, hm, hc, hq⟩ := h
  have one : ∀ u ∈ A.map ptr, u.oneCell' = true := fun u hu => by
    obtain ⟨k, _, rfl⟩ := List.mem_map.1 hu
    rfl
  have hsrc : Src Tryz.prog i0.size 73 x A.length (A.map ptr) W := by
    rw [hz1]
    rcases hx.2 with ⟨e, e2⟩ | ⟨g, c, cur, e, k1, k2, k3⟩
    · subst e
      have : A = [] := List.length_eq_zero_iff.1 e2
      subst this
      exact Src.ofNil W Tryz.underlying73 0
    · subst e
      exact Src.ofSlice W Tryz.underlying73 ⟨g, 0, none⟩ A.length c (A.map ptr) (by simp) (fun j u hu => by
        have hj := (List.getElem?_eq_some_iff.1 hu).1
        rw [List.length_map] at hj
        rw [addr_at, Nat.zero_add, hx.cellAt j (by omega)]
        exact hu) one
  by_cases hfit : T.length + A.length ≤ cap
  · by_cases h0 : 0 < cap
    · have ha := hc.addr h0
      subst ha
      have there : ∀ j, j < (A.map ptr).length → (W.cell? ⟨b, off + T.length * i0.size + j, none⟩).isSome = true := fun j hj => by
        rw [hz1]
        rw [List.length_map] at hj
        exact (hc.spare j (by omega)).1
      have soft : ∀ j, j < (A.map ptr).length → W.frozen? ⟨b, off + T.length * i0.size + j, none⟩ = false := fun j hj => by
        rw [hz1]
        rw [List.length_map] at hj
        exact (hc.spare j (by omega)).2
      have hr := run_append_room_src W 73 73 ty 61 i0 Tryz.underlying73 hi0 b off T.length cap x A.length (A.map ptr) hsrc hfit there soft
      refine ⟨_, _, hr, ⟨some ⟨b, off, none⟩, b, off, cap, by rw [List.length_append], hm, ?_, hq⟩, (Ke.refl Q W).grown (grown_sets _ _ _) (fun k hk => by cases hk; exact Or.inl (hq h0))⟩
      rw [hz1, Nat.mul_one] at *
      have hgs := grown_sets (A.map ptr) (off + T.length) (g := b) W
      refine ⟨by rw [List.length_append]; exact hfit, fun _ => rfl, fun _ => Nat.lt_of_lt_of_le (hc.lt h0) hgs.size, by simp, fun j u hu => ?_, fun j hj => ?_⟩
      · rw [List.map_append] at hu
        by_cases hj : j < T.length
        · rw [List.getElem?_append_left (by simpa using hj)] at hu
          rw [World.cell?_setCells_out b _ _ W ⟨b, off + j, none⟩ (fun _ _ => Or.inl (by show off + j < off + T.length; omega))]
          exact hc.olds j u hu
        · rw [List.getElem?_append_right (by simpa using hj), List.length_map] at hu
          have hj2 := (List.getElem?_eq_some_iff.1 hu).1
          have := World.cell?_setCells_in b (A.map ptr) (off + T.length) W (fun j hj => by have := there j hj; simpa using this) (j - T.length) hj2
          rw [show off + T.length + (j - T.length) = off + j by omega] at this
          rw [this, ← hu, List.getElem?_eq_getElem hj2]
      · rw [List.length_append] at hj ⊢
        have hs := hc.spare (A.length + j) (by omega)
        rw [show off + T.length * 1 + (A.length + j) = off + (T.length + A.length) * 1 + j by omega] at hs
        rw [World.cell?_setCells_out b _ _ W ⟨b, off + (T.length + A.length) * 1 + j, none⟩ (fun _ _ => Or.inr (by show off + T.length + (A.map ptr).length ≤ off + (T.length + A.length) * 1 + j; rw [List.length_map]; omega)), World.frozen?_setCells]
        exact hs
    · have hA : A = [] := List.length_eq_zero_iff.1 (by omega)
      subst hA
      have hr := run_append_nothing W 73 73 ty 61 i0 Tryz.underlying73 hi0 ao T.length cap hc.le x (by simpa using hsrc)
      rw [List.append_nil]
      exact ⟨_, _, hr, ⟨ao, b, off, cap, rfl, hm, hc, hq⟩, Ke.refl _ _⟩
  · have hold : (Builtin.firstCells i0.size T.length (.slice ao T.length cap)).run Tryz.prog W.drew = .ok (T.map ptr).toArray W.drew := by
      rw [hz1]
      by_cases h0 : 0 < cap
      · have ha := hc.addr h0
        subst ha
        exact run_firstCells_some W.drew 1 T.length ⟨b, off, none⟩ T.length cap (T.map ptr) (by simp) (fun j u hu => by
          rw [addr_at]
          exact hc.olds j u hu)
      · have hle := hc.le
        have hT : T = [] := List.length_eq_zero_iff.1 (by omega)
        subst hT
        have hcap : cap = 0 := by omega
        subst hcap
        cases ao with
        | none => exact run_firstCells_none W.drew 1 0 0 0
        | some a => exact run_firstCells_some W.drew 1 0 a 0 0 [] (by simp) (fun j u hu => by simp at hu)
    have hr := run_append_grow_src W 73 73 ty 61 i0 (.pointer none) Tryz.underlying73 hi0 hz0 ao T.length cap (T.map ptr) hold x A.length (A.map ptr) hsrc (by omega) (by omega) (growslice_fits (by omega) (by rw [hz2]; omega))
    have hG1 : T.length + A.length ≤ grownCap W (T.length + A.length) cap 61 := grownCap_ge W _ _ _
    have hG2 : grownCap W (T.length + A.length) cap 61 ≤ maxLen := grownCap_le_maxLen W _ cap 61 (by unfold maxLen; omega)
    obtain ⟨Gc, hGc⟩ : ∃ k, k = grownCap W (T.length + A.length) cap 61 := ⟨_, rfl⟩
    rw [← hGc] at hr hG1 hG2
    refine ⟨_, _, hr, ⟨_, W.heap.size, 0, Gc, by rw [List.length_append], hG2, ?_, fun _ => hQ⟩, Ke.of_below (((Below.refl W.heap.size W).drew).alloc (Nat.le_refl _) _)⟩
    obtain ⟨cur, hcur⟩ : ∃ cur, cur = (T.map ptr ++ A.map ptr).toArray ++ Builtin.zeroCells (Value.pointer Option.none).cells (Gc - (T.length + A.length)) := ⟨_, rfl⟩
    rw [← hcur]
    have hsz : cur.size = Gc := by
      rw [hcur, Array.size_append, size_zeroCells, show (Value.pointer Option.none).cells.size = 1 from rfl]
      simp
      omega
    have hobj : (W.drew.alloc (.cells cur 61)).heap[W.heap.size]? = some (.cells cur 61 (0, 0)) := heap_alloc_new W.drew _
    have hcell : ∀ k, (W.drew.alloc (.cells cur 61)).cell? ⟨W.heap.size, k, none⟩ = cur[k]? := fun k => (show ∀ (Wn : World), Wn.heap[W.heap.size]? = some (.cells cur 61 (0, 0)) → Wn.cell? ⟨W.heap.size, k, none⟩ = cur[k]? from fun Wn h => by simp [World.cell?, h]) _ hobj
    have hfrz : ∀ k, (W.drew.alloc (.cells cur 61)).frozen? ⟨W.heap.size, k, none⟩ = false := fun k => (show ∀ (Wn : World), Wn.heap[W.heap.size]? = some (.cells cur 61 (0, 0)) → Wn.frozen? ⟨W.heap.size, k, none⟩ = false from fun Wn h => by simp [World.frozen?, h]) _ hobj
    refine ⟨by rw [List.length_append]; exact hG1, fun _ => rfl, fun _ => by simp, by simp, fun j u hu => ?_, fun j hj => ?_⟩
    · rw [hcell, hcur]
      have hj := (List.getElem?_eq_some_iff.1 hu).1
      rw [Nat.zero_add, Array.getElem?_append_left (by simpa using hj)]
      rw [List.map_append] at hu
      simpa using hu
    · rw [hcell]
      rw [List.length_append] at hj ⊢
      refine ⟨?_, hfrz _⟩
      rw [Array.getElem?_eq_getElem (by omega)]
      rfl
end
end Go.Proofs.YtobkgamcjfjghaaGreat.Rt
/-
  Contract of Tree.put: a part is put into the tree; those that are taken out on the way are put in anew. What is no part of the tree is left as it was.
-/
namespace Go.Proofs.YtobkgamcjfjghaaGreat.Rt
open Go.RowKit Go.Joins Go.Proofs.YtobkgamcjfjghaaGreat.Pt Go.Proofs.YtobkgamcjfjghaaGreat.Rc Go.Proofs.YtobkgamcjfjghaaGreat.Rs
set_option linter.unusedVariables false
set_option linter.unusedSimpArgs false
set_option maxHeartbeats 4000000
set_option maxRecDepth 100000
def blT (σ : St) (Ts : List (Nat × Nat)) : List Nat := Ts.flatMap fun p => blks σ p.2 p.1
def lvT (σ : St) (Ts : List (Nat × Nat)) : List Nat := Ts.flatMap fun p => lvs σ p.2 p.1
theorem blT_cons (σ : St) (p : Nat × Nat) (Ts : List (Nat × Nat)) : blT σ (p :: Ts) = blks σ p.2 p.1 ++ blT σ Ts := List.flatMap_cons
theorem lvT_cons (σ : St) (p : Nat × Nat) (Ts : List (Nat × Nat)) : lvT σ (p :: Ts) = lvs σ p.2 p.1 ++ lvT σ Ts := List.flatMap_cons
theorem blT_app (σ : St) (Ts Us : List (Nat × Nat)) : blT σ (Ts ++ Us) = blT σ Ts ++ blT σ Us := List.flatMap_append
theorem lvT_app (σ : St) (Ts Us : List (Nat × Nat)) : lvT σ (Ts ++ Us) = lvT σ Ts ++ lvT σ Us := List.flatMap_append
theorem blT_map (σ : St) (f : Nat) (As : List Nat) : blT σ (As.map fun k => (k, f)) = As.flatMap (blks σ f) := by unfold blT; rw [List.flatMap_map]
theorem lvT_map (σ : St) (f : Nat) (As : List Nat) : lvT σ (As.map fun k => (k, f)) = As.flatMap (lvs σ f) := by unfold lvT; rw [List.flatMap_map]
theorem pairs_congr {f g : Nat × Nat → List Nat} : ∀ {l : List (Nat × Nat)}, (∀ k ∈ l, f k = g k) → l.flatMap f = l.flatMap g
  | [], _ => rfl
  | a :: l, h => by rw [List.flatMap_cons, List.flatMap_cons, h a (by simp), pairs_congr fun k hk => h k (by simp [hk])]
theorem blT_agree {σ τ : St} {Ts : List (Nat × Nat)} (h : ∀ k ∈ blT σ Ts, τ k = σ k) : blT τ Ts = blT σ Ts ∧ lvT τ Ts = lvT σ Ts :=
  ⟨pairs_congr fun p hp => blks_agree p.2 p.1 fun j hj => h j (List.mem_flatMap.2 ⟨p, hp, hj⟩), pairs_congr fun p hp => lvs_agree p.2 p.1 fun j hj => h j (List.mem_flatMap.2 ⟨p, hp, hj⟩)⟩
theorem Tree.perm {σ : St} {lo hi rlo h b : Nat} {E E' G : List Nat} (ht : Tree σ lo hi rlo h b E G) (hp : E.Perm E') : Tree σ lo hi rlo h b E' G := by
  obtain ⟨d, h1, h2, h3, h4, h5, h6, h7, h8⟩ := ht
  exact ⟨d, h1, h2, h3, h4, h5, h6, ((List.Perm.append_left _ hp).nodup_iff).1 h7, h8⟩
theorem kids_len {σ : St} {lo hi f : Nat} (h2 : 2 ≤ lo) : ∀ (As : List Nat), (∀ k ∈ As, Nd σ lo hi f k) → As.length ≤ (As.flatMap (lvs σ f)).length
  | [], _ => by simp
  | a :: As, h => by
    have a1 := (h a (List.mem_cons_self ..)).high h2
    have c := kids_len h2 As fun r hr => h r (List.mem_cons_of_mem _ hr)
    rw [List.flatMap_cons, List.length_append, List.length_cons]
    omega
def slN (v : Value) : Nat := match v with
  | .slice _ n _ => n
  | _ => 0
/-- In the midst of it: Ts are still to be put in. -/
def PutR (rl o t mb N0 H0 : Nat) (E G0 : List Nat) (w0 : World) (σ0 : St) (V0 : Nat → Value) (v4 v5 : Value) (wr : World) : Prop :=
  ∃ (σ : St) (V : Nat → Value) (rt h fr : Nat) (Ts : List (Nat × Nat)) (G : List Nat), v4 = .int .i64 (fr : Int) ∧ fr ≤ N0 ∧ Stp t w0 σ0 V0 wr σ V ∧ TAt wr t o mb rt ∧ Kps σ0 σ E ∧ Td wr (fun k => w0.heap.size ≤ k ∧ ¬ Foot σ V k) v5 (Ts.map Prod.fst) ∧
    (∀ p ∈ Ts, Nd σ (leastN o) o p.2 p.1 ∧ p.2 ≤ h) ∧ (lvT σ Ts ++ G).Perm G0 ∧ H0 ≤ h ∧ Tree σ (leastN o) o rl h rt (blT σ Ts ++ E) G
/-- What put leaves. -/
def PutE (rl o t mb H0 : Nat) (E G0 : List Nat) (w0 : World) (σ0 : St) (V0 : Nat → Value) (e : Ending) (w' : World) : Prop :=
  e = .returned (.tuple #[]) ∧ ∃ (σ : St) (V : Nat → Value) (rt h : Nat) (G : List Nat), Stp t w0 σ0 V0 w' σ V ∧ TAt w' t o mb rt ∧ Kps σ0 σ E ∧ Tree σ (leastN o) o rl h rt E G ∧ G.Perm G0 ∧ H0 ≤ h
/-- One is put in, and what was taken out is appended. -/
theorem PutR.next {rl o t mb N0 H0 h fr rt rt1 H' : Nat} {p : Nat × Nat} {Ts : List (Nat × Nat)} {E G0 G G1 As : List Nat} {w0 wr w2 w3 : World} {σ0 σ τ : St} {V0 V V1 : Nat → Value} {v' : Value} (h1 : 4 ≤ o) (h2 : o ≤ 16) (hrl0 : 1 ≤ rl) (hrl : rl ≤ 2) (hN : N0 = G0.length) (ht0 : t < w0.heap.size) (hf : fr ≤ N0) (st : Stp t w0 σ0 V0 wr σ V) (kp : Kps σ0 σ E)
    (nd : ∀ q ∈ p :: Ts, Nd σ (leastN o) o q.2 q.1 ∧ q.2 ≤ h) (pm : (lvT σ (p :: Ts) ++ G).Perm G0) (hH : H0 ≤ h) (tr : Tree σ (leastN o) o rl h rt (blT σ (p :: Ts) ++ E) G)
    (s2 : Stp t wr σ V w2 τ V1) (t2 : TAt w2 t o mb rt1) (k2 : Kps σ τ (blT σ Ts ++ E)) (sh : As = [] ∨ (As.length = manyN o ∧ fr < h)) (n2 : ∀ k ∈ As, Nd τ (leastN o) o fr k) (p2 : (As.flatMap (lvs τ fr) ++ G1).Perm (lvs σ p.2 p.1 ++ G)) (hh : h ≤ H') (tr2 : Tree τ (leastN o) o rl H' rt1 (As.flatMap (blks τ fr) ++ (blT σ Ts ++ E)) G1)
    (td : Td w3 (fun k => w0.heap.size ≤ k ∧ ¬ Foot τ V1 k) v' (Ts.map Prod.fst ++ As)) (ke : Ke (fun k => w0.heap.size ≤ k ∧ ¬ Foot τ V1 k) w2 w3) :
    (∀ fr2 : Nat, fr2 = (if As = [] then fr else fr + 1) → PutR rl o t mb N0 H0 E G0 w0 σ0 V0 (.int .i64 (fr2 : Int)) v' w3) ∧ (As ≠ [] → fr + 1 ≤ N0) := by
  have LT := least_two h1 h2
  have hhigh : H' ≤ N0 := by
    have hi := tr2.high LT.1 (by omega)
    have e1 := p2.length_eq
    have e2 := pm.length_eq
    rw [lvT_cons] at e2
    simp only [List.length_append] at e1 e2
    omega
  have hfr : As ≠ [] → fr + 1 ≤ N0 := fun hA => by
    rcases sh with h | ⟨_, h⟩
    · exact absurd h hA
    · omega
  refine ⟨fun fr2 hfr2 => ?_, hfr⟩
  have hout : ∀ k ∈ blT σ Ts, τ k = σ k := fun k hk => k2.out k (List.mem_append_left _ hk)
  obtain ⟨e1, e2⟩ := blT_agree hout
  have st2 := st.trans s2
  have st3 : Stp t w0 σ0 V0 w3 τ V1 := ⟨s2.mem.keep ke (fun k hf hq => hq.2 hf), st2.foot, st2.ke.trans ke (fun g hg hq => by omega)⟩
  refine ⟨τ, V1, rt1, H', fr2, Ts ++ As.map (fun k => (k, fr)), G1, rfl, ?_, st3, t2.keep ke (fun hq => by have := hq.1; omega), kp.trans (k2.sub fun k hk => List.mem_append_right _ hk), ?_, fun q hq => ?_, ?_, Nat.le_trans hH hh, tr2.perm ?_⟩
  · rw [hfr2]
    split
    · exact hf
    · rename_i h; exact hfr h
  · rw [List.map_append, List.map_map, show (Prod.fst ∘ fun k : Nat => (k, fr)) = id from rfl, List.map_id]
    exact td
  · rcases List.mem_append.1 hq with hq | hq
    · obtain ⟨a, b⟩ := nd q (List.mem_cons_of_mem _ hq)
      exact ⟨a.agree fun j hj => hout j (List.mem_flatMap.2 ⟨q, hq, hj⟩), Nat.le_trans b hh⟩
    · obtain ⟨k, hk, rfl⟩ := List.mem_map.1 hq
      refine ⟨n2 k hk, ?_⟩
      rcases sh with h | ⟨_, h⟩
      · rw [h] at hk; cases hk
      · show fr ≤ H'; omega
  · rw [lvT_app, lvT_map, e2]
    refine List.Perm.trans ?_ pm
    rw [lvT_cons, List.perm_iff_count] at *
    intro a
    have := p2 a
    simp only [List.count_append] at this ⊢
    omega
  · rw [blT_app, blT_map, e1, List.perm_iff_count]
    intro a
    simp only [List.count_append]
    omega
theorem put_any (rl t o mb root x hx h : Nat) (σ : St) (V : Nat → Value) (E G : List Nat) (w : World) (hM : Mem w σ V) (hT : TAt w t o mb root) (h1 : 4 ≤ o) (h2 : o ≤ 16) (hrl0 : 1 ≤ rl) (hrl : rl ≤ 2) (ht : Tree σ (leastN o) o rl h root (blks σ hx x ++ E) G) (hnx : Nd σ (leastN o) o hx x) (hxh : hx ≤ h) (hE : ∀ k ∈ E, ∃ d, σ k = some d) (hG : (lvs σ hx x ++ G).length ≤ 2500) :
    Calls Tryz.prog 26 #[ptr t, ptr x] w (PutE rl o t mb h E (lvs σ hx x ++ G) w σ V) := by
  obtain ⟨dx, hxx, hlv⟩ := hnx.here
  have LT := least_two h1 h2
  obtain ⟨G0, hG0⟩ : ∃ G0, G0 = lvs σ hx x ++ G := ⟨_, rfl⟩
  rw [← hG0] at hG ⊢
  obtain ⟨N0, hN0⟩ : ∃ N, N = G0.length := ⟨_, rfl⟩
  have hN25 : N0 ≤ 2500 := by omega
  have hhN : h ≤ N0 := by
    have := ht.high LT.1 (by omega)
    rw [hN0, hG0, List.length_append]
    omega
  have ht0 := hT.lt
  have HT0 := Lib.hid ht0
  have HN0 := Lib.hid hN0
  have HE := Lib.hid hE
  obtain ⟨z0, -, -, -, -, -, -⟩ := (hM.part x dx hxx).cells
  rw [hlv] at z0
  have hw1 : IntKind.i64.wrap ((hx : Int) - 1 + 1) = (hx : Int) := by
    rw [show (hx : Int) - 1 + 1 = (hx : Int) by omega]
    exact IntWalk.i64_in _ (by omega)
  have HW1 := Lib.hid (show wrap64 (hx : Int) = (hx : Int) from by unfold wrap64; omega)
  have R0 := Lib.hid (show PutR rl o t mb N0 h E G0 w σ V (.int .i64 (hx : Int)) (.slice (some ⟨w.heap.size, 0, none⟩) 1 1) (w.alloc (.cells #[ptr x] 61)) from by
    refine ⟨σ, V, root, h, hx, [(x, hx)], G, rfl, by omega, (Stp.refl t hM).below ((Below.refl _ _).alloc (Nat.le_refl _) _), hT.later ((Below.refl _ _).alloc (Nat.le_refl _) _), Kps.refl _ _, Td.one x ⟨Nat.le_refl _, fun hf => by have := hM.foot_lt hf; omega⟩, fun p hp => ?_, ?_, Nat.le_refl _, ?_⟩
    · simp at hp; subst hp; exact ⟨hnx, hxh⟩
    · rw [hG0]; simp [lvT]
    · simpa [blT] using ht)
  unfold ptr at R0 ⊢
  clear hM hT ht hnx hxh hE hG hG0 hxx hlv LT hhN hN0 ht0
  go_enter Tryz.func26, Tryz.ntmps26
  go_wp2_with fail
  go_loopw [4, 5] (fun v4 v5 wr => PutR rl o t mb N0 h E G0 w σ V v4 v5 wr) (fun v4 v5 _ => (N0 + 1 - (intOf v4).toNat) * 20 + slN v5)
  case atStart => rw [HW1.out]; exact R0.out
  case round =>
    clear R0
    obtain ⟨σ1, V1, rt, h', fr, Ts, G1, rfl, hfr, st, tr, kp, td, nd, pm, hH, tree⟩ := hrel
    have ST := Lib.hid st
    have TR := Lib.hid tr
    have KP := Lib.hid kp
    have TD := Lib.hid td
    have ND := Lib.hid nd
    have PM := Lib.hid pm
    have HH := Lib.hid hH
    have TREE := Lib.hid tree
    clear st tr kp nd pm hH tree
    cases Ts with
    | nil =>
      obtain ⟨ao, b, off, cap, rfl, hcm, -, -⟩ := td
      have hz : ¬ (0 : Int) < ((([] : List (Nat × Nat)).map Prod.fst).length : Int) := by simp
      simp only [List.map_nil, List.length_nil]
      clear TD
      go_wp2_with fail
      refine bodyPost_end (v := .tuple #[]) (by simp [results, Tryz.results26, go_sem]) rfl ?_
      have hp := PM.out
      have htr := TREE.out
      simp only [lvT, blT, List.flatMap_nil, List.nil_append] at hp htr
      exact ⟨rfl, σ1, V1, rt, h', G1, ST.out, TR.out, KP.out, htr, hp, HH.out⟩
    | cons p Ts =>
      obtain ⟨x1, h1'⟩ := p
      obtain ⟨b, off, cap, rfl, hcl, hcm, c0, td1, td2⟩ := Td.head (x := x1) (T := Ts.map Prod.fst) td
      have T1 := Lib.hid td1
      have T2 := Lib.hid td2
      obtain ⟨n, hn⟩ : ∃ n, n = (Ts.map Prod.fst).length := ⟨_, rfl⟩
      rw [← hn] at hcl T1 T2 ⊢
      have NN := Lib.hid hn
      have hz : (0 : Int) < ((n + 1 : Nat) : Int) := by omega
      have hz2 : (0 : Int) < (n : Int) + 1 := by omega
      have hz3 : 0 < n + 1 := by omega
      have hmx : cap ≤ 9223372036854775807 := by unfold maxLen at hcm; omega
      obtain ⟨np, lp⟩ := ND.out (x1, h1') (List.mem_cons_self ..)
      have hle : n ≤ 5000 := by
        have e := PM.out.length_eq
        have hl : ∀ (Us : List (Nat × Nat)), (∀ q ∈ Us, Nd σ1 (leastN o) o q.2 q.1) → Us.length ≤ (lvT σ1 Us).length := by
          intro Us
          induction Us with
          | nil => intro _; simp
          | cons q Us ih =>
            intro hq
            have a := (hq q (List.mem_cons_self ..)).high (least_two h1 h2).1
            have c := ih fun r hr => hq r (List.mem_cons_of_mem _ hr)
            rw [lvT_cons, List.length_append, List.length_cons]
            omega
        have := hl ((x1, h1') :: Ts) fun q hq => (ND.out q hq).1
        rw [List.length_append] at e
        rw [hn, List.length_map]
        have := HN0.out
        simp only [List.length_cons] at *
        omega
      have CA := Lib.hid (add_any rl t o mb rt x1 fr h1' h' σ1 V1 (blT σ1 Ts ++ E) G1 wr ST.out.mem TR.out h1 h2 hrl0 hrl (by have := TREE.out; rw [blT_cons, List.append_assoc] at this; exact this) (by
          have hi := TREE.out.high (least_two h1 h2).1 (by omega)
          have e := PM.out.length_eq
          rw [List.length_append] at e
          have := HN0.out
          omega) np lp (fun k hk => by
          rcases List.mem_append.1 hk with hk | hk
          · obtain ⟨q, hq, hk⟩ := List.mem_flatMap.1 hk
            exact (ND.out q (List.mem_cons_of_mem _ hq)).1.known k hk
          · obtain ⟨d, hd⟩ := HE.out k hk
            exact KP.out.part k d hd))
      unfold ptr at CA c0
      clear td td1 td2 TD hn np lp
      go_wp2_with fail
      refine Calls.mono CA.out ?_
      rintro e w2 ⟨τ, V2, As, G2, rt2, H2, s, rfl, s2, t2, k2, hrow, hap, sh, n2, p2, hh, tr2⟩
      obtain ⟨sa, sc, es⟩ : ∃ sa sc, s = .slice sa As.length sc := by
        rcases hrow.2 with ⟨e, e2⟩ | ⟨g, c, cur, e, _⟩
        · exact ⟨none, 0, by rw [e, e2]⟩
        · exact ⟨_, c, e⟩
      subst es
      have S2 := Lib.hid s2
      have ROW := Lib.hid hrow
      have X2 := Lib.hid (And.intro t2 (And.intro k2 (And.intro sh (And.intro n2 (And.intro p2 (And.intro hh tr2))))))
      have hal : As.length ≤ 2500 := by
        have e := p2.length_eq
        have e2 := PM.out.length_eq
        have hl := kids_len (least_two h1 h2).1 As n2
        rw [lvT_cons] at e2
        simp only [List.length_append] at e e2
        have := HN0.out
        omega
      -- the rest of the list, and what is appended to it
      have QW := Lib.hid (show w.heap.size ≤ w2.heap.size ∧ ¬ Foot τ V2 w2.heap.size from ⟨Nat.le_trans ST.out.ke.size S2.out.ke.size, fun hf => by have := S2.out.mem.foot_lt hf; omega⟩)
      have sm : ∀ k, k < wr.heap.size → (w.heap.size ≤ k ∧ ¬ Foot σ1 V1 k) → w2.heap[k]? = wr.heap[k]? ∧ (w.heap.size ≤ k ∧ ¬ Foot τ V2 k) := fun k hk hq => by
        have := S2.out.out hk hq.2 (by have := HT0.out; omega)
        exact ⟨this.1, hq.1, this.2⟩
      have NX := Lib.hid (fun (v' : Value) (w3 : World) (td : Td w3 (fun k => w.heap.size ≤ k ∧ ¬ Foot τ V2 k) v' (Ts.map Prod.fst ++ As)) (ke : Ke (fun k => w.heap.size ≤ k ∧ ¬ Foot τ V2 k) w2 w3) =>
        PutR.next (mb := mb) h1 h2 hrl0 hrl HN0.out HT0.out hfr ST.out KP.out ND.out PM.out HH.out TREE.out S2.out X2.out.1 X2.out.2.1 X2.out.2.2.1 X2.out.2.2.2.1 X2.out.2.2.2.2.1 X2.out.2.2.2.2.2.1 X2.out.2.2.2.2.2.2 td ke)
      have AP : ∀ v1, Td w2 (fun k => w.heap.size ≤ k ∧ ¬ Foot τ V2 k) v1 (Ts.map Prod.fst) → ∀ ty, ∃ v' w', (Builtin.append_ #[73, 73] ty #[v1, .slice sa As.length sc]).run Tryz.prog w2 = .ok v' w' ∧ Td w' (fun k => w.heap.size ≤ k ∧ ¬ Foot τ V2 k) v' (Ts.map Prod.fst ++ As) ∧ Ke (fun k => w.heap.size ≤ k ∧ ¬ Foot τ V2 k) w2 w' := fun v1 hv1 ty => hv1.append QW.out ROW.out (by rw [← NN.out]; omega) ty
      have APH := Lib.hid AP
      have SM := Lib.hid sm
      have hfz : (fr : Int) ≤ 2500 := by omega
      have SH := Lib.hid sh
      clear s2 t2 k2 hrow hap sh n2 p2 hh tr2 sm AP X2 ST TR KP ND PM HH TREE
      obtain ⟨kA, hkA⟩ : ∃ k, k = As.length := ⟨_, rfl⟩
      rw [← hkA] at APH ⊢
      have KA := Lib.hid hkA
      have K5 := Lib.hid (show kA ≤ 5 from by
        rcases SH.out with h | ⟨h, _⟩
        · rw [hkA, h]; simp
        · rw [hkA, h]; unfold manyN; omega)
      by_cases hA : As = []
      · have HA := Lib.hid hA
        have hlz : ¬ (0 : Int) < (kA : Int) := by rw [hkA, hA]; simp
        have hlz2 : ¬ 0 < kA := by omega
        clear hA hkA
        by_cases hc1 : cap = 1
        · have TD := Lib.hid ((T2.out hc1).same SM.out S2.out.ke.size)
          obtain ⟨v', w3, hrz, td3, ke3⟩ := APH.out _ TD.out 73
          have FIN := Lib.hid (NX.out v' w3 td3 ke3)
          have SL := Lib.hid (show slN v' = n + kA from by
            obtain ⟨_, _, _, _, e, _⟩ := td3
            rw [e, NN.out, KA.out]
            simp [slN])
          clear td3 ke3 TD
          subst hc1
          have hn0 : n = 0 := by omega
          subst hn0
          go_wp2_with (at_builtin; refine Lib.wpList_append_run _ rfl _ _ _ _ rfl _ _ rfl rfl _ _ hrz ?_)
          go_roundw
          case rel => exact FIN.out.1 fr (by rw [if_pos HA.out])
          case measure => (show (N0 + 1 - fr) * 20 + slN v' < (N0 + 1 - fr) * 20 + (_ + 1); rw [SL.out]; omega)
        · have TD := Lib.hid (T1.out.same SM.out S2.out.ke.size)
          obtain ⟨v', w3, hrz, td3, ke3⟩ := APH.out _ TD.out 73
          have FIN := Lib.hid (NX.out v' w3 td3 ke3)
          have SL := Lib.hid (show slN v' = n + kA from by
            obtain ⟨_, _, _, _, e, _⟩ := td3
            rw [e, NN.out, KA.out]
            simp [slN])
          clear td3 ke3 TD
          go_wp2_with (at_builtin; refine Lib.wpList_append_run _ rfl _ _ _ _ rfl _ _ rfl rfl _ _ hrz ?_)
          go_roundw
          case rel => exact FIN.out.1 fr (by rw [if_pos HA.out])
          case measure => (show (N0 + 1 - fr) * 20 + slN v' < (N0 + 1 - fr) * 20 + (_ + 1); rw [SL.out]; omega)
      · have HA := Lib.hid hA
        have hlz : (0 : Int) < (kA : Int) := by rw [hkA]; cases As with | nil => exact absurd rfl hA | cons a l => (simp; try omega)
        have hlz2 : 0 < kA := by omega
        clear hA hkA
        by_cases hc1 : cap = 1
        · have TD := Lib.hid ((T2.out hc1).same SM.out S2.out.ke.size)
          obtain ⟨v', w3, hrz, td3, ke3⟩ := APH.out _ TD.out 73
          have FIN := Lib.hid (NX.out v' w3 td3 ke3)
          have SL := Lib.hid (show slN v' = n + kA from by
            obtain ⟨_, _, _, _, e, _⟩ := td3
            rw [e, NN.out, KA.out]
            simp [slN])
          clear td3 ke3 TD
          subst hc1
          have hn0 : n = 0 := by omega
          subst hn0
          go_wp2_with (at_builtin; refine Lib.wpList_append_run _ rfl _ _ _ _ rfl _ _ rfl rfl _ _ hrz ?_)
          go_roundw
          case rel =>
            obtain ⟨q1, q2, q3, q4, q5, q6, q7, e, r⟩ := FIN.out.1 (fr + 1) (by rw [if_neg HA.out])
            exact ⟨q1, q2, q3, q4, q5, q6, q7, by rw [← e]; go_num, r⟩
          case measure => (show (N0 + 1 - (fr + 1)) * 20 + slN v' < (N0 + 1 - fr) * 20 + (_ + 1); rw [SL.out]; have := K5.out; have := FIN.out.2 HA.out; omega)
        · have TD := Lib.hid (T1.out.same SM.out S2.out.ke.size)
          obtain ⟨v', w3, hrz, td3, ke3⟩ := APH.out _ TD.out 73
          have FIN := Lib.hid (NX.out v' w3 td3 ke3)
          have SL := Lib.hid (show slN v' = n + kA from by
            obtain ⟨_, _, _, _, e, _⟩ := td3
            rw [e, NN.out, KA.out]
            simp [slN])
          clear td3 ke3 TD
          go_wp2_with (at_builtin; refine Lib.wpList_append_run _ rfl _ _ _ _ rfl _ _ rfl rfl _ _ hrz ?_)
          go_roundw
          case rel =>
            obtain ⟨q1, q2, q3, q4, q5, q6, q7, e, r⟩ := FIN.out.1 (fr + 1) (by rw [if_neg HA.out])
            exact ⟨q1, q2, q3, q4, q5, q6, q7, by rw [← e]; go_num, r⟩
          case measure => (show (N0 + 1 - (fr + 1)) * 20 + slN v' < (N0 + 1 - fr) * 20 + (_ + 1); rw [SL.out]; have := K5.out; have := FIN.out.2 HA.out; omega)
end Go.Proofs.YtobkgamcjfjghaaGreat.Rt
namespace Go.Proofs.YtobkgamcjfjghaaGreat.Rt
open Go.RowKit Go.Joins Go.Proofs.YtobkgamcjfjghaaGreat.Pt Go.Proofs.YtobkgamcjfjghaaGreat.Rc Go.Proofs.YtobkgamcjfjghaaGreat.Rs
set_option linter.unusedVariables false
set_option linter.unusedSimpArgs false
set_option maxHeartbeats 4000000
set_option maxRecDepth 100000
/-- The way from the node whose kid x is, up to b. -/
def Way (σ : St) (x : Nat) : Nat → Nat → List Nat → Prop
  | 0, b, P => x ∈ kidsOf σ b ∧ P = [b]
  | h + 1, b, P => ∃ k Q, k ∈ kidsOf σ b ∧ Way σ x h k Q ∧ P = Q ++ [b]
def PtE (w0 : World) (σ : St) (x h b : Nat) (e : Ending) (w' : World) : Prop :=
  Below w0.heap.size w0 w' ∧ ((x ∉ lvs σ (h + 1) b ∧ e = .returned (.slice none 0 0)) ∨ (∃ (P : List Nat) (g c : Nat), Way σ x h b P ∧ P.length = h + 1 ∧ e = .returned (.slice (some ⟨g, 0, none⟩) (h + 1) c) ∧ w'.ownsRow w0.heap.size 61 1 (.slice (some ⟨g, 0, none⟩) (h + 1) c) (h + 1) (P.map ptr)))
theorem holds_of {a b : R4} (h : holdsR a b) (hb : may4 b) : holdsB a.x1 a.y1 a.x2 a.y2 b.x1 b.y1 b.x2 b.y2 = true := by
  have := rmayB_bd hb
  obtain ⟨h1, h2, h3, h4⟩ := h
  rw [holdsB_iff, inB_iff, inB_iff]
  omega
def PtR (w0 : World) (σ : St) (x h : Nat) (ks : List Nat) (i : Value) (wr : World) : Prop := ∃ j : Nat, j ≤ ks.length ∧ i = .int .i64 (j : Int) ∧ (∀ (t : Nat) (ht : t < j) (hk : t < ks.length), x ∉ lvs σ (h + 1) ks[t]) ∧ Below w0.heap.size w0 wr
theorem pathTo_any (x : Nat) (dx : Pd) (σ : St) (V : Nat → Value) (lo hi : Nat) (w0 : World) (hM : Mem w0 σ V) (hx : σ x = some dx) (hl : dx.lvl = -1) (hr : may4 dx.r) (hlo : 1 ≤ lo) (hh : hi ≤ 20) : ∀ (h b : Nat) (d : Pd) (w : World), σ b = some d → d.lvl = (h : Int) → (∀ k ∈ d.kids, Nd σ lo hi h k) → 1 ≤ d.kids.length → d.kids.length ≤ hi → h ≤ 3000 → Below w0.heap.size w0 w →
    Calls Tryz.prog 36 #[ptr b, ptr x] w (PtE w0 σ x h b) := by
  have HM := Lib.hid hM
  have HX := Lib.hid hx
  have PX := Lib.hid (hM.part x dx hx)
  have HR := Lib.hid hr
  have HLX := Lib.hid hl
  have HHI := Lib.hid hh
  have HLO := Lib.hid hlo
  clear hM hx hr hl hh hlo
  intro h
  induction h with
  | zero =>
    intro b d w hd hl hk h1 h2 h3 hB
    have HB := Lib.hid hB
    have HD := Lib.hid hd
    have MW := Lib.hid (HM.out.later hB)
    have PB := Lib.hid (MW.out.part b d hd)
    obtain ⟨A0, c, hsv, -, -, hrow⟩ := PB.out.kids
    obtain ⟨g, rfl, hg, hcs⟩ := hrow (by omega)
    obtain ⟨z0, -, -, -, -, -, z6⟩ := PB.out.cells
    obtain ⟨y0, -, -, -, -, -, -⟩ := (PX.out.later hB).cells
    rw [hl] at z0
    rw [HLX.out] at y0
    rw [hsv] at z6
    have CC := Lib.hid (contains_any g 0 c x d.kids w.drew hg (fun i hi => by rw [Nat.zero_add]; exact hcs i hi) (Nat.le_trans h2 HHI.out) (MW.out.drew.ob ⟨dx, HX.out⟩) (fun k hk' => by
      obtain ⟨e, he, _⟩ := (hk k hk').here
      exact MW.out.drew.ob ⟨e, he⟩))
    have HLV := Lib.hid (show lvs σ 1 b = d.kids from by
      rw [lvs_self hd]
      show d.kids.flatMap (fun k => [k]) = d.kids
      simp)
    have HKO := Lib.hid (kidsOf_some hd)
    obtain ⟨n, hn⟩ : ∃ n, n = d.kids.length := ⟨_, rfl⟩
    rw [← hn] at CC z6
    obtain ⟨t, ht⟩ : ∃ t, t = d.kids.contains x := ⟨_, rfl⟩
    rw [← ht] at CC
    have HT := Lib.hid ht
    unfold ptr at CC ⊢
    clear hd hl hk h1 h2 h3 hB hsv hrow hcs hn ht hg
    cases t with
    | false =>
      go_enter Tryz.func36, Tryz.ntmps36
      go_wp2_with fail
      go_region
      go_wp2_with fail
      refine Calls.mono CC.out ?_
      rintro e w1 ⟨rfl, hb1⟩
      have B1 := Lib.hid (HB.out.drew.trans (hb1.mono HB.out.size))
      clear hb1
      go_wp2_with fail
      go_ret
      refine ⟨B1.out, Or.inl ⟨?_, rfl⟩⟩
      rw [HLV.out]
      intro hx
      have := HT.out
      simp [hx] at this
    | true =>
      go_enter Tryz.func36, Tryz.ntmps36
      go_wp2_with fail
      go_region
      go_wp2_with fail
      refine Calls.mono CC.out ?_
      rintro e w1 ⟨rfl, hb1⟩
      have B1 := Lib.hid (HB.out.drew.trans (hb1.mono HB.out.size))
      clear hb1
      go_wp2_with fail
      go_ret
      refine ⟨B1.out.alloc B1.out.size _, Or.inr ⟨[b], w1.heap.size, 1, ⟨?_, rfl⟩, rfl, rfl, World.ownsRow_lit (size := 1) (base := w0.heap.size) w1 #[ptr b] 1 B1.out.size (by unfold maxLen; omega) rfl⟩⟩
      rw [HKO.out]
      have := HT.out
      exact (List.contains_iff_mem).1 this.symm
  | succ h ih =>
    have q22 : ∀ (w : World) (a : Option Addr) (n c n' c' : Nat), (binOp .neq 73 (.slice a n c) (.slice none n' c')).run Tryz.prog w = .ok (.bool (!a.isNone)) w := fun w a n c n' c' => run_neq_slice_nil_any w _ _ a n c n' c' Tryz.underlying73
    intro b d w hd hl hk h1 h2 h3 hB
    have IH := Lib.hid ih
    have HB := Lib.hid hB
    have HD := Lib.hid hd
    have HK := Lib.hid hk
    have H3 := Lib.hid h3
    have PB := Lib.hid (HM.out.part b d hd)
    obtain ⟨A0, c, hsv, -, -, hrow⟩ := PB.out.kids
    obtain ⟨g, rfl, hg, hcs⟩ := hrow (by omega)
    have HCS := Lib.hid hcs
    have HGL := Lib.hid hg
    obtain ⟨n, hn⟩ : ∃ n, n = d.kids.length := ⟨_, rfl⟩
    have HN := Lib.hid hn
    obtain ⟨z0, -, -, -, -, -, z6⟩ := (PB.out.later hB).cells
    obtain ⟨y0, -, -, -, -, -, -⟩ := (PX.out.later hB).cells
    rw [hl] at z0
    rw [HLX.out] at y0
    rw [hsv, ← hn] at z6
    have hn20 : n ≤ 20 := by rw [hn]; exact Nat.le_trans h2 HHI.out
    have HKO := Lib.hid (kidsOf_some hd)
    have HLV := Lib.hid (lvs_self (h := h + 1) hd)
    have hz : ¬ (((h + 1 : Nat) : Int)) = 0 := by omega
    have hz2 : ¬ ((h : Int) + 1) = 0 := by omega
    unfold ptr
    clear hd hl hk h1 h2 h3 hB hsv hrow hcs hn hg ih
    go_enter Tryz.func36, Tryz.ntmps36
    go_wp2_with fail
    go_region
    clear hz hz2
    go_wp2_with fail
    go_loopw [31] (fun i wr => PtR w0 σ x h d.kids i wr) (fun i _ => n - (intOf i).toNat)
    case atStart => exact ⟨0, Nat.zero_le _, rfl, fun t ht => by omega, HB.out.drew⟩
    case round =>
      obtain ⟨j, hj, rfl, hno, hBr⟩ := hrel
      have BR := Lib.hid hBr
      have HNO := Lib.hid hno
      have HJ := Lib.hid hj
      clear hno hBr hj z0 z6 y0
      by_cases hlt : j < n
      · have hlz : (j : Int) < (n : Int) := by omega
        have hj0 : (0 : Int) ≤ (j : Int) := by omega
        have hjk : j < d.kids.length := by rw [← HN.out]; exact hlt
        obtain ⟨k, hk⟩ : ∃ k, k = d.kids[j]'hjk := ⟨_, rfl⟩
        have ck : wr.cell? ⟨g, j, none⟩ = some (ptr k) := by rw [hk]; exact (BR.out.cell (p := ⟨g, j, none⟩) HGL.out).trans (HCS.out j hjk)
        have ndk := HK.out k (by rw [hk]; exact List.getElem_mem hjk)
        have NDK := Lib.hid ndk
        obtain ⟨dk, hdk, hlk, k1, k2, -, hkk⟩ := id ndk
        have PK := Lib.hid (HM.out.part k dk hdk)
        have CR := Lib.hid (IH.out k dk)
        have XK := Lib.hid (And.intro hdk (And.intro hlk (And.intro k1 (And.intro k2 hkk))))
        obtain ⟨r, hr⟩ : ∃ r, r = dk.r := ⟨_, rfl⟩
        have HRK := Lib.hid hr
        have HS : Hid (∀ W, Below w0.heap.size w0 W → W.cell? ⟨k, 1, none⟩ = some (.int .i64 r.x1) ∧ W.cell? ⟨k, 2, none⟩ = some (.int .i64 r.y1) ∧ W.cell? ⟨k, 3, none⟩ = some (.int .i64 r.x2) ∧ W.cell? ⟨k, 4, none⟩ = some (.int .i64 r.y2) ∧ W.cell? ⟨x, 1, none⟩ = some (.int .i64 dx.r.x1) ∧ W.cell? ⟨x, 2, none⟩ = some (.int .i64 dx.r.y1) ∧ W.cell? ⟨x, 3, none⟩ = some (.int .i64 dx.r.x2) ∧ W.cell? ⟨x, 4, none⟩ = some (.int .i64 dx.r.y2) ∧ Below w0.heap.size w0 W) := Lib.hid fun W hb => by
          obtain ⟨-, a1, a2, a3, a4, -, -⟩ := (PK.out.later hb).cells
          obtain ⟨-, b1, b2, b3, b4, -, -⟩ := (PX.out.later hb).cells
          rw [← HRK.out] at a1 a2 a3 a4
          exact ⟨a1, a2, a3, a4, b1, b2, b3, b4, hb⟩
        obtain ⟨t, ht⟩ : ∃ t, t = holdsB r.x1 r.y1 r.x2 r.y2 dx.r.x1 dx.r.y1 dx.r.x2 dx.r.y2 := ⟨_, rfl⟩
        have HT := Lib.hid ht
        have CH := Lib.hid (fun W => holds_any r.x1 r.y1 r.x2 r.y2 dx.r.x1 dx.r.y1 dx.r.x2 dx.r.y2 W)
        rw [← ht] at CH
        have HKJ := Lib.hid hk
        have NXT := Lib.hid (fun (hn2 : x ∉ lvs σ (h + 1) k) => show ∀ (u : Nat) (hu : u < j + 1) (hk2 : u < d.kids.length), x ∉ lvs σ (h + 1) d.kids[u] from fun u hu hk2 => by
          rcases Nat.lt_succ_iff_lt_or_eq.1 hu with hu | rfl
          · exact HNO.out u hu hk2
          · rw [← HKJ.out]; exact hn2)
        unfold ptr at ck CR
        clear ndk hdk hlk k1 k2 hkk hr ht hk
        cases t with
        | false =>
          have NO := Lib.hid (show x ∉ lvs σ (h + 1) k from fun hx2 => by
            have := holds_of (NDK.out.holds x hx2) (by rw [rOf_some HX.out]; exact HR.out)
            rw [rOf_some XK.out.1, rOf_some HX.out, ← HRK.out, ← HT.out] at this
            cases this)
          go_wp2_with fail
          refine wp_region_held_drew (S := (fun W => W.cell? ⟨k, 1, none⟩ = some (.int .i64 r.x1) ∧ W.cell? ⟨k, 2, none⟩ = some (.int .i64 r.y1) ∧ W.cell? ⟨k, 3, none⟩ = some (.int .i64 r.x2) ∧ W.cell? ⟨k, 4, none⟩ = some (.int .i64 r.y2) ∧ W.cell? ⟨x, 1, none⟩ = some (.int .i64 dx.r.x1) ∧ W.cell? ⟨x, 2, none⟩ = some (.int .i64 dx.r.y1) ∧ W.cell? ⟨x, 3, none⟩ = some (.int .i64 dx.r.x2) ∧ W.cell? ⟨x, 4, none⟩ = some (.int .i64 dx.r.y2) ∧ Below w0.heap.size w0 W)) (by kernel_rfl) (by exact HS.out _ BR.out.drew) (fun hHeld => ?_)
          refine wpAnyH_take (i := 0) (v := ?v0) rfl (by kernel_rfl) (by kernel_rfl) (by kernel_rfl) (fun _ _ _ h => h) (Or.inl ⟨by rfl, ?y0⟩) hHeld ?r0
          case y0 => (intro W hSw; simp only [List.getElem_toArray, List.getElem_cons_zero]; go_simp; try (with_reducible rfl))
          simp only [List.getElem_toArray, List.getElem_cons_zero, Act.put, List.setIfInBounds_toArray, List.set_cons_zero, List.set_cons_succ]
          refine wpAnyH_take (i := 1) (v := ?v1) rfl (by kernel_rfl) (by kernel_rfl) (by kernel_rfl) (fun _ _ _ h => h) (Or.inl ⟨by rfl, ?y1⟩) hHeld ?r1
          case y1 => (intro W hSw; simp only [List.getElem_toArray, List.getElem_cons_succ, List.getElem_cons_zero]; go_simp; try (with_reducible rfl))
          simp only [List.getElem_toArray, List.getElem_cons_succ, List.getElem_cons_zero, Act.put, List.setIfInBounds_toArray, List.set_cons_zero, List.set_cons_succ]
          refine wpAnyH_take (i := 2) (v := ?v2) rfl (by kernel_rfl) (by kernel_rfl) (by kernel_rfl) (fun _ _ _ h => h) (Or.inl ⟨by rfl, ?y2⟩) hHeld ?r2
          case y2 => (intro W hSw; simp only [List.getElem_toArray, List.getElem_cons_succ, List.getElem_cons_zero]; go_simp; try (with_reducible rfl))
          simp only [List.getElem_toArray, List.getElem_cons_succ, List.getElem_cons_zero, Act.put, List.setIfInBounds_toArray, List.set_cons_zero, List.set_cons_succ]
          refine wpAnyH_take (i := 3) (v := ?v3) rfl (by kernel_rfl) (by kernel_rfl) (by kernel_rfl) (fun _ _ _ h => h) (Or.inl ⟨by rfl, ?y3⟩) hHeld ?r3
          case y3 => (intro W hSw; simp only [List.getElem_toArray, List.getElem_cons_succ, List.getElem_cons_zero]; go_simp; try (with_reducible rfl))
          simp only [List.getElem_toArray, List.getElem_cons_succ, List.getElem_cons_zero, Act.put, List.setIfInBounds_toArray, List.set_cons_zero, List.set_cons_succ]
          refine wpAnyH_take (i := 4) (v := ?v4) rfl (by kernel_rfl) (by kernel_rfl) (by kernel_rfl) (fun _ _ _ h => h) (Or.inl ⟨by rfl, ?y4⟩) hHeld ?r4
          case y4 => (intro W hSw; simp only [List.getElem_toArray, List.getElem_cons_succ, List.getElem_cons_zero]; go_simp; try (with_reducible rfl))
          simp only [List.getElem_toArray, List.getElem_cons_succ, List.getElem_cons_zero, Act.put, List.setIfInBounds_toArray, List.set_cons_zero, List.set_cons_succ]
          refine wpAnyH_take (i := 5) (v := ?v5) rfl (by kernel_rfl) (by kernel_rfl) (by kernel_rfl) (fun _ _ _ h => h) (Or.inl ⟨by rfl, ?y5⟩) hHeld ?r5
          case y5 => (intro W hSw; simp only [List.getElem_toArray, List.getElem_cons_succ, List.getElem_cons_zero]; go_simp; try (with_reducible rfl))
          simp only [List.getElem_toArray, List.getElem_cons_succ, List.getElem_cons_zero, Act.put, List.setIfInBounds_toArray, List.set_cons_zero, List.set_cons_succ]
          refine wpAnyH_take (i := 6) (v := ?v6) rfl (by kernel_rfl) (by kernel_rfl) (by kernel_rfl) (fun _ _ _ h => h) (Or.inl ⟨by rfl, ?y6⟩) hHeld ?r6
          case y6 => (intro W hSw; simp only [List.getElem_toArray, List.getElem_cons_succ, List.getElem_cons_zero]; go_simp; try (with_reducible rfl))
          simp only [List.getElem_toArray, List.getElem_cons_succ, List.getElem_cons_zero, Act.put, List.setIfInBounds_toArray, List.set_cons_zero, List.set_cons_succ]
          refine wpAnyH_take (i := 7) (v := ?v7) rfl (by kernel_rfl) (by kernel_rfl) (by kernel_rfl) (fun _ _ _ h => h) (Or.inl ⟨by rfl, ?y7⟩) hHeld ?r7
          case y7 => (intro W hSw; simp only [List.getElem_toArray, List.getElem_cons_succ, List.getElem_cons_zero]; go_simp; try (with_reducible rfl))
          simp only [List.getElem_toArray, List.getElem_cons_succ, List.getElem_cons_zero, Act.put, List.setIfInBounds_toArray, List.set_cons_zero, List.set_cons_succ]
          refine wpAnyH_ready (rs := [8]) (by kernel_rfl) (by simp) (AllReadyH.cons rfl (fun K hK => ?_) AllReadyH.nil)
          simp only [List.getElem_toArray, List.getElem_cons_succ, List.getElem_cons_zero]
          go_simp
          (go_at_call 51; refine Calls.mono (CH.out _) ?_; rintro e w9 ⟨rfl, hb1⟩)
          try go_wp2_with fail
          refine hK.out _ _ (HS.out _ (hHeld.2.2.2.2.2.2.2.2.trans (hb1.mono hHeld.2.2.2.2.2.2.2.2.size))) (fun hHeld1 => ?_)
          clear hK K hHeld
          have hHeld := hHeld1; clear hHeld1
          try simp only [List.getElem_toArray, List.getElem_cons_succ, List.getElem_cons_zero, Act.put, List.setIfInBounds_toArray, List.set_cons_zero, List.set_cons_succ]
          refine wpAnyH_take (i := 9) (v := ?v9) rfl (by kernel_rfl) (by kernel_rfl) (by kernel_rfl) (fun _ _ _ h => h) (Or.inl ⟨by rfl, ?y9⟩) hHeld ?r9
          case y9 => (intro W hSw; simp only [List.getElem_toArray, List.getElem_cons_succ, List.getElem_cons_zero]; go_simp; try (with_reducible rfl))
          simp only [List.getElem_toArray, List.getElem_cons_succ, List.getElem_cons_zero, Act.put, List.setIfInBounds_toArray, List.set_cons_zero, List.set_cons_succ]
          refine wpAnyH_done (by kernel_rfl) ?_ _
          go_wp2_with fail
          go_roundw
          case rel => first | exact ⟨j + 1, by omega, by go_num, NXT.out NO.out, hHeld.2.2.2.2.2.2.2.2⟩ | ((repeat apply Exists.intro); exact ⟨⟨j + 1, by omega, by go_num, NXT.out NO.out, hHeld.2.2.2.2.2.2.2.2⟩, rfl⟩)
          case measure => simp [intOf]; omega
        | true =>
          go_wp2_with fail
          refine wp_region_held_drew (S := (fun W => W.cell? ⟨k, 1, none⟩ = some (.int .i64 r.x1) ∧ W.cell? ⟨k, 2, none⟩ = some (.int .i64 r.y1) ∧ W.cell? ⟨k, 3, none⟩ = some (.int .i64 r.x2) ∧ W.cell? ⟨k, 4, none⟩ = some (.int .i64 r.y2) ∧ W.cell? ⟨x, 1, none⟩ = some (.int .i64 dx.r.x1) ∧ W.cell? ⟨x, 2, none⟩ = some (.int .i64 dx.r.y1) ∧ W.cell? ⟨x, 3, none⟩ = some (.int .i64 dx.r.x2) ∧ W.cell? ⟨x, 4, none⟩ = some (.int .i64 dx.r.y2) ∧ Below w0.heap.size w0 W)) (by kernel_rfl) (by exact HS.out _ BR.out.drew) (fun hHeld => ?_)
          refine wpAnyH_take (i := 0) (v := ?vT0) rfl (by kernel_rfl) (by kernel_rfl) (by kernel_rfl) (fun _ _ _ h => h) (Or.inl ⟨by rfl, ?yT0⟩) hHeld ?rT0
          case yT0 => (intro W hSw; simp only [List.getElem_toArray, List.getElem_cons_zero]; go_simp; try (with_reducible rfl))
          simp only [List.getElem_toArray, List.getElem_cons_zero, Act.put, List.setIfInBounds_toArray, List.set_cons_zero, List.set_cons_succ]
          refine wpAnyH_take (i := 1) (v := ?vT1) rfl (by kernel_rfl) (by kernel_rfl) (by kernel_rfl) (fun _ _ _ h => h) (Or.inl ⟨by rfl, ?yT1⟩) hHeld ?rT1
          case yT1 => (intro W hSw; simp only [List.getElem_toArray, List.getElem_cons_succ, List.getElem_cons_zero]; go_simp; try (with_reducible rfl))
          simp only [List.getElem_toArray, List.getElem_cons_succ, List.getElem_cons_zero, Act.put, List.setIfInBounds_toArray, List.set_cons_zero, List.set_cons_succ]
          refine wpAnyH_take (i := 2) (v := ?vT2) rfl (by kernel_rfl) (by kernel_rfl) (by kernel_rfl) (fun _ _ _ h => h) (Or.inl ⟨by rfl, ?yT2⟩) hHeld ?rT2
          case yT2 => (intro W hSw; simp only [List.getElem_toArray, List.getElem_cons_succ, List.getElem_cons_zero]; go_simp; try (with_reducible rfl))
          simp only [List.getElem_toArray, List.getElem_cons_succ, List.getElem_cons_zero, Act.put, List.setIfInBounds_toArray, List.set_cons_zero, List.set_cons_succ]
          refine wpAnyH_take (i := 3) (v := ?vT3) rfl (by kernel_rfl) (by kernel_rfl) (by kernel_rfl) (fun _ _ _ h => h) (Or.inl ⟨by rfl, ?yT3⟩) hHeld ?rT3
          case yT3 => (intro W hSw; simp only [List.getElem_toArray, List.getElem_cons_succ, List.getElem_cons_zero]; go_simp; try (with_reducible rfl))
          simp only [List.getElem_toArray, List.getElem_cons_succ, List.getElem_cons_zero, Act.put, List.setIfInBounds_toArray, List.set_cons_zero, List.set_cons_succ]
          refine wpAnyH_take (i := 4) (v := ?vT4) rfl (by kernel_rfl) (by kernel_rfl) (by kernel_rfl) (fun _ _ _ h => h) (Or.inl ⟨by rfl, ?yT4⟩) hHeld ?rT4
          case yT4 => (intro W hSw; simp only [List.getElem_toArray, List.getElem_cons_succ, List.getElem_cons_zero]; go_simp; try (with_reducible rfl))
          simp only [List.getElem_toArray, List.getElem_cons_succ, List.getElem_cons_zero, Act.put, List.setIfInBounds_toArray, List.set_cons_zero, List.set_cons_succ]
          refine wpAnyH_take (i := 5) (v := ?vT5) rfl (by kernel_rfl) (by kernel_rfl) (by kernel_rfl) (fun _ _ _ h => h) (Or.inl ⟨by rfl, ?yT5⟩) hHeld ?rT5
          case yT5 => (intro W hSw; simp only [List.getElem_toArray, List.getElem_cons_succ, List.getElem_cons_zero]; go_simp; try (with_reducible rfl))
          simp only [List.getElem_toArray, List.getElem_cons_succ, List.getElem_cons_zero, Act.put, List.setIfInBounds_toArray, List.set_cons_zero, List.set_cons_succ]
          refine wpAnyH_take (i := 6) (v := ?vT6) rfl (by kernel_rfl) (by kernel_rfl) (by kernel_rfl) (fun _ _ _ h => h) (Or.inl ⟨by rfl, ?yT6⟩) hHeld ?rT6
          case yT6 => (intro W hSw; simp only [List.getElem_toArray, List.getElem_cons_succ, List.getElem_cons_zero]; go_simp; try (with_reducible rfl))
          simp only [List.getElem_toArray, List.getElem_cons_succ, List.getElem_cons_zero, Act.put, List.setIfInBounds_toArray, List.set_cons_zero, List.set_cons_succ]
          refine wpAnyH_take (i := 7) (v := ?vT7) rfl (by kernel_rfl) (by kernel_rfl) (by kernel_rfl) (fun _ _ _ h => h) (Or.inl ⟨by rfl, ?yT7⟩) hHeld ?rT7
          case yT7 => (intro W hSw; simp only [List.getElem_toArray, List.getElem_cons_succ, List.getElem_cons_zero]; go_simp; try (with_reducible rfl))
          simp only [List.getElem_toArray, List.getElem_cons_succ, List.getElem_cons_zero, Act.put, List.setIfInBounds_toArray, List.set_cons_zero, List.set_cons_succ]
          refine wpAnyH_ready (rs := [8]) (by kernel_rfl) (by simp) (AllReadyH.cons rfl (fun K hK => ?_) AllReadyH.nil)
          simp only [List.getElem_toArray, List.getElem_cons_succ, List.getElem_cons_zero]
          go_simp
          (go_at_call 51; refine Calls.mono (CH.out _) ?_; rintro e w9 ⟨rfl, hb1⟩)
          try go_wp2_with fail
          refine hK.out _ _ (HS.out _ (hHeld.2.2.2.2.2.2.2.2.trans (hb1.mono hHeld.2.2.2.2.2.2.2.2.size))) (fun hHeld1 => ?_)
          clear hK K hHeld
          have hHeld := hHeld1; clear hHeld1
          try simp only [List.getElem_toArray, List.getElem_cons_succ, List.getElem_cons_zero, Act.put, List.setIfInBounds_toArray, List.set_cons_zero, List.set_cons_succ]
          refine wpAnyH_take (i := 9) (v := ?vT9) rfl (by kernel_rfl) (by kernel_rfl) (by kernel_rfl) (fun _ _ _ h => h) (Or.inl ⟨by rfl, ?yT9⟩) hHeld ?rT9
          case yT9 => (intro W hSw; simp only [List.getElem_toArray, List.getElem_cons_succ, List.getElem_cons_zero]; go_simp; try (with_reducible rfl))
          simp only [List.getElem_toArray, List.getElem_cons_succ, List.getElem_cons_zero, Act.put, List.setIfInBounds_toArray, List.set_cons_zero, List.set_cons_succ]
          refine wpAnyH_done (by kernel_rfl) ?_ _
          go_wp2_with fail
          have BQ := Lib.hid hHeld.2.2.2.2.2.2.2.2
          clear hHeld
          refine Calls.mono (CR.out w9 XK.out.1 XK.out.2.1 XK.out.2.2.2.2 (Nat.le_trans HLO.out XK.out.2.2.1) XK.out.2.2.2.1 (by have := H3.out; omega) BQ.out) ?_
          rintro e w10 ⟨hb10, ⟨hno2, rfl⟩ | ⟨Q, gq, cq, hway, hql, rfl, hrowq⟩⟩
          · have B10 := Lib.hid hb10
            have NX2 := Lib.hid (NXT.out hno2)
            clear hb10 hno2
            go_wp2_with fail
            go_roundw
            case rel => first | exact ⟨j + 1, by omega, by go_num, NX2.out, B10.out⟩ | ((repeat apply Exists.intro); exact ⟨⟨j + 1, by omega, by go_num, NX2.out, B10.out⟩, rfl⟩)
            case measure => simp [intOf]; omega
          · have B10 := Lib.hid hb10
            have WAY := Lib.hid hway
            have QL := Lib.hid hql
            obtain ⟨i0, hi0, hz0, hz1, hz2⟩ := info_parts A.infoPp
            have O2 := Lib.hid (show (w10.alloc (.cells #[.pointer (some ⟨b, 0, none⟩)] 61)).ownsRow w0.heap.size 61 1 (.slice (some ⟨gq, 0, none⟩) (h + 1) cq) (h + 1) (Q.map ptr) from hrowq.alloc _)
            have BZ := Lib.hid (B10.out.alloc B10.out.size (.cells #[.pointer (some ⟨b, 0, none⟩)] 61))
            have nw : Hid (∀ j u, ([.pointer (some ⟨b, 0, none⟩)] : List Value)[j]? = some u → (w10.alloc (.cells #[.pointer (some ⟨b, 0, none⟩)] 61)).cell? ((⟨w10.heap.size, 0, none⟩ : Addr).add j) = some u) := Lib.hid fun j u hj => by
              match j, hj with
              | 0, hj => simp at hj; subst hj; simp [Addr.add, go_sem]
              | j + 1, hj => simp at hj
            have one : Hid (∀ u ∈ ([.pointer (some ⟨b, 0, none⟩)] : List Value), u.oneCell' = true) := Lib.hid fun u hu => by simp at hu; subst hu; rfl
            have SZ := Lib.hid (show w0.heap.size ≤ (w10.alloc (.cells #[.pointer (some ⟨b, 0, none⟩)] 61)).heap.size from BZ.out.size)
            have h30 : h ≤ 3000 := by have := H3.out; omega
            have KM := Lib.hid (show k ∈ kidsOf σ b from by rw [HKO.out, HKJ.out]; exact List.getElem_mem hjk)
            clear hb10 hway hql hrowq
            go_wp2_with (first | (at_builtin; refine wpList_append_own_at _ rfl _ _ 73 rfl w0.heap.size 61 i0 (.pointer none) 1 8 Tryz.underlying73 hi0 hz0 hz1 hz2 rfl (by decide) _ _ _ rfl O2.out ⟨w10.heap.size, 0, none⟩ 1 1 [.pointer (some ⟨b, 0, none⟩)] rfl rfl nw.out one.out (by unfold maxLen; omega) (by omega) SZ.out ?_))
            intro v' w4 hown hgrow _ _
            obtain ⟨g4, c4, e4⟩ : ∃ g4 c4, v' = .slice (some ⟨g4, 0, none⟩) (h + 1 + 1) c4 := by
              rcases hown.2 with ⟨_, e⟩ | ⟨g4, c4, _, e, _⟩
              · omega
              · exact ⟨g4, c4, e⟩
            subst e4
            have HO4 := Lib.hid hown
            have B4 := Lib.hid (BZ.out.grown hgrow SZ.out (fun j hj => (O2.out.lt j hj).1))
            clear hown hgrow
            go_wp2_with fail
            go_ret
            refine ⟨B4.out, Or.inr ⟨Q ++ [b], g4, c4, ⟨k, Q, KM.out, WAY.out, rfl⟩, by rw [List.length_append, QL.out]; rfl, rfl, ?_⟩⟩
            have := HO4.out
            rw [List.map_append]
            exact this
      · have hlz : ¬ (j : Int) < (n : Int) := by omega
        have NOB := Lib.hid (show x ∉ lvs σ (h + 1 + 1) b from by
          rw [HLV.out]
          intro hx2
          obtain ⟨k, hk, hx2⟩ := List.mem_flatMap.1 hx2
          obtain ⟨u, hu, rfl⟩ := List.getElem_of_mem hk
          exact HNO.out u (by have := HJ.out; have := HN.out; omega) hu hx2)
        go_wp2_with fail
        go_ret
        exact ⟨BR.out, Or.inl ⟨NOB.out, rfl⟩⟩
/-- Going down that way. -/
theorem Up.way {σ : St} {lo hi rlo x : Nat} {E G : List Nat} (hlo : 1 ≤ lo) : ∀ (h b : Nat) (P up : List Nat) (d : Pd), Up σ lo hi rlo h b up E G → σ b = some d → d.kids.length ≤ hi → Way σ x h b P → ∃ (p : Nat) (rest : List Nat) (dp : Pd), P = p :: rest ∧ Up σ lo hi rlo 0 p (rest ++ up) E G ∧ σ p = some dp ∧ dp.kids.length ≤ hi ∧ x ∈ dp.kids
  | 0, b, P, up, d, hu, hd, hl, ⟨hx, e⟩ => ⟨b, [], d, e, hu, hd, hl, by rw [kidsOf_some hd] at hx; exact hx⟩
  | h + 1, b, P, up, d, hu, hd, hl, ⟨k, Q, hk, hw, e⟩ => by
    rw [kidsOf_some hd] at hk
    obtain ⟨hu2, dk, hdk, hlk, hkk, -⟩ := hu.down hd hl hk
    obtain ⟨p, rest, dp, e2, r⟩ := Up.way hlo h k Q (b :: up) dk hu2 hdk hkk hw
    refine ⟨p, rest ++ [b], dp, by rw [e, e2]; rfl, ?_⟩
    rw [List.append_assoc]
    exact r
end Go.Proofs.YtobkgamcjfjghaaGreat.Rt
