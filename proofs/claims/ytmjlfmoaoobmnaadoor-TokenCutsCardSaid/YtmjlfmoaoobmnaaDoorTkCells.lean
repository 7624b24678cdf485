/-
  Tokens as a call keeps them: four cells a token, in a row of the call's own. No program here.
-/
import Derived.Test.YtmjlfmoaoobmnaaDoorTkKit
import Derived.Maps.AppendAt
import Derived.OwnWalk
namespace Go.Proofs.YtmjlfmoaoobmnaaDoor.Tk
open Go.RowKit
set_option linter.unusedVariables false

def cellT (t : Tok) : List Value := [.int .i64 t.kind, .int .i64 (t.pos : Nat), .int .i64 t.num, .string ⟨t.str.toArray⟩]
def cellsT (ts : List Tok) : List Value := ts.flatMap cellT
theorem cellsT_app (ts : List Tok) (t : Tok) : cellsT (ts ++ [t]) = cellsT ts ++ cellT t := by unfold cellsT; simp
theorem cellsT_get : ∀ (ts : List Tok) (k : Nat) (h : k < ts.length) (j : Nat), j < 4 → (cellsT ts)[k * 4 + j]? = (cellT ts[k])[j]?
  | [], _, h, _, _ => by simp at h
  | t :: ts, 0, _, j, hj => by
    have e : cellsT (t :: ts) = cellT t ++ cellsT ts := rfl
    rw [e, Nat.zero_mul, Nat.zero_add, List.getElem?_append_left (by simpa [cellT] using hj)]
    rfl
  | t :: ts, k + 1, h, j, hj => by
    have := cellsT_get ts k (by simpa using h) j hj
    have e : cellsT (t :: ts) = cellT t ++ cellsT ts := rfl
    rw [e, List.getElem?_append_right (by simp [cellT]; omega), show (k + 1) * 4 + j - (cellT t).length = k * 4 + j by simp [cellT]; omega, this]
    rfl
theorem own4_lt {W : World} {base n : Nat} {t : TypeId} {v : Value} {xs : List Value} (h : W.ownsRow base t 4 v n xs) {g : Nat} (hg : v.ownBlock = some g) : g < W.heap.size ∧ base ≤ g := by
  rcases h.2 with ⟨rfl, _⟩ | ⟨g', cap, cur, rfl, hb, hh, _⟩
  · simp [Value.ownBlock] at hg
  · simp [Value.ownBlock] at hg
    subst hg
    exact ⟨(Array.getElem?_eq_some_iff.1 hh).1, hb⟩
theorem own4_later {W w1 : World} {base n : Nat} {t : TypeId} {v : Value} {xs : List Value} (h : W.ownsRow base t 4 v n xs) (hb : Below W.heap.size W w1) : w1.ownsRow base t 4 v n xs :=
  h.kept (row := none) ⟨hb.os, hb.tape, hb.output, hb.size, fun k hk _ => hb.block k hk⟩ (by cases v.ownBlock <;> simp)
theorem own4_below {W w1 v : World} {n : Nat} {t : TypeId} {u : Value} {xs : List Value} (hB : Below v.heap.size v W) (h : W.ownsRow v.heap.size t 4 u n xs) (hg : W.grownBy w1 u.ownBlock) : Below v.heap.size v w1 :=
  hB.grown hg hB.size fun k hk => (own4_lt h hk).2
theorem own4_wide {W : World} {base base' n : Nat} {t : TypeId} {v : Value} {xs : List Value} (h : W.ownsRow base t 4 v n xs) (hb : base' ≤ base) : W.ownsRow base' t 4 v n xs := by
  rcases h with ⟨h1, h2 | ⟨g, cap, cur, e, h3, h4⟩⟩
  · exact ⟨h1, Or.inl h2⟩
  · exact ⟨h1, Or.inr ⟨g, cap, cur, e, by omega, h4⟩⟩
theorem news4 (W : World) (x y z u : Value) (t : TypeId) : ∀ j v, ([x, y, z, u] : List Value)[j]? = some v → (W.alloc (.cells #[x, y, z, u] t)).cell? ((⟨W.heap.size, 0, none⟩ : Addr).add j) = some v := by
  intro j v hj
  match j, hj with
  | 0, hj => simp at hj; subst hj; simp [Addr.add, go_sem]
  | 1, hj => simp at hj; subst hj; simp [Addr.add, go_sem]
  | 2, hj => simp at hj; subst hj; simp [Addr.add, go_sem]
  | 3, hj => simp at hj; subst hj; simp [Addr.add, go_sem]
  | j + 4, hj => simp at hj
theorem one4 (a b c : Int) (s : ByteArray) : ∀ u ∈ ([.int .i64 a, .int .i64 b, .int .i64 c, .string s] : List Value), u.oneCell' = true := by
  intro u hu
  simp at hu
  rcases hu with rfl | rfl | rfl | rfl <;> rfl
theorem info_cut {P : Program} {t : TypeId} {z : Value} {s b : Nat} (h : (P.info? t).map (fun i => (i.zero, i.size, i.bytes)) = some (some z, s, b)) : ∃ i, P.info? t = some i ∧ i.zero = some z ∧ i.size = s ∧ i.bytes = b := by
  cases e : P.info? t with
  | none => rw [e] at h; simp at h
  | some i => rw [e] at h; simp at h; exact ⟨i, rfl, h.1, h.2.1, h.2.2⟩
def nOf : Value → Nat | .int _ n => n.toNat | _ => 0

theorem str_bound {s : ByteArray} {a n : Nat} {l : List UInt8} (hq : (s.extract a s.size).data.toList = l) (h5 : s.size ≤ 500) (h : n ≤ l.length) : n ≤ 1048576 := by
  have h9 : l.length = (s.extract a s.size).size := by rw [Lib.size_eq, hq]
  simp only [ByteArray.size_extract] at h9
  omega
/-- Between the rounds of a cut's loop: so far ts has been cut. -/
def CutR (w : World) (t : TypeId) (L : List UInt8) (va vl : Value) (wr : World) : Prop :=
  ∃ (a : Nat) (ts : List Tok), va = .int .i64 a ∧ a ≤ L.length ∧ Hid (cutAt 0 L = (cutAt a (L.drop a)).map (ts ++ ·)) ∧ ts.length ≤ a ∧ wr.ownsRow w.heap.size t 4 vl ts.length (cellsT ts) ∧ Below w.heap.size w wr
/-- What is told of a cut. -/
def CutEnd (w w' : World) (t : TypeId) (bad good : Value) (e : Ending) : Option (List Tok) → Prop
  | none => e = .returned (.tuple #[.slice none 0 0, bad])
  | some ts => ∃ u, e = .returned (.tuple #[u, good]) ∧ w'.ownsRow w.heap.size t 4 u ts.length (cellsT ts)
theorem cut_step {L : List UInt8} {a : Nat} {ts : List Tok} {c : UInt8} {r : List UInt8} {x : Lx} (h : cutAt 0 L = (cutAt a (L.drop a)).map (ts ++ ·)) (hL : L.drop a = c :: r) (hc : ¬ c.toNat = 32) (hx : lex (c :: r) = some x) :
    a + x.size ≤ L.length ∧ 1 ≤ x.size ∧ cutAt 0 L = (cutAt (a + x.size) (L.drop (a + x.size))).map ((ts ++ [⟨x.kind, a, x.num, x.str⟩]) ++ ·) := by
  have hz := lex_size hx
  have hl : (L.drop a).length = (c :: r).length := by rw [hL]
  rw [List.length_drop] at hl
  refine ⟨by omega, hz.1, ?_⟩
  rw [h, hL, cutAt_some hc a r hx, Option.map_map, ← hL, List.drop_drop]
  congr 1
  funext us
  simp
theorem cut_space {L : List UInt8} {a : Nat} {ts : List Tok} {c : UInt8} {r : List UInt8} (h : cutAt 0 L = (cutAt a (L.drop a)).map (ts ++ ·)) (hL : L.drop a = c :: r) (hc : c.toNat = 32) :
    cutAt 0 L = (cutAt (a + 1) (L.drop (a + 1))).map (ts ++ ·) := by
  have hr : L.drop (a + 1) = r := by rw [← List.drop_drop, hL]; rfl
  rw [h, hL, cutAt_space hc, hr]
theorem cut_bad {L : List UInt8} {a : Nat} {ts : List Tok} {c : UInt8} {r : List UInt8} (h : cutAt 0 L = (cutAt a (L.drop a)).map (ts ++ ·)) (hL : L.drop a = c :: r) (hc : ¬ c.toNat = 32) (hx : lex (c :: r) = none) : cutAt 0 L = none := by
  rw [h, hL, cutAt_none hc a r hx]
  rfl
theorem cut_all {L : List UInt8} {a : Nat} {ts : List Tok} (h : cutAt 0 L = (cutAt a (L.drop a)).map (ts ++ ·)) (ha : a = L.length) : cutAt 0 L = some ts := by
  rw [h, ha, List.drop_length, cutAt_nil]
  simp
end Go.Proofs.YtmjlfmoaoobmnaaDoor.Tk
