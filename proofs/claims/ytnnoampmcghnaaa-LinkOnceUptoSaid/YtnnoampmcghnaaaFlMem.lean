/-
  Filters in memory: trees of structs in slices, to be read; carried from world to world. No program here.
-/
import Derived.Test.YtnnoampmcghnaaaFlShow
import Derived.Below
import Derived.Laws.AppendOwn
namespace Go.Proofs.Ytnnoampmcghnaaa.Fl
open Go.RowKit
set_option linter.unusedVariables false

def bs (l : List UInt8) : Value := .string ⟨l.toArray⟩
def attC (v : Att) : List Value := [bs v.name, .bool v.text, .int .i64 v.num, bs v.str]
def attOk (v : Att) : Prop := v.name.length ≤ maxLen ∧ v.str.length ≤ maxLen ∧ rngV v
/-- A slice that begins at a holds vs; its block is one of S. -/
def AttsAt (W : World) (S : Nat → Prop) (a : Option Addr) (vs : List Att) : Prop :=
  vs.length ≤ maxLen ∧ (∀ v ∈ vs, attOk v) ∧ (0 < vs.length → ∃ g o, a = some ⟨g, o, none⟩ ∧ S g ∧ ∀ (k : Nat) (h : k < vs.length),
    W.cell? ⟨g, o + k * 4, none⟩ = some (bs vs[k].name) ∧ W.cell? ⟨g, o + k * 4 + 1, none⟩ = some (.bool vs[k].text) ∧ W.cell? ⟨g, o + k * 4 + 2, none⟩ = some (.int .i64 vs[k].num) ∧ W.cell? ⟨g, o + k * 4 + 3, none⟩ = some (bs vs[k].str))
/-- A filter's five cells: its values begin at a, its parts at b. -/
def fltC (f : Flt) (a : Option Addr) (c : Nat) (b : Option Addr) (d : Nat) : List Value :=
  [.int .i64 f.kind, bs f.name, bs f.op, .slice a f.vals.length c, .slice b f.parts.length d]
def fltV (f : Flt) (a : Option Addr) (c : Nat) (b : Option Addr) (d : Nat) : Value := .agg (fltC f a c b d).toArray
/-- Five cells in a row. -/
def Five (W : World) (g o : Nat) (f : Flt) (a : Option Addr) (c : Nat) (b : Option Addr) (d : Nat) : Prop :=
  W.cell? ⟨g, o, none⟩ = some (.int .i64 f.kind) ∧ W.cell? ⟨g, o + 1, none⟩ = some (bs f.name) ∧ W.cell? ⟨g, o + 2, none⟩ = some (bs f.op) ∧
  W.cell? ⟨g, o + 3, none⟩ = some (.slice a f.vals.length c) ∧ W.cell? ⟨g, o + 4, none⟩ = some (.slice b f.parts.length d)
mutual
/-- What a filter's two slices hold is it. -/
def FltAt (W : World) (S : Nat → Prop) : Flt → Option Addr → Option Addr → Prop
  | .mk k n o vs ps, a, b => (n.length ≤ maxLen ∧ o.length ≤ maxLen ∧ -9223372036854775808 ≤ k ∧ k ≤ 9223372036854775807 ∧ ps.length ≤ maxLen) ∧ AttsAt W S a vs ∧ PartsAt W S b 0 ps
def PartsAt (W : World) (S : Nat → Prop) (b : Option Addr) : Nat → List Flt → Prop
  | _, [] => True
  | j, p :: r => (∃ g o a c b' d, b = some ⟨g, o, none⟩ ∧ S g ∧ Five W g (o + j * 5) p a c b' d ∧ FltAt W S p a b') ∧ PartsAt W S b (j + 1) r
end
theorem AttsAt.far {W V : World} {S T : Nat → Prop} {a : Option Addr} {vs : List Att} (h : AttsAt W S a vs) (hS : ∀ g, S g → T g ∧ V.heap[g]? = W.heap[g]?) : AttsAt V T a vs := by
  refine ⟨h.1, h.2.1, fun h0 => ?_⟩
  obtain ⟨g, o, e, hg, hc⟩ := h.2.2 h0
  obtain ⟨ht, hh⟩ := hS g hg
  have hq : ∀ x, V.cell? ⟨g, x, none⟩ = W.cell? ⟨g, x, none⟩ := fun x => World.cell?_of_block (w := W) (w' := V) (a := ⟨g, x, none⟩) hh
  exact ⟨g, o, e, ht, fun k hk => by simp only [hq]; exact hc k hk⟩
theorem Five.far {W V : World} {g o : Nat} {f : Flt} {a : Option Addr} {c : Nat} {b : Option Addr} {d : Nat} (h : Five W g o f a c b d) (hh : V.heap[g]? = W.heap[g]?) : Five V g o f a c b d := by
  have hq : ∀ x, V.cell? ⟨g, x, none⟩ = W.cell? ⟨g, x, none⟩ := fun x => World.cell?_of_block (w := W) (w' := V) (a := ⟨g, x, none⟩) hh
  unfold Five
  simp only [hq]
  exact h
mutual
theorem FltAt.far {W V : World} {S T : Nat → Prop} (hS : ∀ g, S g → T g ∧ V.heap[g]? = W.heap[g]?) : ∀ {f : Flt} {a b : Option Addr}, FltAt W S f a b → FltAt V T f a b
  | .mk k n o vs ps, a, b, h => by
    rw [FltAt] at h ⊢
    exact ⟨h.1, h.2.1.far hS, PartsAt.far hS ps h.2.2⟩
theorem PartsAt.far {W V : World} {S T : Nat → Prop} (hS : ∀ g, S g → T g ∧ V.heap[g]? = W.heap[g]?) {b : Option Addr} : ∀ {j : Nat} (ps : List Flt), PartsAt W S b j ps → PartsAt V T b j ps
  | _, [], _ => by rw [PartsAt]; trivial
  | j, p :: r, h => by
    rw [PartsAt] at h ⊢
    obtain ⟨⟨g, o, a, c, b', d, e, hg, h5, hf⟩, hr⟩ := h
    exact ⟨⟨g, o, a, c, b', d, e, (hS g hg).1, h5.far (hS g hg).2, FltAt.far hS hf⟩, PartsAt.far hS r hr⟩
end
theorem PartsAt.get {W : World} {S : Nat → Prop} {b : Option Addr} : ∀ {j : Nat} {ps : List Flt}, PartsAt W S b j ps → ∀ (k : Nat) (h : k < ps.length),
    ∃ g o a c b' d, b = some ⟨g, o, none⟩ ∧ S g ∧ Five W g (o + (j + k) * 5) ps[k] a c b' d ∧ FltAt W S ps[k] a b'
  | _, [], _, k, h => by simp at h
  | j, p :: r, h, 0, _ => by rw [PartsAt] at h; exact h.1
  | j, p :: r, h, k + 1, hk => by
    rw [PartsAt] at h
    have := PartsAt.get h.2 k (by simpa using hk)
    rw [show j + 1 + k = j + (k + 1) by omega] at this
    exact this
theorem PartsAt.mk' {W : World} {S : Nat → Prop} {b : Option Addr} : ∀ {j : Nat} {ps : List Flt}, (∀ (k : Nat) (h : k < ps.length), ∃ g o a c b' d, b = some ⟨g, o, none⟩ ∧ S g ∧ Five W g (o + (j + k) * 5) ps[k] a c b' d ∧ FltAt W S ps[k] a b') → PartsAt W S b j ps
  | _, [], _ => by rw [PartsAt]; trivial
  | j, p :: r, h => by
    rw [PartsAt]
    refine ⟨h 0 (by simp), PartsAt.mk' fun k hk => ?_⟩
    have := h (k + 1) (by simpa using hk)
    rw [show j + (k + 1) = j + 1 + k by omega] at this
    exact this
theorem FltAt.parts {W : World} {S : Nat → Prop} {f : Flt} {a b : Option Addr} (h : FltAt W S f a b) : PartsAt W S b 0 f.parts := by
  cases f
  rw [FltAt] at h
  exact h.2.2
theorem FltAt.atts {W : World} {S : Nat → Prop} {f : Flt} {a b : Option Addr} (h : FltAt W S f a b) : AttsAt W S a f.vals := by
  cases f
  rw [FltAt] at h
  exact h.2.1
theorem FltAt.small {W : World} {S : Nat → Prop} {f : Flt} {a b : Option Addr} (h : FltAt W S f a b) : f.name.length ≤ maxLen ∧ f.op.length ≤ maxLen ∧ -9223372036854775808 ≤ f.kind ∧ f.kind ≤ 9223372036854775807 ∧ f.parts.length ≤ maxLen := by
  cases f
  rw [FltAt] at h
  exact h.1
theorem FltAt.mk' {W : World} {S : Nat → Prop} {f : Flt} {a b : Option Addr} (h : f.name.length ≤ maxLen ∧ f.op.length ≤ maxLen ∧ -9223372036854775808 ≤ f.kind ∧ f.kind ≤ 9223372036854775807 ∧ f.parts.length ≤ maxLen) (ha : AttsAt W S a f.vals) (hp : PartsAt W S b 0 f.parts) : FltAt W S f a b := by
  cases f
  rw [FltAt]
  exact ⟨h, ha, hp⟩
mutual
theorem FltAt.rng {W : World} {S : Nat → Prop} : ∀ {f : Flt} {a b : Option Addr}, FltAt W S f a b → rng f
  | .mk k n o vs ps, a, b, h => by
    rw [FltAt] at h
    rw [Fl.rng]
    exact ⟨fun v hv => (h.2.1.2.1 v hv).2.2, PartsAt.rng ps h.2.2⟩
theorem PartsAt.rng {W : World} {S : Nat → Prop} {b : Option Addr} : ∀ {j : Nat} (ps : List Flt), PartsAt W S b j ps → rngL ps
  | _, [], _ => by rw [Fl.rngL]; trivial
  | j, p :: r, h => by
    rw [PartsAt] at h
    obtain ⟨⟨g, o, a, c, b', d, e, hg, h5, hf⟩, hr⟩ := h
    rw [Fl.rngL]
    exact ⟨FltAt.rng hf, PartsAt.rng r hr⟩
end
/-- In old memory alone. -/
def Old (z : Nat) (g : Nat) : Prop := g < z
theorem FltAt.later {W V : World} {z : Nat} {f : Flt} {a b : Option Addr} (h : FltAt W (Old z) f a b) (hB : Below z W V) : FltAt V (Old z) f a b := h.far fun g hg => ⟨hg, hB.block g hg⟩
theorem FltAt.wide {W : World} {z z' : Nat} {f : Flt} {a b : Option Addr} (h : FltAt W (Old z) f a b) (hz : z ≤ z') : FltAt W (Old z') f a b := h.far fun g hg => ⟨Nat.lt_of_lt_of_le hg hz, rfl⟩
theorem AttsAt.later {W V : World} {z : Nat} {a : Option Addr} {vs : List Att} (h : AttsAt W (Old z) a vs) (hB : Below z W V) : AttsAt V (Old z) a vs := h.far fun g hg => ⟨hg, hB.block g hg⟩
theorem PartsAt.later {W V : World} {z j : Nat} {b : Option Addr} {ps : List Flt} (h : PartsAt W (Old z) b j ps) (hB : Below z W V) : PartsAt V (Old z) b j ps := PartsAt.far (fun g hg => ⟨hg, hB.block g hg⟩) ps h
end Go.Proofs.Ytnnoampmcghnaaa.Fl
