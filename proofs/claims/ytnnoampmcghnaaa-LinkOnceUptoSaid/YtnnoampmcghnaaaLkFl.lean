/-
  A flight's pieces; deeds in memory. No function of the program here.
-/
import Derived.Test.YtnnoampmcghnaaaLkCo
import Derived.Test.YtnnoampmcghnaaaFlOpen
namespace Go.Proofs.Ytnnoampmcghnaaa.Lk
open Go.RowKit Go.Proofs.Ytnnoampmcghnaaa.Fl Go.Proofs.Ytnnoampmcghnaaa.Wi Go.Proofs.Ytnnoampmcghnaaa.Fr
set_option linter.unusedVariables false
set_option linter.unusedSimpArgs false
theorem sizeP (w : World) : (Go.sizeOf 49).run Try.prog w = .ok 2 w := by
  obtain ⟨i0, hi, hz0, hz1, hz2⟩ := info_parts infoP
  simp [sizeOf, typeInfo, hi, hz1]
theorem elemP : Try.prog.elem 37 = 49 := by
  have := Try.underlying37
  simp [Program.elem, this]
theorem run_restP (a : Option Addr) (n c k : Nat) (hk : k ≤ n) (w : World) : (Instr.slice 37 (.slice a n c) (some (.int .i64 (k : Int))) none none).run Try.prog w = .ok (.slice (restP a c k) (n - k) (c - k)) w := by
  have hu := Try.underlying37
  have hu2 : Try.prog.underlying 37 = some (.slice (Try.prog.elem 37)) := by rw [elemP]; exact hu
  rw [run_slice_l (P := Try.prog) w 37 a n c hu2 .i64 (k : Int) (by omega) (by omega), elemP, sizeP]
  simp [Result.andThen, sliced, restP]
def frontP (a : Option Addr) (c : Nat) : Option Addr := if c = 0 then a else a.map (·.add (0 * 2))
theorem run_frontP (a : Option Addr) (n c k : Nat) (hk : k ≤ c) (w : World) : (Instr.slice 37 (.slice a n c) none (some (.int .i64 (k : Int))) none).run Try.prog w = .ok (.slice (frontP a c) k c) w := by
  have hu := Try.underlying37
  have hu2 : Try.prog.underlying 37 = some (.slice (Try.prog.elem 37)) := by rw [elemP]; exact hu
  rw [run_slice_h (P := Try.prog) w 37 a n c hu2 .i64 (k : Int) (by omega) (by omega), elemP, sizeP]
  simp [Result.andThen, sliced, frontP]
theorem CeAt.front {W : World} {S : Nat → Prop} {a : Option Addr} {cs : List Value} (h : CeAt W S a cs) (c k : Nat) : CeAt W S (frontP a c) (cs.take k) := by
  intro h0
  obtain ⟨g, o, e, hg, hc⟩ := (h.pre k) h0
  subst e
  refine ⟨g, o, ?_, hg, hc⟩
  unfold frontP
  split
  · rfl
  · simp [Addr.add]
/-- A flight of new memory. -/
theorem Co.flewN {w : World} {p r m win : Nat} {W V : World} {v : Value} {cs : List Value} {va : Value} {lcs : List Value} {all : List (List UInt8)} {ack told want : Nat} {fa : Option Addr} {fc : Nat} {fcs : List Value} {fl : List Pk}
    (h : Co w p r m win W v cs va lcs all ack told want fa fc fcs fl) {a : Option Addr} {n c N : Nat} {ncs : List Value} {nfl : List Pk} (hb : Below W.heap.size W V) (hO : OP V W.heap.size (.slice a n c) N ncs) (hP : PkV W (Dt W p r m v va) ncs nfl) (hl : nfl.length = N) :
    n = nfl.length ∧ Co w p r m win V v cs va lcs all ack told want a c ncs nfl := by
  obtain ⟨h1, h2, _⟩ := hO.cells
  refine ⟨by omega, (h.later hb).flew (hO.dt fun g h1 h2 => h.new h1 h2) (hP.far fun g hg => ⟨hg.keep hb.size (Nxt.refl _ _) (Nxt.refl _ _), hb.block g hg.1⟩) (by omega)⟩
/-- A deed. -/
structure Dd where
  what : Int
  n : Int
  own : Bool
  b : List UInt8
def ddC (d : Dd) (a : Option Addr) (c : Nat) : List Value := [.int .i64 d.what, .int .i64 d.n, .bool d.own, .slice a d.b.length c]
def ddOk (d : Dd) : Prop := -9223372036854775808 ≤ d.what ∧ d.what ≤ 9223372036854775807 ∧ -9223372036854775808 ≤ d.n ∧ d.n ≤ 9223372036854775807
/-- A slice that begins at a holds deeds; its block is one of S. -/
def DsAt (W : World) (S : Nat → Prop) (a : Option Addr) (l : List Dd) : Prop :=
  l.length ≤ maxLen ∧ (∀ d ∈ l, ddOk d) ∧ (0 < l.length → ∃ g o, a = some ⟨g, o, none⟩ ∧ S g ∧ ∀ (k : Nat) (h : k < l.length), ∃ b c, l[k].b.length ≤ c ∧ BytesAt W S b l[k].b ∧
    W.cell? ⟨g, o + k * 4, none⟩ = some (.int .i64 l[k].what) ∧ W.cell? ⟨g, o + k * 4 + 1, none⟩ = some (.int .i64 l[k].n) ∧ W.cell? ⟨g, o + k * 4 + 2, none⟩ = some (.bool l[k].own) ∧ W.cell? ⟨g, o + k * 4 + 3, none⟩ = some (.slice b l[k].b.length c))
theorem eqe_n1 (w : World) : (binOp .eql 26 .nilIface (.iface 31 (.int .i64 1))).run Try.prog w = .ok (.bool false) w := by kernel_rfl
theorem eqe_nn (w : World) : (binOp .eql 26 .nilIface .nilIface).run Try.prog w = .ok (.bool true) w := by kernel_rfl
theorem eqe_1n (w : World) : (binOp .eql 26 (.iface 31 (.int .i64 1)) .nilIface).run Try.prog w = .ok (.bool false) w := by kernel_rfl
theorem nee_1n (w : World) : (binOp .neq 26 (.iface 31 (.int .i64 1)) .nilIface).run Try.prog w = .ok (.bool true) w := by kernel_rfl
theorem nee_88 (w : World) : (binOp .neq 26 (.iface 31 (.int .i64 8)) (.iface 31 (.int .i64 8))).run Try.prog w = .ok (.bool false) w := by kernel_rfl
theorem nee_8n (w : World) : (binOp .neq 26 (.iface 31 (.int .i64 8)) .nilIface).run Try.prog w = .ok (.bool true) w := by kernel_rfl
end Go.Proofs.Ytnnoampmcghnaaa.Lk
