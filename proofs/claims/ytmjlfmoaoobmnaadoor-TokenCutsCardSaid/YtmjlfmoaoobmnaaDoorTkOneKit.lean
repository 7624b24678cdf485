/-
  A text from a place on, byte by byte; what is told of the token at a place. No program here.
-/
import Derived.Test.YtmjlfmoaoobmnaaDoorTkKit
namespace Go.Proofs.YtmjlfmoaoobmnaaDoor.Tk
open Go.RowKit
set_option linter.unusedVariables false

theorem at_len {s : ByteArray} {a : Nat} {c : UInt8} {r : List UInt8} (hL : s.data.toList.drop a = c :: r) : a + (r.length + 1) = s.size := by
  have : (s.data.toList.drop a).length = (c :: r).length := by rw [hL]
  rw [List.length_drop, ← Lib.size_eq] at this
  simp only [List.length_cons] at this
  omega
theorem byte_at {s : ByteArray} {f p k : Nat} {D : List UInt8} (hD : s.data.toList.drop f = D) (hp : p = f + k) (h : p < s.size) : D[k]? = some s[p] := by
  rw [← hD, List.getElem?_drop, ← hp]
  exact Lib.data_getElem? s p h
theorem at_byte {s : ByteArray} {a : Nat} {c : UInt8} {r : List UInt8} (hL : s.data.toList.drop a = c :: r) (h : a < s.size) : s[a] = c := by
  have := byte_at hL (show a = a + 0 from rfl) h
  simpa using this.symm
theorem piece_at {s : ByteArray} {f p k : Nat} {D : List UInt8} (hD : s.data.toList.drop f = D) (hp : p = f + k) : s.extract f p = ⟨(D.take k).toArray⟩ := by
  rw [piece, hD, hp]
  congr 3
  omega
theorem piece_list {s : ByteArray} {f p k : Nat} {D : List UInt8} (hD : s.data.toList.drop f = D) (hp : p = f + k) : (s.extract f p).toList = D.take k := by
  rw [piece_at hD hp, Lib.toList_data]
theorem grown {p : UInt8 → Bool} {l : List UInt8} {k : Nat} {c : UInt8} (h : ∀ (j : Nat) (c : UInt8), j < k → l[j]? = some c → p c = true) (hc : l[k]? = some c) (hp : p c = true) : ∀ (j : Nat) (c : UInt8), j < k + 1 → l[j]? = some c → p c = true := by
  intro j d hj hd
  by_cases e : j = k
  · subst e
    rw [hc] at hd
    cases hd
    exact hp
  · exact h j d (by omega) hd
def natOf : Value → Nat | .int _ n => n.toNat | _ => 0
/-- Between the rounds: so far k bytes of D, which begins at f, are all of one sort. -/
def OneR (P : UInt8 → Bool) (D : List UInt8) (f : Nat) (v : World) (va : Value) (wr : World) : Prop :=
  ∃ p k : Nat, va = .int .i64 (p : Nat) ∧ Hid (p = f + k ∧ k ≤ D.length) ∧ Hid (∀ (j : Nat) (c : UInt8), j < k → D[j]? = some c → P c = true) ∧ v = wr
/-- What is told of the token at a. -/
def OneEnd (a : Nat) (e : Ending) : Option Lx → Prop
  | none => ∃ (k p n : Int) (str : ByteArray) (z : Int), e = .returned (.tuple #[.agg #[.int .i64 k, .int .i64 p, .int .i64 n, .string str], .int .i64 z, .bool false])
  | some x => e = .returned (.tuple #[.agg #[.int .i64 x.kind, .int .i64 (a : Nat), .int .i64 x.num, .string ⟨x.str.toArray⟩], .int .i64 ((a + x.size : Nat) : Int), .bool true])
/-- What is told of a number at a. -/
def NumEnd (a : Nat) (e : Ending) : Option Lx → Prop
  | none => ∃ n z : Int, e = .returned (.tuple #[.int .i64 n, .int .i64 z, .bool false])
  | some x => e = .returned (.tuple #[.int .i64 x.num, .int .i64 ((a + x.size : Nat) : Int), .bool true])
theorem wrap_small (n : Nat) (h : n ≤ 1000000) : wrap64 (n : Int) = (n : Int) := by unfold wrap64; omega
theorem wrap_succ (n : Nat) (h : n ≤ 1000000) : wrap64 ((n : Int) + 1) = ((n + 1 : Nat) : Int) := by unfold wrap64; omega
theorem wrap_sub {p f k : Nat} (h : p = f + k) (hk : k ≤ 1000000) : wrap64 ((p : Int) - (f : Int)) = (k : Int) := by unfold wrap64; omega
theorem sub_is {p f k : Nat} (h : p = f + k) : (p : Int) - (f : Int) = (k : Int) := by omega
theorem beq_no {p f : Nat} (h : p ≠ f) : ((p : Int) == (f : Int)) = false := by rw [beq_eq_false_iff_ne]; omega
theorem beq_yes {p f : Nat} (h : p = f) : ((p : Int) == (f : Int)) = true := by rw [h]; simp
theorem i64_small (n : Nat) (h : n ≤ 1000000) : IntKind.i64.wrap (n : Int) = (n : Int) := IntWalk.i64_in _ (by omega)
theorem i64_succ (n : Nat) (h : n ≤ 1000000) : IntKind.i64.wrap ((n : Int) + 1) = (n : Int) + 1 := IntWalk.i64_in _ (by omega)
theorem num_x2 {d : UInt8} {d1 : Int} (h : 48 ≤ d.toNat ∧ d.toNat ≤ 57) (e : d1 = ((d.toNat : Nat) : Int) - 48) : IntKind.u8.wrap (((d.toNat : Nat) : Int) - 48) = d1 := by rw [IntKind.wrap_u8]; omega
theorem num_x3 {d : UInt8} {d1 : Int} (h : 48 ≤ d.toNat ∧ d.toNat ≤ 57) (e : d1 = ((d.toNat : Nat) : Int) - 48) : IntKind.u64.wrap d1 = d1 := by rw [IntKind.wrap_u64]; omega
theorem num_x4 {d : UInt8} {d1 p1 : Int} {q1 nn : Nat} (h : 48 ≤ d.toNat ∧ d.toNat ≤ 57) (e : d1 = ((d.toNat : Nat) : Int) - 48) (ep : p1 = (10 * (nn : Int)) % 18446744073709551616) (eq : q1 = (10 * nn + (d.toNat - 48)) % 18446744073709551616) :
    IntKind.u64.wrap (p1 + d1) = (q1 : Int) := by rw [IntKind.wrap_u64, eq, ep, e]; omega
theorem num_case (nn : Nat) (d : Nat) : 922337203685477580 < nn ∨ (nn = 922337203685477580 ∧ 56 < d) ∨ (nn = 922337203685477580 ∧ ¬ 56 < d) ∨ nn < 922337203685477580 := by omega
theorem int_gt {n m : Nat} (h : n < m) : (n : Int) < (m : Int) := by omega
theorem int_ngt {n m : Nat} (h : ¬ n < m) : ¬ (n : Int) < (m : Int) := by omega
theorem neg_facts {nn : Nat} {m1 : Int} (h1 : 1 ≤ nn) (h2 : nn ≤ 9223372036854775808) (e : m1 = (nn : Int) - 1) :
    IntKind.u64.wrap ((nn : Int) - 1) = m1 ∧ IntKind.i64.wrap m1 = m1 ∧ wrap64 m1 = m1 ∧ wrap64 (-m1) = -m1 ∧ wrap64 (-m1 - 1) = -(nn : Int) :=
  ⟨by rw [IntKind.wrap_u64]; omega, IntWalk.i64_in _ (by omega), by unfold wrap64; omega, by unfold wrap64; omega, by unfold wrap64; omega⟩
theorem pos_facts {nn : Nat} (h : nn < 9223372036854775808) : IntKind.i64.wrap (nn : Int) = (nn : Int) ∧ wrap64 (nn : Int) = (nn : Int) := ⟨IntWalk.i64_in _ (by omega), by unfold wrap64; omega⟩
theorem low_not {c : UInt8} (h : low c = true) : dig c = false := by
  simp only [low, dig, Bool.and_eq_true, decide_eq_true_eq, Bool.and_eq_false_iff, decide_eq_false_iff_not] at h ⊢
  omega
end Go.Proofs.YtmjlfmoaoobmnaaDoor.Tk
