/-
  Contract of first of package wire: the number that bytes begin with. Memory is left as it was.
-/
import Derived.Test.YtnnoampmcghnaaaWiRd
namespace Go.Proofs.Ytnnoampmcghnaaa.Wi
open Go.RowKit Go.Proofs.Ytnnoampmcghnaaa.Fl
set_option linter.unusedVariables false
set_option linter.unusedSimpArgs false

def mx : Nat := 18446744073709551615
theorem pow_cases {k : Nat} (hk : k ≤ 9) : (k = 0 ∧ 128 ^ k = 1) ∨ (k = 1 ∧ 128 ^ k = 128) ∨ (k = 2 ∧ 128 ^ k = 16384) ∨ (k = 3 ∧ 128 ^ k = 2097152) ∨ (k = 4 ∧ 128 ^ k = 268435456) ∨ (k = 5 ∧ 128 ^ k = 34359738368) ∨ (k = 6 ∧ 128 ^ k = 4398046511104) ∨ (k = 7 ∧ 128 ^ k = 562949953421312) ∨ (k = 8 ∧ 128 ^ k = 72057594037927936) ∨ (k = 9 ∧ 128 ^ k = 9223372036854775808) := by
  have h : k = 0 ∨ k = 1 ∨ k = 2 ∨ k = 3 ∨ k = 4 ∨ k = 5 ∨ k = 6 ∨ k = 7 ∨ k = 8 ∨ k = 9 := by omega
  rcases h with rfl | rfl | rfl | rfl | rfl | rfl | rfl | rfl | rfl | rfl <;> simp
theorem or_step {k u y : Nat} (hk : k ≤ 9) (hu : u < 128 ^ k) (hy : 128 ^ k * y < 18446744073709551616) : bits BinOp.or IntKind.u64 (u : Int) (IntKind.u64.wrap ((y : Int) * 2 ^ (7 * k))) = ((u + 128 ^ k * y : Nat) : Int) := by
  have hw : IntKind.u64.wrap ((y : Int) * 2 ^ (7 * k)) = ((128 ^ k * y : Nat) : Int) := by
    have e : (y : Int) * 2 ^ (7 * k) = ((128 ^ k * y : Nat) : Int) := by
      rw [Int.natCast_mul, show (128 : Nat) = 2 ^ 7 by decide, ← Nat.pow_mul, Int.mul_comm]
      simp
    exact wrapU e hy
  rw [hw]
  rcases pow_cases hk with ⟨rfl, e⟩ | ⟨rfl, e⟩ | ⟨rfl, e⟩ | ⟨rfl, e⟩ | ⟨rfl, e⟩ | ⟨rfl, e⟩ | ⟨rfl, e⟩ | ⟨rfl, e⟩ | ⟨rfl, e⟩ | ⟨rfl, e⟩ <;> rw [e] at hu hy ⊢
  · rw [u64_orv0 _ _ (by omega) (by omega) (by omega) (by omega) (by omega)]; omega
  · rw [u64_orv7 _ _ (by omega) (by omega) (by omega) (by omega) (by omega)]; omega
  · rw [u64_orv14 _ _ (by omega) (by omega) (by omega) (by omega) (by omega)]; omega
  · rw [u64_orv21 _ _ (by omega) (by omega) (by omega) (by omega) (by omega)]; omega
  · rw [u64_orv28 _ _ (by omega) (by omega) (by omega) (by omega) (by omega)]; omega
  · rw [u64_orv35 _ _ (by omega) (by omega) (by omega) (by omega) (by omega)]; omega
  · rw [u64_orv42 _ _ (by omega) (by omega) (by omega) (by omega) (by omega)]; omega
  · rw [u64_orv49 _ _ (by omega) (by omega) (by omega) (by omega) (by omega)]; omega
  · rw [u64_orv56 _ _ (by omega) (by omega) (by omega) (by omega) (by omega)]; omega
  · rw [u64_orv63 _ _ (by omega) (by omega) (by omega) (by omega) (by omega)]; omega
theorem rd_bad {k u : Nat} {x : UInt8} {r : List UInt8} (h : k = 9 ∧ x.toNat ≠ 1 ∨ 0 < k ∧ x.toNat = 0) (hk : k ≤ 9) : rdN mx k u (x :: r) = .bad 7 := by
  rw [rdN]
  by_cases h1 : k = 9 ∧ 1 < x.toNat
  · rw [if_pos h1]
  · rw [if_neg h1, if_neg (by omega), if_pos (by left; omega)]
theorem rd_last {k u : Nat} {x : UInt8} {r : List UInt8} (h : ¬ (k = 9 ∧ x.toNat ≠ 1 ∨ 0 < k ∧ x.toNat = 0)) (hk : k ≤ 9) (hu : u < 128 ^ k) (hx : x.toNat < 128) : rdN mx k u (x :: r) = .got (u + 128 ^ k * (x.toNat % 128)) r ∧ 128 ^ k * (x.toNat % 128) < 18446744073709551616 := by
  have hb : u + 128 ^ k * (x.toNat % 128) ≤ mx := by
    unfold mx
    rw [Nat.mod_eq_of_lt hx]
    rcases pow_cases hk with ⟨rfl, e⟩ | ⟨rfl, e⟩ | ⟨rfl, e⟩ | ⟨rfl, e⟩ | ⟨rfl, e⟩ | ⟨rfl, e⟩ | ⟨rfl, e⟩ | ⟨rfl, e⟩ | ⟨rfl, e⟩ | ⟨rfl, e⟩ <;> rw [e] at hu ⊢ <;> omega
  refine ⟨?_, by unfold mx at hb; omega⟩
  rw [rdN, if_neg (by omega), if_neg (by omega), if_neg (by rintro (h1 | h1) <;> omega)]
theorem rd_more {k u : Nat} {x : UInt8} {r : List UInt8} (h : ¬ (k = 9 ∧ x.toNat ≠ 1 ∨ 0 < k ∧ x.toNat = 0)) (hk : k ≤ 9) (hu : u < 128 ^ k) (hx : ¬ x.toNat < 128) : rdN mx k u (x :: r) = rdN mx (k + 1) (u + 128 ^ k * (x.toNat % 128)) r ∧ k + 1 ≤ 9 ∧ u + 128 ^ k * (x.toNat % 128) < 128 ^ (k + 1) ∧ 128 ^ k * (x.toNat % 128) < 18446744073709551616 := by
  have hk9 : k + 1 ≤ 9 := by omega
  have hb : u + 128 ^ k * (x.toNat % 128) < 128 ^ (k + 1) := by
    rw [Nat.pow_succ]
    rcases pow_cases hk with ⟨rfl, e⟩ | ⟨rfl, e⟩ | ⟨rfl, e⟩ | ⟨rfl, e⟩ | ⟨rfl, e⟩ | ⟨rfl, e⟩ | ⟨rfl, e⟩ | ⟨rfl, e⟩ | ⟨rfl, e⟩ | ⟨rfl, e⟩ <;> rw [e] at hu ⊢ <;> omega
  refine ⟨by rw [rdN, if_neg (by omega), if_pos (by omega)], hk9, hb, ?_⟩
  rcases pow_cases hk with ⟨rfl, e⟩ | ⟨rfl, e⟩ | ⟨rfl, e⟩ | ⟨rfl, e⟩ | ⟨rfl, e⟩ | ⟨rfl, e⟩ | ⟨rfl, e⟩ | ⟨rfl, e⟩ | ⟨rfl, e⟩ | ⟨rfl, e⟩ <;> rw [e] <;> omega
/-- What first tells. -/
def fstV : Got Nat → Nat → Value
  | .bad n, _ => .tuple #[.int .u64 0, .int .i64 0, .iface 31 (.int .i64 (n : Nat))]
  | .got v r, l => .tuple #[.int .u64 (v : Nat), .int .i64 ((l - r.length : Nat) : Int), .nilIface]
def FstR (l : List UInt8) (w : World) (v5 v10 : Value) (wr : World) : Prop :=
  ∃ k u : Nat, v5 = .int .u64 (u : Nat) ∧ v10 = .int .i64 (k : Nat) ∧ k ≤ l.length ∧ k ≤ 9 ∧ Hid (u < 128 ^ k ∧ rdN mx 0 0 l = rdN mx k u (l.drop k)) ∧ w = wr
end Go.Proofs.Ytnnoampmcghnaaa.Wi
