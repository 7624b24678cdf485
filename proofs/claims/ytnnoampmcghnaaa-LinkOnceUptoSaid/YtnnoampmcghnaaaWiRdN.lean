/-
  Contracts of number, whole and signed of package wire's reader. All else is left as it was.
-/
import Derived.Test.YtnnoampmcghnaaaWiFst
import Derived.Lib.Zigzag
namespace Go.Proofs.Ytnnoampmcghnaaa.Wi
open Go.RowKit Go.Proofs.Ytnnoampmcghnaaa.Fl
set_option linter.unusedVariables false
set_option linter.unusedSimpArgs false

theorem rd_most (most : Nat) (hm : most ≤ mx) : ∀ (l : List UInt8) (k u : Nat), k ≤ 9 → u < 128 ^ k → rdN most k u l = match rdN mx k u l with | .bad n => .bad n | .got v r => if most < v then .bad 7 else .got v r
  | [], k, u, _, _ => rfl
  | x :: r, k, u, hk, hu => by
    by_cases h : k = 9 ∧ x.toNat ≠ 1 ∨ 0 < k ∧ x.toNat = 0
    · rw [rd_bad h hk, rdN]
      by_cases h1 : k = 9 ∧ 1 < x.toNat
      · rw [if_pos h1]
      · rw [if_neg h1, if_neg (by omega), if_pos (by left; omega)]
    · by_cases hx : x.toNat < 128
      · rw [(rd_last h hk hu hx).1, rdN, if_neg (by omega), if_neg (by omega)]
        by_cases hv : most < u + 128 ^ k * (x.toNat % 128)
        · rw [if_pos (Or.inr hv)]
          simp only [if_pos hv]
        · rw [if_neg (by rintro (h1 | h1) <;> omega)]
          simp only [if_neg hv]
      · have h2 := rd_more (r := r) h hk hu hx
        rw [h2.1, rdN, if_neg (by omega), if_pos (by omega)]
        exact rd_most most hm r (k + 1) _ h2.2.1 h2.2.2.1
theorem rd_rest {most : Nat} {l r : List UInt8} {v : Nat} (h : rdN most 0 0 l = .got v r) : l.length - r.length ≤ l.length ∧ l.drop (l.length - r.length) = r ∧ r.length ≤ l.length := by
  obtain ⟨n, -, hl, -⟩ := (rdN_forth most _ _ _ _ _ h).2
  rw [hl, List.length_append]
  refine ⟨by omega, ?_, by omega⟩
  rw [Nat.add_sub_cancel, List.drop_left]
set_option maxHeartbeats 2000000
set_option maxRecDepth 100000
theorem and_one (u : Nat) (h : u < 18446744073709551616) : bits BinOp.and IntKind.u64 (u : Int) 1 = ((u % 2 : Nat) : Int) := by
  rw [Lib.u64_and1 _ (by omega) (by omega)]
  omega
theorem xor_comm64 (a b : Int) : bits BinOp.xor IntKind.i64 a b = bits BinOp.xor IntKind.i64 b a := by
  show IntKind.i64.wrap ((BitVec.ofInt 64 a ^^^ BitVec.ofInt 64 b).toNat : Int) = IntKind.i64.wrap ((BitVec.ofInt 64 b ^^^ BitVec.ofInt 64 a).toNat : Int)
  rw [BitVec.xor_comm]
theorem xor_zero64 (x : Nat) (hx : x < 9223372036854775808) : bits BinOp.xor IntKind.i64 (x : Int) 0 = (x : Int) := by
  show IntKind.i64.wrap ((BitVec.ofInt 64 (x : Int) ^^^ BitVec.ofInt 64 0).toNat : Int) = _
  have h2 : (BitVec.ofInt 64 (x : Int)).toNat = x := by
    rw [BitVec.ofInt_natCast, BitVec.toNat_ofNat]; exact Nat.mod_eq_of_lt (by omega)
  have h0 : (BitVec.ofInt 64 0).toNat = 0 := by decide
  rw [BitVec.toNat_xor, h2, h0, Nat.xor_zero, IntKind.wrap_i64]
  omega
theorem zag_eq (u : Nat) (h : u < 18446744073709551616) : bits BinOp.xor IntKind.i64 (wrap64 ((u : Int) / 2)) (wrap64 (-wrap64 (bits BinOp.and IntKind.u64 (u : Int) 1))) = zag u := by
  have e1 : wrap64 ((u : Int) / 2) = ((u / 2 : Nat) : Int) := by unfold wrap64; omega
  rw [and_one u h, e1]
  by_cases h1 : u % 2 = 1
  · have e2 : wrap64 (-wrap64 ((u % 2 : Nat) : Int)) = -1 := by rw [h1]; unfold wrap64; omega
    rw [e2, xor_comm64, Lib.i64_not _ (by omega)]
    unfold zag
    rw [if_pos h1]
  · have e2 : wrap64 (-wrap64 ((u % 2 : Nat) : Int)) = 0 := by rw [show u % 2 = 0 by omega]; unfold wrap64; omega
    rw [e2, xor_zero64 _ (by omega)]
    unfold zag
    rw [if_neg h1]
end Go.Proofs.Ytnnoampmcghnaaa.Wi
