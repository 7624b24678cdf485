/-
  Contract of first of package wire: the number that bytes begin with. Memory is left as it was.
-/
import Derived.Test.YtndgbdbjmogioaaWiRd
namespace Go.Proofs.Ytndgbdbjmogioaa.Wi
open Go.RowKit Go.Proofs.Ytndgbdbjmogioaa.Fl
set_option linter.unusedVariables false
set_option linter.unusedSimpArgs false

def mx : Nat := 18446744073709551615
theorem pow_cases {k : Nat} (hk : k ≤ 9) : (k = 0 ∧ 128 ^ k = 1) ∨ (k = 1 ∧ 128 ^ k = 128) ∨ (k = 2 ∧ 128 ^ k = 16384) ∨ (k = 3 ∧ 128 ^ k = 2097152) ∨ (k = 4 ∧ 128 ^ k = 268435456) ∨ (k = 5 ∧ 128 ^ k = 34359738368) ∨ (k = 6 ∧ 128 ^ k = 4398046511104) ∨ (k = 7 ∧ 128 ^ k = 562949953421312) ∨ (k = 8 ∧ 128 ^ k = 72057594037927936) ∨ (k = 9 ∧ 128 ^ k = 9223372036854775808) := by
  have h : k = 0 ∨ k = 1 ∨ k = 2 ∨ k = 3 ∨ k = 4 ∨ k = 5 ∨ k = 6 ∨ k = 7 ∨ k = 8 ∨ k = 9 := by omega
  rcases h with rfl | rfl | rfl | rfl | rfl | rfl | rfl | rfl | rfl | rfl <;> simp
theorem or_step {k u y : Nat} (hk : k ≤ 9) (hu : u < 128 ^ k) (hy : 128 ^ k * y < 18446744073709551616) : bits BinOp.or IntKind.u64 (u : Int) (IntKind.u64.wrap ((y : Int) * 2 ^ (7 * k))) = ((u + 128 ^ k * y : Nat) : Int) := by
  have hw : IntKind.u64.wrap ((y : Int) * 2 ^ (7 * k)) = ((128 ^ k * y : Nat) : Int) := by
    have e : (y : Int) * 2 ^ (7 * k) = ((128 ^ k * y : Nat) : Int) := by
      rw [Int.natCast_mul, show (128 : Nat) = 2 ^ 7 by decide, ← Nat.pow_mul, Int.mul_comm]
      simp
    exact wrapU e hy
  rw [hw]
  rcases pow_cases hk with ⟨rfl, e⟩ | ⟨rfl, e⟩ | ⟨rfl, e⟩ | ⟨rfl, e⟩ | ⟨rfl, e⟩ | ⟨rfl, e⟩ | ⟨rfl, e⟩ | ⟨rfl, e⟩ | ⟨rfl, e⟩ | ⟨rfl, e⟩ <;> rw [e] at hu hy ⊢
  · rw [u64_orv0 _ _ (by omega) (by omega) (by omega) (by omega) (by omega)]; omega
  · rw [u64_orv7 _ _ (by omega) (by omega) (by omega) (by omega) (by omega)]; omega
  · rw [u64_orv14 _ _ (by omega) (by omega) (by omega) (by omega) (by omega)]; omega
  · rw [u64_orv21 _ _ (by omega) (by omega) (by omega) (by omega) (by omega)]; omega
  · rw [u64_orv28 _ _ (by omega) (by omega) (by omega) (by omega) (by omega)]; omega
  · rw [u64_orv35 _ _ (by omega) (by omega) (by omega) (by omega) (by omega)]; omega
  · rw [u64_orv42 _ _ (by omega) (by omega) (by omega) (by omega) (by omega)]; omega
  · rw [u64_orv49 _ _ (by omega) (by omega) (by omega) (by omega) (by omega)]; omega
  · rw [u64_orv56 _ _ (by omega) (by omega) (by omega) (by omega) (by omega)]; omega
  · rw [u64_orv63 _ _ (by omega) (by omega) (by omega) (by omega) (by omega)]; omega
theorem rd_bad {k u : Nat} {x : UInt8} {r : List UInt8} (h : k = 9 ∧ x.toNat ≠ 1 ∨ 0 < k ∧ x.toNat = 0) (hk : k ≤ 9) : rdN mx k u (x :: r) = .bad 7 := by
  rw [rdN]
  by_cases h1 : k = 9 ∧ 1 < x.toNat
  · rw [if_pos h1]
  · rw [if_neg h1, if_neg (by omega), if_pos (by left; omega)]
theorem rd_last {k u : Nat} {x : UInt8} {r : List UInt8} (h : ¬ (k = 9 ∧ x.toNat ≠ 1 ∨ 0 < k ∧ x.toNat = 0)) (hk : k ≤ 9) (hu : u < 128 ^ k) (hx : x.toNat < 128) : rdN mx k u (x :: r) = .got (u + 128 ^ k * (x.toNat % 128)) r ∧ 128 ^ k * (x.toNat % 128) < 18446744073709551616 := by
  have hb : u + 128 ^ k * (x.toNat % 128) ≤ mx := by
    unfold mx
    rw [Nat.mod_eq_of_lt hx]
    rcases pow_cases hk with ⟨rfl, e⟩ | ⟨rfl, e⟩ | ⟨rfl, e⟩ | ⟨rfl, e⟩ | ⟨rfl, e⟩ | ⟨rfl, e⟩ | ⟨rfl, e⟩ | ⟨rfl, e⟩ | ⟨rfl, e⟩ | ⟨rfl, e⟩ <;> rw [e] at hu ⊢ <;> omega
  refine ⟨?_, by unfold mx at hb; omega⟩
  rw [rdN, if_neg (by omega), if_neg (by omega), if_neg (by rintro (h1 | h1) <;> omega)]
theorem rd_more {k u : Nat} {x : UInt8} {r : List UInt8} (h : ¬ (k = 9 ∧ x.toNat ≠ 1 ∨ 0 < k ∧ x.toNat = 0)) (hk : k ≤ 9) (hu : u < 128 ^ k) (hx : ¬ x.toNat < 128) : rdN mx k u (x :: r) = rdN mx (k + 1) (u + 128 ^ k * (x.toNat % 128)) r ∧ k + 1 ≤ 9 ∧ u + 128 ^ k * (x.toNat % 128) < 128 ^ (k + 1) ∧ 128 ^ k * (x.toNat % 128) < 18446744073709551616 := by
  have hk9 : k + 1 ≤ 9 := by omega
  have hb : u + 128 ^ k * (x.toNat % 128) < 128 ^ (k + 1) := by
    rw [Nat.pow_succ]
    rcases pow_cases hk with ⟨rfl, e⟩ | ⟨rfl, e⟩ | ⟨rfl, e⟩ | ⟨rfl, e⟩ | ⟨rfl, e⟩ | ⟨rfl, e⟩ | ⟨rfl, e⟩ | ⟨rfl, e⟩ | ⟨rfl, e⟩ | ⟨rfl, e⟩ <;> rw [e] at hu ⊢ <;> omega
  refine ⟨by rw [rdN, if_neg (by omega), if_pos (by omega)], hk9, hb, ?_⟩
  rcases pow_cases hk with ⟨rfl, e⟩ | ⟨rfl, e⟩ | ⟨rfl, e⟩ | ⟨rfl, e⟩ | ⟨rfl, e⟩ | ⟨rfl, e⟩ | ⟨rfl, e⟩ | ⟨rfl, e⟩ | ⟨rfl, e⟩ | ⟨rfl, e⟩ <;> rw [e] <;> omega
/-- What first tells. -/
def fstV : Got Nat → Nat → Value
  | .bad n, _ => .tuple #[.int .u64 0, .int .i64 0, .iface 40 (.int .i64 (n : Nat))]
  | .got v r, l => .tuple #[.int .u64 (v : Nat), .int .i64 ((l - r.length : Nat) : Int), .nilIface]
def FstR (l : List UInt8) (w : World) (v5 v10 : Value) (wr : World) : Prop :=
  ∃ k u : Nat, v5 = .int .u64 (u : Nat) ∧ v10 = .int .i64 (k : Nat) ∧ k ≤ l.length ∧ k ≤ 9 ∧ Hid (u < 128 ^ k ∧ rdN mx 0 0 l = rdN mx k u (l.drop k)) ∧ w = wr
set_option maxHeartbeats 2000000 in
set_option maxRecDepth 100000 in
theorem first_any (a : Option Addr) (c : Nat) (l : List UInt8) {S : Nat → Prop} (w : World) (h : BytesAt w S a l) :
    Calls Try.prog 63 #[.slice a l.length c] w fun e w' => e = .returned (fstV (rdN mx 0 0 l) l.length) ∧ w = w' := by
  obtain ⟨n, hn⟩ : ∃ n, n = l.length := ⟨_, rfl⟩
  have hm : n ≤ 9223372036854775807 := by have := h.1; unfold maxLen at this; omega
  have HN := Lib.hid hn
  have HB := Lib.hid h
  obtain ⟨res, hres⟩ : ∃ r, r = rdN mx 0 0 l := ⟨_, rfl⟩
  have HRES := Lib.hid hres
  rw [← hn, ← hres]
  clear hn h hres
  go_enter Try.func63, Try.ntmps63
  go_wp2_with fail
  go_loopw [5, 10] (fun v5 v10 wr => FstR l w v5 v10 wr) (fun _ v10 _ => n - (intOf v10).toNat)
  case atStart => exact ⟨0, 0, rfl, rfl, Nat.zero_le _, by omega, Lib.hid ⟨by simp, rfl⟩, rfl⟩
  case round =>
    obtain ⟨k, u, rfl, rfl, hkl, hk9, hrd, rfl⟩ := hrel
    by_cases hlt : k < n
    · have hlz : (k : Int) < (n : Int) := by omega
      have hk : k < l.length := by rw [← HN.out]; exact hlt
      obtain ⟨g, o, hg, -, hc⟩ := HB.out.2 (by omega)
      have c0 := hc k hk
      have HD := Lib.hid (show l.drop k = l[k] :: l.drop (k + 1) from (List.getElem_cons_drop hk).symm)
      obtain ⟨x, hx⟩ : ∃ x, x = l[k] := ⟨_, rfl⟩
      rw [← hx] at c0 HD
      obtain ⟨y, hy⟩ : ∃ y : Nat, y = x.toNat := ⟨_, rfl⟩
      have hy256 : y < 256 := by rw [hy]; exact x.toNat_lt
      have HY := Lib.hid hy
      rw [← hy] at c0
      have HDL := Lib.hid (show (l.drop (k + 1)).length = l.length - (k + 1) by rw [List.length_drop])
      have HKL := Lib.hid hk
      subst hg
      clear hc hx hy hk hkl
      by_cases hbad : k = 9 ∧ y ≠ 1 ∨ 0 < k ∧ y = 0
      · have HR := Lib.hid (show res = .bad 7 by rw [HRES.out, hrd.out.2, HD.out]; exact rd_bad (by rw [← HY.out]; exact hbad) hk9)
        by_cases h9 : k = 9 ∧ y ≠ 1
        · obtain ⟨rfl, hy1⟩ := h9
          have hy1z : ((y : Int) != 1) = true := by rw [bne_iff_ne]; omega
          clear hbad hy1
          go_wp2_with fail
          refine bodyPost_ret (v := fstV (.bad 7) n) (by simp [results, Try.results63, go_sem, fstV, *]) rfl ⟨by rw [HR.out], rfl⟩
        · have h0 : 0 < k ∧ y = 0 := by omega
          obtain ⟨hk0, rfl⟩ := h0
          have hk9z : ((k : Int) == 9) = false := by rw [beq_eq_false_iff_ne]; omega
          have hkz : (0 : Int) < (k : Int) := by omega
          clear hbad h9
          go_wp2_with fail
          refine bodyPost_ret (v := fstV (.bad 7) n) (by simp [results, Try.results63, go_sem, fstV, *]) rfl ⟨by rw [HR.out], rfl⟩
      · have HG := Lib.hid (show ¬ (k = 9 ∧ x.toNat ≠ 1 ∨ 0 < k ∧ x.toNat = 0) by rw [← HY.out]; exact hbad)
        have hb : bits BinOp.and IntKind.u8 (y : Int) 127 = ((y % 128 : Nat) : Int) := by rw [u8_and127 _ (by omega) (by omega)]; omega
        obtain ⟨m, hm2⟩ : ∃ m, m = y % 128 := ⟨_, rfl⟩
        rw [← hm2] at hb
        have hw : IntKind.u64.wrap (m : Int) = (m : Int) := wrapU rfl (by omega)
        have h7 : wrap64 (7 * (k : Int)) = ((7 * k : Nat) : Int) := by clear hw hb; unfold wrap64; omega
        have HM := Lib.hid hm2
        have HB2 := Lib.hid hb
        have HW2 := Lib.hid hw
        have HK7 := Lib.hid h7
        clear hb hw h7 hm2
        have hk9b : (k : Int) ≤ 9 := by omega
        obtain ⟨tk, htk⟩ : ∃ b : Bool, ((k : Int) == 9) = b := ⟨_, rfl⟩
        obtain ⟨tp, htp⟩ : ∃ b : Bool, decide (0 < k) = b := ⟨_, rfl⟩
        have hty : tk = true → ((y : Int) != 1) = false := by
          intro h
          rw [h, beq_iff_eq] at htk
          rw [bne_eq_false_iff_eq]
          omega
        have htz : tp = true → ((y : Int) == 0) = false := by
          intro h
          rw [h, decide_eq_true_eq] at htp
          rw [beq_eq_false_iff_ne]
          omega
        have htp2 : decide ((0 : Int) < (k : Int)) = tp := by rw [← htp]; congr 1; simp
        by_cases hy128 : y < 128
        · have hyz : (y : Int) < 128 := by omega
          have HL := Lib.hid (rd_last (r := l.drop (k + 1)) HG.out hk9 hrd.out.1 (by rw [← HY.out]; exact hy128))
          have HR := Lib.hid (show res = .got (u + 128 ^ k * m) (l.drop (k + 1)) by rw [HRES.out, hrd.out.2, HD.out, HM.out, HY.out]; exact HL.out.1)
          have HOR := Lib.hid (or_step hk9 hrd.out.1 (show 128 ^ k * m < _ by rw [HM.out, HY.out]; exact HL.out.2))
          have HSZ := Lib.hid (show ((n - (l.drop (k + 1)).length : Nat) : Int) = (k : Int) + 1 by have := HDL.out; have := HN.out; have := HKL.out; omega)
          clear hy128 hbad HG
          cases tk
          · cases tp
            · have hb := HB2.out
              have hw := HW2.out
              have h7 := HK7.out
              go_wp2_with fail
              exact bodyPost_ret (v := .tuple #[.int .u64 (bits BinOp.or IntKind.u64 (u : Int) (IntKind.u64.wrap ((m : Int) * 2 ^ (7 * k)))), .int .i64 ((k : Int) + 1), .nilIface]) (by simp [results, Try.results63, go_sem, *]) rfl ⟨by rw [HR.out, HOR.out, ← HSZ.out]; rfl, rfl⟩
            · have hz := htz rfl
              have hb := HB2.out
              have hw := HW2.out
              have h7 := HK7.out
              go_wp2_with fail
              exact bodyPost_ret (v := .tuple #[.int .u64 (bits BinOp.or IntKind.u64 (u : Int) (IntKind.u64.wrap ((m : Int) * 2 ^ (7 * k)))), .int .i64 ((k : Int) + 1), .nilIface]) (by simp [results, Try.results63, go_sem, *]) rfl ⟨by rw [HR.out, HOR.out, ← HSZ.out]; rfl, rfl⟩
          · have hty1 := hty rfl
            cases tp
            · exact absurd htp (by rw [beq_iff_eq] at htk; simp only [decide_eq_false_iff_not]; omega)
            · have hz := htz rfl
              have hb := HB2.out
              have hw := HW2.out
              have h7 := HK7.out
              go_wp2_with fail
              exact bodyPost_ret (v := .tuple #[.int .u64 (bits BinOp.or IntKind.u64 (u : Int) (IntKind.u64.wrap ((m : Int) * 2 ^ (7 * k)))), .int .i64 ((k : Int) + 1), .nilIface]) (by simp [results, Try.results63, go_sem, *]) rfl ⟨by rw [HR.out, HOR.out, ← HSZ.out]; rfl, rfl⟩
        · have hyz : ¬ (y : Int) < 128 := by omega
          have HL := Lib.hid (rd_more (r := l.drop (k + 1)) HG.out hk9 hrd.out.1 (by rw [← HY.out]; exact hy128))
          have HR := Lib.hid (show rdN mx 0 0 l = rdN mx (k + 1) (u + 128 ^ k * m) (l.drop (k + 1)) by rw [hrd.out.2, HD.out, HM.out, HY.out]; exact HL.out.1)
          have HOR := Lib.hid (or_step hk9 hrd.out.1 (show 128 ^ k * m < _ by rw [HM.out, HY.out]; exact HL.out.2.2.2))
          have HK1 := Lib.hid (show k + 1 ≤ l.length from HKL.out)
          clear hy128 hbad HG
          cases tk
          · cases tp
            · have hb := HB2.out
              have hw := HW2.out
              have h7 := HK7.out
              go_wp2_with fail
              go_roundw
              case rel => exact ⟨k + 1, u + 128 ^ k * m, congrArg (Value.int .u64) HOR.out, by go_num, HK1.out, HL.out.2.1, Lib.hid ⟨by rw [HM.out, HY.out]; exact HL.out.2.2.1, HR.out⟩, rfl⟩
              case measure => simp [intOf]; omega
            · have hz := htz rfl
              have hb := HB2.out
              have hw := HW2.out
              have h7 := HK7.out
              go_wp2_with fail
              go_roundw
              case rel => exact ⟨k + 1, u + 128 ^ k * m, congrArg (Value.int .u64) HOR.out, by go_num, HK1.out, HL.out.2.1, Lib.hid ⟨by rw [HM.out, HY.out]; exact HL.out.2.2.1, HR.out⟩, rfl⟩
              case measure => simp [intOf]; omega
          · have hty1 := hty rfl
            cases tp
            · exact absurd htp (by rw [beq_iff_eq] at htk; simp only [decide_eq_false_iff_not]; omega)
            · have hz := htz rfl
              have hb := HB2.out
              have hw := HW2.out
              have h7 := HK7.out
              go_wp2_with fail
              go_roundw
              case rel => exact ⟨k + 1, u + 128 ^ k * m, congrArg (Value.int .u64) HOR.out, by go_num, HK1.out, HL.out.2.1, Lib.hid ⟨by rw [HM.out, HY.out]; exact HL.out.2.2.1, HR.out⟩, rfl⟩
              case measure => simp [intOf]; omega
    · have hlz : ¬ (k : Int) < (n : Int) := by omega
      have hkn : k = l.length := by have := HN.out; omega
      have HR := Lib.hid (show res = .bad 6 by rw [HRES.out, hrd.out.2, hkn, List.drop_length]; rfl)
      clear hkn
      go_wp2_with fail
      refine bodyPost_ret (v := fstV (.bad 6) n) (by simp [results, Try.results63, go_sem, fstV, *]) rfl ⟨by rw [HR.out], rfl⟩
end Go.Proofs.Ytndgbdbjmogioaa.Wi
