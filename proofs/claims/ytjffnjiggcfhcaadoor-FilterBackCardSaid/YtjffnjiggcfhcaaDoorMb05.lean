/-
  Tokens as a call keeps them: four cells a token, in a row of the call's own. No program here.
-/
import Derived.Test.YtjffnjiggcfhcaaDoorMb04
import Derived.WalkSmall
import Derived.Maps.AppendAt
import Derived.OwnWalk
/-
  Contract of number of package token: the number that a text begins with, by a digit or a -. Memory that was there is left as it was; the package variables ErrSyntax and ErrRange of strconv hold interface values.
-/
namespace Go.Proofs.YtjffnjiggcfhcaaDoor.Tk
open Go.RowKit
set_option linter.unusedVariables false
set_option linter.unusedSimpArgs false

/-- strconv's two errors are there. -/
def LaidE (w : World) : Prop := ∃ (tp tq : TypeId) (p q : Value), w.var? Tryd.prog "strconv.ErrSyntax" = some #[.iface tp p] ∧ w.var? Tryd.prog "strconv.ErrRange" = some #[.iface tq q]
theorem gSyn : Tryd.prog.globalNamed "strconv.ErrSyntax" = some 2 := by kernel_rfl
theorem gRng : Tryd.prog.globalNamed "strconv.ErrRange" = some 3 := by kernel_rfl
theorem LaidE.later {w V : World} (h : LaidE w) (hb : Below w.heap.size w V) : LaidE V := by
  obtain ⟨tp, tq, p, q, h1, h2⟩ := h
  have l1 : 2 < w.heap.size := by
    have := World.var?_cell gSyn h1 0
    exact World.block_lt_of_cell? _ _ (this.trans (by rfl : (#[Value.iface tp p] : Array Value)[0]? = some (.iface tp p)))
  have l2 : 3 < w.heap.size := by
    have := World.var?_cell gRng h2 0
    exact World.block_lt_of_cell? _ _ (this.trans (by rfl : (#[Value.iface tq q] : Array Value)[0]? = some (.iface tq q)))
  exact ⟨tp, tq, p, q, var?_below hb gSyn l1 h1, var?_below hb gRng l2 h2⟩
/-- What strconv.ParseInt answers, and that it leaves alone what was there. -/
theorem parse_any (s : ByteArray) (hs : s.size ≤ 1048576) (w : World) (hE : LaidE w) : Calls Tryd.prog 52 #[.string s, .int .i64 10, .int .i64 64] w fun e w' =>
    (∃ v, Lib.parseIntB 64 s.data.toList = .ok v ∧ e = .returned (.tuple #[.int .i64 v, .nilIface]) ∨ (∀ u, Lib.parseIntB 64 s.data.toList ≠ .ok u) ∧ ∃ (n : Int) (T : TypeId) (x : Value), e = .returned (.tuple #[.int .i64 n, .iface T x])) ∧ Below w.heap.size w w' := by
  obtain ⟨tp, tq, p, q, h1, h2⟩ := hE
  by_cases hv : ∃ v, Lib.parseIntB 64 s.data.toList = Lib.NumEnd.ok v
  · obtain ⟨v, h⟩ := hv
    refine (Tryd.strconv_ParseInt_10_at64_ok s (by omega) v h w).mono ?_
    rintro e w' ⟨rfl, hw⟩
    refine ⟨⟨v, Or.inl ⟨h, rfl⟩⟩, ?_⟩
    rcases hw with rfl | ⟨t, rfl⟩
    · exact Below.refl _ _
    · exact Lib.bytesWorld_below ..
  · have hn : ∀ u, Lib.parseIntB 64 s.data.toList ≠ Lib.NumEnd.ok u := fun u hu => hv ⟨u, hu⟩
    by_cases hs2 : Lib.parseIntB 64 s.data.toList = Lib.NumEnd.syntax
    · refine (Tryd.strconv_ParseInt_10_at64_syntax_var s (by omega) hs2 tp p w h1).mono ?_
      rintro e w' ⟨N, rfl, _, _, hb⟩
      exact ⟨⟨0, Or.inr ⟨hn, _, _, _, rfl⟩⟩, hb⟩
    · have h : Lib.parseIntB 64 s.data.toList = Lib.NumEnd.range := by
        revert hn hs2
        cases Lib.parseIntB 64 s.data.toList
        · intro hn _
          exact absurd rfl (hn _)
        · intro _ h
          exact absurd rfl h
        · intro _ _
          rfl
      refine (Tryd.strconv_ParseInt_10_at64_range_var s (by omega) h tq q w h2).mono ?_
      rintro e w' ⟨N, rfl, _, _, hb⟩
      exact ⟨⟨0, Or.inr ⟨hn, _, _, _, rfl⟩⟩, hb⟩

theorem digs_all (l : List UInt8) : ∀ c ∈ digs l, dig c = true := take_run_all dig l
theorem pre48 (l : List UInt8) : Lib.hasPrefix l [48] = decide (l.head? = some 48) := by
  cases l with
  | nil => rfl
  | cons c r =>
    rw [Bool.eq_iff_iff, decide_eq_true_iff]
    show ((48 == c) && true) = true ↔ some c = some 48
    rw [Bool.and_true, beq_iff_eq, Option.some_inj]
    exact eq_comm
theorem numL_minus {c : UInt8} {r : List UInt8} (hc : c.toNat = 45) : numL (c :: r) = if digs r = [] ∨ (digs r).head? = some 48 ∨ 9223372036854775808 < decV (digs r) then none else some ⟨3, -(decV (digs r) : Int), [], (digs r).length + 1⟩ := by
  rw [numL_cons, if_pos (by rw [hc]; rfl)]
theorem numL_plain {c : UInt8} {r : List UInt8} (hc : ¬ c.toNat = 45) : numL (c :: r) = if digs (c :: r) = [] ∨ (1 < (digs (c :: r)).length ∧ (digs (c :: r)).head? = some 48) ∨ 9223372036854775808 ≤ decV (digs (c :: r)) then none else some ⟨3, decV (digs (c :: r)), [], (digs (c :: r)).length⟩ := by
  rw [numL_cons, if_neg (fun h => hc (eq_of_beq h))]
theorem num_minus0 {c : UInt8} {r : List UInt8} (hc : c.toNat = 45) (h : (digs r).head? = some 48) : numL (c :: r) = none := by
  rw [numL_minus hc, if_pos (Or.inr (Or.inl h))]
theorem num_minus {c : UInt8} {r : List UInt8} (hc : c.toNat = 45) (h : ¬ (digs r).head? = some 48) :
    (∀ v, Lib.parseIntB 64 ((45 : UInt8) :: digs r) = .ok v → numL (c :: r) = some ⟨3, v, [], (digs r).length + 1⟩) ∧ ((∀ u, Lib.parseIntB 64 ((45 : UInt8) :: digs r) ≠ .ok u) → numL (c :: r) = none) := by
  rw [numL_minus hc, parse_minus (digs_all r)]
  by_cases h0 : digs r = []
  · rw [if_pos h0, if_pos (Or.inl h0)]
    exact ⟨fun v e => (by cases e), fun _ => rfl⟩
  · rw [if_neg h0]
    by_cases h1 : 9223372036854775808 < decV (digs r)
    · rw [if_pos h1, if_pos (Or.inr (Or.inr h1))]
      exact ⟨fun v e => (by cases e), fun _ => rfl⟩
    · rw [if_neg h1, if_neg (by rintro (a | a | a) <;> contradiction)]
      exact ⟨fun v e => (by cases e; rfl), fun e => absurd rfl (e _)⟩
theorem num_plain0 {c : UInt8} {r : List UInt8} (hc : ¬ c.toNat = 45) (h : (digs (c :: r)).head? = some 48) (h1 : 1 < (digs (c :: r)).length) : numL (c :: r) = none := by
  rw [numL_plain hc, if_pos (Or.inr (Or.inl ⟨h1, h⟩))]
theorem num_plain {c : UInt8} {r : List UInt8} (hc : ¬ c.toNat = 45) (h : ¬ ((digs (c :: r)).head? = some 48 ∧ 1 < (digs (c :: r)).length)) :
    (∀ v, Lib.parseIntB 64 (digs (c :: r)) = .ok v → numL (c :: r) = some ⟨3, v, [], (digs (c :: r)).length⟩) ∧ ((∀ u, Lib.parseIntB 64 (digs (c :: r)) ≠ .ok u) → numL (c :: r) = none) := by
  rw [numL_plain hc]
  by_cases h0 : digs (c :: r) = []
  · rw [if_pos (Or.inl h0), h0]
    exact ⟨fun v e => (by cases e), fun _ => rfl⟩
  · rw [parse_plain (digs_all _) h0]
    by_cases h1 : 9223372036854775808 ≤ decV (digs (c :: r))
    · rw [if_pos h1, if_pos (Or.inr (Or.inr h1))]
      exact ⟨fun v e => (by cases e), fun _ => rfl⟩
    · rw [if_neg h1, if_neg]
      · exact ⟨fun v e => (by cases e; rfl), fun e => absurd rfl (e _)⟩
      · rintro (a | a | a)
        · exact h0 a
        · exact h ⟨a.2, a.1⟩
        · exact h1 a

set_option maxHeartbeats 2000000 in
theorem number_minus (s : ByteArray) (hs : s.size ≤ 1048576) (c : UInt8) (r : List UInt8) (hL : s.data.toList = c :: r) (hc : c.toNat = 45) (w : World) (hE : LaidE w) :
    Calls Tryd.prog 32 #[.string s] w fun e w' => e = .returned (lexV 35 (numL s.data.toList)) ∧ Below w.heap.size w w' := by
  have HL := Lib.hid hL
  have hsl : s.size = r.length + 1 := by rw [Lib.size_eq, hL]; rfl
  have h1z : (1 : Int) ≤ (s.size : Int) := by omega
  have h0s : 0 < s.size := by omega
  have h0z : (0 : Int) < (s.size : Int) := by omega
  have HSL := Lib.hid hsl
  have hb0 : s[0] = c := by
    have := Lib.data_getElem? s 0 h0s
    rw [hL] at this
    simpa using this.symm
  have hb1 : ((s[0].toNat : Nat) : Int) = 45 := by rw [hb0, hc]; rfl
  have HT := Lib.hid (show (s.extract 1 s.size).data.toList = r by rw [Lib.extract_to_end, HL.out]; rfl)
  have HC := Lib.hid hc
  have K0 := Lib.hid (Blk.new w (.int .i64 0) (.int .i64 0) (.int .i64 0) (.string ⟨#[]⟩) 58)
  have B0 := Lib.hid ((Below.refl w.heap.size w).alloc (Nat.le_refl _) (.cells #[.int .i64 0, .int .i64 0, .int .i64 0, .string ⟨#[]⟩] 58))
  have E0 := Lib.hid (hE.later B0.out)
  have C := Lib.hid (fun W => rowDigit_any (s.extract 1 s.size) (by simp only [ByteArray.size_extract]; omega) W)
  rw [HT.out] at C
  obtain ⟨d, hd⟩ : ∃ d, run dig r = d := ⟨_, rfl⟩
  have hdl : (1 : Int) + (d : Int) ≤ (s.size : Int) := by have := run_le dig r; omega
  have HD := Lib.hid hd
  rw [hd] at C
  have e1 : ((1 : Int) + (d : Int)).toNat = d + 1 := by omega
  have HDR := Lib.hid (show digs r = r.take d by unfold digs; rw [hd])
  have HDL := Lib.hid (show (digs r).length = d by rw [digs_len, hd])
  have HP := Lib.hid (show (s.extract 1 (d + 1)).data.toList = digs r by rw [Lib.extract_data, HL.out, HDR.out]; simp)
  have HA := Lib.hid (show (s.extract 0 (d + 1)).data.toList = 45 :: digs r by rw [take_data, HL.out, HDR.out, List.take_succ_cons]; congr 1; exact UInt8.toNat_inj.1 HC.out)
  have C2 := Lib.hid (fun W => Tryd.strings_HasPrefix (s.extract 1 (d + 1)) ⟨#[48]⟩ W)
  rw [HP.out, show (⟨#[48]⟩ : ByteArray).data.toList = [48] from rfl, pre48] at C2
  have C3 := Lib.hid (fun W (hW : LaidE W) => parse_any (s.extract 0 (d + 1)) (by simp only [ByteArray.size_extract]; omega) W hW)
  rw [HA.out] at C3
  clear hd hL hsl hc hE hb0
  by_cases hh : (digs r).head? = some 48
  · rw [decide_eq_true hh] at C2
    have HR := Lib.hid (num_minus0 HC.out hh)
    have hd0 : (1 : Int) < (1 : Int) + (d : Int) := by
      have := HDL.out
      cases he : digs r with
      | nil => rw [he] at hh; simp at hh
      | cons x l => rw [he] at this; simp at this; omega
    clear hh
    go_enter Tryd.func32, Tryd.ntmps32
    go_wp2_with fail
    refine (C.out _).mono ?_
    rintro e w1 ⟨rfl, rfl⟩
    go_wp2_with fail
    refine (C2.out _).mono ?_
    rintro e w1 ⟨rfl, rfl⟩
    go_wp2_with fail
    refine (amiss_any _).mono ?_
    rintro e w2 ⟨rfl, hb2⟩
    have B2 := Lib.hid (B0.out.trans (hb2.mono (by simp)))
    obtain ⟨c0, c1, c2, c3, cf, cl⟩ := K0.out.later hb2
    clear hb2
    unfold noTok
    go_wp2_with fail
    rw [HL.out, HR.out]
    refine bodyPost_ret (v := lexV 35 none) (by simp [results, Tryd.results32, go_sem, lexV, *]) rfl ⟨rfl, ?_⟩
    exact set4 B2.out (Nat.le_refl _) _ _ _ _
  · rw [decide_eq_false hh] at C2
    have HR := Lib.hid (num_minus HC.out hh)
    rw [HDL.out] at HR
    clear hh
    go_enter Tryd.func32, Tryd.ntmps32
    go_wp2_with fail
    refine (C.out _).mono ?_
    rintro e w1 ⟨rfl, rfl⟩
    go_wp2_with fail
    refine (C2.out _).mono ?_
    rintro e w1 ⟨rfl, rfl⟩
    go_wp2_with fail
    refine (C3.out _ E0.out).mono ?_
    rintro e w2 ⟨⟨v, hv⟩, hb2⟩
    have B2 := Lib.hid (B0.out.trans (hb2.mono (by simp)))
    have K2 := Lib.hid (K0.out.later hb2)
    clear hb2
    rcases hv with ⟨hv, rfl⟩ | ⟨hv, n, T, x, rfl⟩
    · have HV := Lib.hid (HR.out.1 v hv)
      clear hv
      obtain ⟨c0, c1, c2, c3, cf, cl⟩ := K2.out
      go_wp2_with fail
      rw [HL.out, HV.out]
      refine bodyPost_ret (v := lexV 35 _) (by simp [results, Tryd.results32, go_sem, lexV, *]; omega) rfl ⟨rfl, ?_⟩
      exact set4 B2.out (Nat.le_refl _) _ _ _ _
    · have HV := Lib.hid (HR.out.2 hv)
      clear hv
      go_wp2_with fail
      refine (amiss_any _).mono ?_
      rintro e w3 ⟨rfl, hb3⟩
      have B3 := Lib.hid (B2.out.trans (hb3.mono B2.out.size))
      obtain ⟨c0, c1, c2, c3, cf, cl⟩ := K2.out.later hb3
      clear hb3
      unfold noTok
      go_wp2_with fail
      rw [HL.out, HV.out]
      refine bodyPost_ret (v := lexV 35 none) (by simp [results, Tryd.results32, go_sem, lexV, *]) rfl ⟨rfl, ?_⟩
      exact set4 B3.out (Nat.le_refl _) _ _ _ _

set_option maxHeartbeats 2000000 in
theorem number_plain (s : ByteArray) (hs : s.size ≤ 1048576) (c : UInt8) (r : List UInt8) (hL : s.data.toList = c :: r) (hc : ¬ c.toNat = 45) (w : World) (hE : LaidE w) :
    Calls Tryd.prog 32 #[.string s] w fun e w' => e = .returned (lexV 35 (numL s.data.toList)) ∧ Below w.heap.size w w' := by
  have HL := Lib.hid hL
  have hsl : s.size = r.length + 1 := by rw [Lib.size_eq, hL]; rfl
  have h0s : 0 < s.size := by omega
  have h0z : (0 : Int) < (s.size : Int) := by omega
  have HSL := Lib.hid hsl
  have hb0 : s[0] = c := by
    have := Lib.data_getElem? s 0 h0s
    rw [hL] at this
    simpa using this.symm
  have hb1 : ¬ ((s[0].toNat : Nat) : Int) = 45 := by rw [hb0]; omega
  have HC := Lib.hid hc
  have K0 := Lib.hid (Blk.new w (.int .i64 0) (.int .i64 0) (.int .i64 0) (.string ⟨#[]⟩) 58)
  have B0 := Lib.hid ((Below.refl w.heap.size w).alloc (Nat.le_refl _) (.cells #[.int .i64 0, .int .i64 0, .int .i64 0, .string ⟨#[]⟩] 58))
  have E0 := Lib.hid (hE.later B0.out)
  have C := Lib.hid (fun W => rowDigit_any s hs W)
  rw [HL.out] at C
  obtain ⟨d, hd⟩ : ∃ d, run dig (c :: r) = d := ⟨_, rfl⟩
  have hdl : (d : Int) ≤ (s.size : Int) := by have := run_le dig (c :: r); simp only [List.length_cons] at this; omega
  have HD := Lib.hid hd
  rw [hd] at C
  have HDR := Lib.hid (show digs (c :: r) = (c :: r).take d by unfold digs; rw [hd])
  have HDL := Lib.hid (show (digs (c :: r)).length = d by rw [digs_len, hd])
  have HP := Lib.hid (show (s.extract 0 d).data.toList = digs (c :: r) by rw [take_data, HL.out, HDR.out])
  have C2 := Lib.hid (fun W => Tryd.strings_HasPrefix (s.extract 0 d) ⟨#[48]⟩ W)
  rw [HP.out, show (⟨#[48]⟩ : ByteArray).data.toList = [48] from rfl, pre48] at C2
  have C3 := Lib.hid (fun W (hW : LaidE W) => parse_any (s.extract 0 d) (by simp only [ByteArray.size_extract]; omega) W hW)
  rw [HP.out] at C3
  clear hd hL hsl hc hE hb0
  by_cases hh : (digs (c :: r)).head? = some 48
  · rw [decide_eq_true hh] at C2
    by_cases h1 : 1 < d
    · have h1z : (1 : Int) < (d : Int) := by omega
      have HR := Lib.hid (num_plain0 HC.out hh (by rw [HDL.out]; exact h1))
      clear hh h1
      go_enter Tryd.func32, Tryd.ntmps32
      go_wp2_with fail
      refine (C.out _).mono ?_
      rintro e w1 ⟨rfl, rfl⟩
      go_wp2_with fail
      refine (C2.out _).mono ?_
      rintro e w1 ⟨rfl, rfl⟩
      go_wp2_with fail
      refine (amiss_any _).mono ?_
      rintro e w2 ⟨rfl, hb2⟩
      have B2 := Lib.hid (B0.out.trans (hb2.mono (by simp)))
      obtain ⟨c0, c1, c2, c3, cf, cl⟩ := K0.out.later hb2
      clear hb2
      unfold noTok
      go_wp2_with fail
      rw [HL.out, HR.out]
      refine bodyPost_ret (v := lexV 35 none) (by simp [results, Tryd.results32, go_sem, lexV, *]) rfl ⟨rfl, ?_⟩
      exact set4 B2.out (Nat.le_refl _) _ _ _ _
    · have h1z : ¬ (1 : Int) < (d : Int) := by omega
      have HR := Lib.hid (num_plain HC.out (fun x => h1 (by rw [← HDL.out]; exact x.2)))
      rw [HDL.out] at HR
      clear hh h1
      go_enter Tryd.func32, Tryd.ntmps32
      go_wp2_with fail
      refine (C.out _).mono ?_
      rintro e w1 ⟨rfl, rfl⟩
      go_wp2_with fail
      refine (C2.out _).mono ?_
      rintro e w1 ⟨rfl, rfl⟩
      go_wp2_with fail
      refine (C3.out _ E0.out).mono ?_
      rintro e w2 ⟨⟨v, hv⟩, hb2⟩
      have B2 := Lib.hid (B0.out.trans (hb2.mono (by simp)))
      have K2 := Lib.hid (K0.out.later hb2)
      clear hb2
      rcases hv with ⟨hv, rfl⟩ | ⟨hv, n, T, x, rfl⟩
      · have HV := Lib.hid (HR.out.1 v hv)
        clear hv
        obtain ⟨c0, c1, c2, c3, cf, cl⟩ := K2.out
        go_wp2_with fail
        rw [HL.out, HV.out]
        refine bodyPost_ret (v := lexV 35 _) (by simp [results, Tryd.results32, go_sem, lexV, *]) rfl ⟨rfl, ?_⟩
        exact set4 B2.out (Nat.le_refl _) _ _ _ _
      · have HV := Lib.hid (HR.out.2 hv)
        clear hv
        go_wp2_with fail
        refine (amiss_any _).mono ?_
        rintro e w3 ⟨rfl, hb3⟩
        have B3 := Lib.hid (B2.out.trans (hb3.mono B2.out.size))
        obtain ⟨c0, c1, c2, c3, cf, cl⟩ := K2.out.later hb3
        clear hb3
        unfold noTok
        go_wp2_with fail
        rw [HL.out, HV.out]
        refine bodyPost_ret (v := lexV 35 none) (by simp [results, Tryd.results32, go_sem, lexV, *]) rfl ⟨rfl, ?_⟩
        exact set4 B3.out (Nat.le_refl _) _ _ _ _
  · rw [decide_eq_false hh] at C2
    have HR := Lib.hid (num_plain HC.out (fun x => hh x.1))
    rw [HDL.out] at HR
    clear hh
    go_enter Tryd.func32, Tryd.ntmps32
    go_wp2_with fail
    refine (C.out _).mono ?_
    rintro e w1 ⟨rfl, rfl⟩
    go_wp2_with fail
    refine (C2.out _).mono ?_
    rintro e w1 ⟨rfl, rfl⟩
    go_wp2_with fail
    refine (C3.out _ E0.out).mono ?_
    rintro e w2 ⟨⟨v, hv⟩, hb2⟩
    have B2 := Lib.hid (B0.out.trans (hb2.mono (by simp)))
    have K2 := Lib.hid (K0.out.later hb2)
    clear hb2
    rcases hv with ⟨hv, rfl⟩ | ⟨hv, n, T, x, rfl⟩
    · have HV := Lib.hid (HR.out.1 v hv)
      clear hv
      obtain ⟨c0, c1, c2, c3, cf, cl⟩ := K2.out
      go_wp2_with fail
      rw [HL.out, HV.out]
      refine bodyPost_ret (v := lexV 35 _) (by simp [results, Tryd.results32, go_sem, lexV, *]) rfl ⟨rfl, ?_⟩
      exact set4 B2.out (Nat.le_refl _) _ _ _ _
    · have HV := Lib.hid (HR.out.2 hv)
      clear hv
      go_wp2_with fail
      refine (amiss_any _).mono ?_
      rintro e w3 ⟨rfl, hb3⟩
      have B3 := Lib.hid (B2.out.trans (hb3.mono B2.out.size))
      obtain ⟨c0, c1, c2, c3, cf, cl⟩ := K2.out.later hb3
      clear hb3
      unfold noTok
      go_wp2_with fail
      rw [HL.out, HV.out]
      refine bodyPost_ret (v := lexV 35 none) (by simp [results, Tryd.results32, go_sem, lexV, *]) rfl ⟨rfl, ?_⟩
      exact set4 B3.out (Nat.le_refl _) _ _ _ _
end Go.Proofs.YtjffnjiggcfhcaaDoor.Tk
/-
  Contract of first of package token: the token that a text begins with. Memory that was there is left as it was.
-/
namespace Go.Proofs.YtjffnjiggcfhcaaDoor.Tk
open Go.RowKit
set_option linter.unusedVariables false
set_option linter.unusedSimpArgs false

set_option maxHeartbeats 2000000 in
theorem first_any (s : ByteArray) (hs : s.size ≤ 1048576) (c : UInt8) (r : List UInt8) (hL : s.data.toList = c :: r) (w : World) (hE : LaidE w) :
    Calls Tryd.prog 21 #[.string s] w fun e w' => e = .returned (lexV 35 (lex (c :: r))) ∧ Below w.heap.size w w' := by
  have HL := Lib.hid hL
  have hsl : s.size = r.length + 1 := by rw [Lib.size_eq, hL]; rfl
  have h0s : 0 < s.size := by omega
  have h0z : (0 : Int) < (s.size : Int) := by omega
  have HSL := Lib.hid hsl
  have hb0 : s[0] = c := by
    have := Lib.data_getElem? s 0 h0s
    rw [hL] at this
    simpa using this.symm
  have K0 := Lib.hid (Blk.new w (.int .i64 0) (.int .i64 0) (.int .i64 0) (.string ⟨#[]⟩) 58)
  have B0 := Lib.hid ((Below.refl w.heap.size w).alloc (Nat.le_refl _) (.cells #[.int .i64 0, .int .i64 0, .int .i64 0, .string ⟨#[]⟩] 58))
  have E0 := Lib.hid (hE.later B0.out)
  have HLT := Lib.hid (fun W => letter_any c W)
  have HDT := Lib.hid (fun W => digit_any c W)
  clear hL hsl hE
  rw [lex_cons]
  by_cases h1 : low c = true
  · rw [if_pos h1]
    have H1 := Lib.hid h1; clear h1
    have HN := Lib.hid (fun W (hW : LaidE W) => name_any s hs W)
    try rw [HL.out] at HN
    cases ho : nameL (c :: r) with
    | none =>
      rw [ho] at HN
      clear ho
      simp only [lexV] at HN
      go_enter Tryd.func21, Tryd.ntmps21
      go_wp2_with fail
      try rw [hb0]
      refine (HLT.out _).mono ?_
      rintro e w1 ⟨rfl, rfl⟩
      rw [H1.out]
      go_wp2_with fail
      refine (HN.out _ E0.out).mono ?_
      rintro e w2 ⟨rfl, hb2⟩
      have B2 := Lib.hid (B0.out.trans (hb2.mono (by simp)))
      obtain ⟨c0, c1, c2, c3, cf, cl⟩ := K0.out.later hb2
      clear hb2
      go_wp2_with fail
      refine bodyPost_ret (v := lexV 35 none) (by simp [results, Tryd.results21, go_sem, lexV, *]) rfl ⟨rfl, ?_⟩
      exact set4 B2.out (Nat.le_refl _) _ _ _ _
    | some x =>
      rw [ho] at HN
      clear ho
      simp only [lexV] at HN
      go_enter Tryd.func21, Tryd.ntmps21
      go_wp2_with fail
      try rw [hb0]
      refine (HLT.out _).mono ?_
      rintro e w1 ⟨rfl, rfl⟩
      rw [H1.out]
      go_wp2_with fail
      refine (HN.out _ E0.out).mono ?_
      rintro e w2 ⟨rfl, hb2⟩
      have B2 := Lib.hid (B0.out.trans (hb2.mono (by simp)))
      obtain ⟨c0, c1, c2, c3, cf, cl⟩ := K0.out.later hb2
      clear hb2
      go_wp2_with fail
      refine bodyPost_ret (v := lexV 35 (some x)) (by simp [results, Tryd.results21, go_sem, lexV, *]) rfl ⟨rfl, ?_⟩
      exact set4 B2.out (Nat.le_refl _) _ _ _ _
  · rw [if_neg h1]
    have H1 := Lib.hid (show low c = false by simpa using h1); clear h1
    by_cases h2 : dig c = true
    · rw [h2, Bool.true_or, if_pos rfl]
      have H3 := Lib.hid (show ¬ c.toNat = 45 by simp only [dig, Bool.and_eq_true, decide_eq_true_eq] at h2; omega)
      have H2 := Lib.hid h2; clear h2
      have HN := Lib.hid (fun W (hW : LaidE W) => number_plain s hs c r HL.out H3.out W hW)
      try rw [HL.out] at HN
      cases ho : numL (c :: r) with
      | none =>
        rw [ho] at HN
        clear ho
        simp only [lexV] at HN
        go_enter Tryd.func21, Tryd.ntmps21
        go_wp2_with fail
        try rw [hb0]
        refine (HLT.out _).mono ?_
        rintro e w1 ⟨rfl, rfl⟩
        rw [H1.out]
        go_wp2_with fail
        refine (HDT.out _).mono ?_
        rintro e w1 ⟨rfl, rfl⟩
        rw [H2.out]
        go_wp2_with fail
        refine (HN.out _ E0.out).mono ?_
        rintro e w2 ⟨rfl, hb2⟩
        have B2 := Lib.hid (B0.out.trans (hb2.mono (by simp)))
        obtain ⟨c0, c1, c2, c3, cf, cl⟩ := K0.out.later hb2
        clear hb2
        go_wp2_with fail
        refine bodyPost_ret (v := lexV 35 none) (by simp [results, Tryd.results21, go_sem, lexV, *]) rfl ⟨rfl, ?_⟩
        exact set4 B2.out (Nat.le_refl _) _ _ _ _
      | some x =>
        rw [ho] at HN
        clear ho
        simp only [lexV] at HN
        go_enter Tryd.func21, Tryd.ntmps21
        go_wp2_with fail
        try rw [hb0]
        refine (HLT.out _).mono ?_
        rintro e w1 ⟨rfl, rfl⟩
        rw [H1.out]
        go_wp2_with fail
        refine (HDT.out _).mono ?_
        rintro e w1 ⟨rfl, rfl⟩
        rw [H2.out]
        go_wp2_with fail
        refine (HN.out _ E0.out).mono ?_
        rintro e w2 ⟨rfl, hb2⟩
        have B2 := Lib.hid (B0.out.trans (hb2.mono (by simp)))
        obtain ⟨c0, c1, c2, c3, cf, cl⟩ := K0.out.later hb2
        clear hb2
        go_wp2_with fail
        refine bodyPost_ret (v := lexV 35 (some x)) (by simp [results, Tryd.results21, go_sem, lexV, *]) rfl ⟨rfl, ?_⟩
        exact set4 B2.out (Nat.le_refl _) _ _ _ _
    · have h2f : dig c = false := by simpa using h2
      rw [h2f, Bool.false_or]
      have H2 := Lib.hid h2f; clear h2 h2f
      by_cases h3 : c.toNat = 45
      · rw [if_pos (show (c.toNat == 45) = true by rw [h3]; rfl)]
        have h3z : ((c.toNat : Nat) : Int) = 45 := by omega
        rw [h3z] at HLT HDT
        have H3 := Lib.hid h3; clear h3
        have HN := Lib.hid (fun W (hW : LaidE W) => number_minus s hs c r HL.out H3.out W hW)
        try rw [HL.out] at HN
        cases ho : numL (c :: r) with
        | none =>
          rw [ho] at HN
          clear ho
          simp only [lexV] at HN
          go_enter Tryd.func21, Tryd.ntmps21
          go_wp2_with fail
          try rw [hb0]
          refine (HLT.out _).mono ?_
          rintro e w1 ⟨rfl, rfl⟩
          rw [H1.out]
          go_wp2_with fail
          refine (HDT.out _).mono ?_
          rintro e w1 ⟨rfl, rfl⟩
          rw [H2.out]
          go_wp2_with fail
          refine (HN.out _ E0.out).mono ?_
          rintro e w2 ⟨rfl, hb2⟩
          have B2 := Lib.hid (B0.out.trans (hb2.mono (by simp)))
          obtain ⟨c0, c1, c2, c3, cf, cl⟩ := K0.out.later hb2
          clear hb2
          go_wp2_with fail
          refine bodyPost_ret (v := lexV 35 none) (by simp [results, Tryd.results21, go_sem, lexV, *]) rfl ⟨rfl, ?_⟩
          exact set4 B2.out (Nat.le_refl _) _ _ _ _
        | some x =>
          rw [ho] at HN
          clear ho
          simp only [lexV] at HN
          go_enter Tryd.func21, Tryd.ntmps21
          go_wp2_with fail
          try rw [hb0]
          refine (HLT.out _).mono ?_
          rintro e w1 ⟨rfl, rfl⟩
          rw [H1.out]
          go_wp2_with fail
          refine (HDT.out _).mono ?_
          rintro e w1 ⟨rfl, rfl⟩
          rw [H2.out]
          go_wp2_with fail
          refine (HN.out _ E0.out).mono ?_
          rintro e w2 ⟨rfl, hb2⟩
          have B2 := Lib.hid (B0.out.trans (hb2.mono (by simp)))
          obtain ⟨c0, c1, c2, c3, cf, cl⟩ := K0.out.later hb2
          clear hb2
          go_wp2_with fail
          refine bodyPost_ret (v := lexV 35 (some x)) (by simp [results, Tryd.results21, go_sem, lexV, *]) rfl ⟨rfl, ?_⟩
          exact set4 B2.out (Nat.le_refl _) _ _ _ _
      · rw [if_neg (fun h => h3 (eq_of_beq h))]
        have h3z : ¬ ((c.toNat : Nat) : Int) = 45 := by omega
        have H3 := Lib.hid h3; clear h3
        by_cases h4 : c.toNat = 34
        · rw [if_pos (show (c.toNat == 34) = true by rw [h4]; rfl)]
          have h4z : ((c.toNat : Nat) : Int) = 34 := by omega
          rw [h4z] at HLT HDT
          clear h4 h3z
          have HN := Lib.hid (fun W (hW : LaidE W) => text_any s hs c r HL.out W)
          try rw [HL.out] at HN
          cases ho : textL r with
          | none =>
            rw [ho] at HN
            clear ho
            simp only [lexV] at HN
            go_enter Tryd.func21, Tryd.ntmps21
            go_wp2_with fail
            try rw [hb0]
            refine (HLT.out _).mono ?_
            rintro e w1 ⟨rfl, rfl⟩
            rw [H1.out]
            go_wp2_with fail
            refine (HDT.out _).mono ?_
            rintro e w1 ⟨rfl, rfl⟩
            rw [H2.out]
            go_wp2_with fail
            refine (HN.out _ E0.out).mono ?_
            rintro e w2 ⟨rfl, hb2⟩
            have B2 := Lib.hid (B0.out.trans (hb2.mono (by simp)))
            obtain ⟨c0, c1, c2, c3, cf, cl⟩ := K0.out.later hb2
            clear hb2
            go_wp2_with fail
            refine bodyPost_ret (v := lexV 35 none) (by simp [results, Tryd.results21, go_sem, lexV, *]) rfl ⟨rfl, ?_⟩
            exact set4 B2.out (Nat.le_refl _) _ _ _ _
          | some x =>
            rw [ho] at HN
            clear ho
            simp only [lexV] at HN
            go_enter Tryd.func21, Tryd.ntmps21
            go_wp2_with fail
            try rw [hb0]
            refine (HLT.out _).mono ?_
            rintro e w1 ⟨rfl, rfl⟩
            rw [H1.out]
            go_wp2_with fail
            refine (HDT.out _).mono ?_
            rintro e w1 ⟨rfl, rfl⟩
            rw [H2.out]
            go_wp2_with fail
            refine (HN.out _ E0.out).mono ?_
            rintro e w2 ⟨rfl, hb2⟩
            have B2 := Lib.hid (B0.out.trans (hb2.mono (by simp)))
            obtain ⟨c0, c1, c2, c3, cf, cl⟩ := K0.out.later hb2
            clear hb2
            go_wp2_with fail
            refine bodyPost_ret (v := lexV 35 (some x)) (by simp [results, Tryd.results21, go_sem, lexV, *]) rfl ⟨rfl, ?_⟩
            exact set4 B2.out (Nat.le_refl _) _ _ _ _
        · rw [if_neg (fun h => h4 (eq_of_beq h))]
          have h4z : ¬ ((c.toNat : Nat) : Int) = 34 := by omega
          clear h4
          have HN := Lib.hid (fun W (hW : LaidE W) => sign_any s h0s W)
          try rw [HL.out] at HN
          cases ho : signL (c :: r) with
          | none =>
            rw [ho] at HN
            clear ho
            simp only [lexV] at HN
            go_enter Tryd.func21, Tryd.ntmps21
            go_wp2_with fail
            try rw [hb0]
            refine (HLT.out _).mono ?_
            rintro e w1 ⟨rfl, rfl⟩
            rw [H1.out]
            go_wp2_with fail
            refine (HDT.out _).mono ?_
            rintro e w1 ⟨rfl, rfl⟩
            rw [H2.out]
            go_wp2_with fail
            refine (HN.out _ E0.out).mono ?_
            rintro e w2 ⟨rfl, hb2⟩
            have B2 := Lib.hid (B0.out.trans (hb2.mono (by simp)))
            obtain ⟨c0, c1, c2, c3, cf, cl⟩ := K0.out.later hb2
            clear hb2
            go_wp2_with fail
            refine bodyPost_ret (v := lexV 35 none) (by simp [results, Tryd.results21, go_sem, lexV, *]) rfl ⟨rfl, ?_⟩
            exact set4 B2.out (Nat.le_refl _) _ _ _ _
          | some x =>
            rw [ho] at HN
            clear ho
            simp only [lexV] at HN
            go_enter Tryd.func21, Tryd.ntmps21
            go_wp2_with fail
            try rw [hb0]
            refine (HLT.out _).mono ?_
            rintro e w1 ⟨rfl, rfl⟩
            rw [H1.out]
            go_wp2_with fail
            refine (HDT.out _).mono ?_
            rintro e w1 ⟨rfl, rfl⟩
            rw [H2.out]
            go_wp2_with fail
            refine (HN.out _ E0.out).mono ?_
            rintro e w2 ⟨rfl, hb2⟩
            have B2 := Lib.hid (B0.out.trans (hb2.mono (by simp)))
            obtain ⟨c0, c1, c2, c3, cf, cl⟩ := K0.out.later hb2
            clear hb2
            go_wp2_with fail
            refine bodyPost_ret (v := lexV 35 (some x)) (by simp [results, Tryd.results21, go_sem, lexV, *]) rfl ⟨rfl, ?_⟩
            exact set4 B2.out (Nat.le_refl _) _ _ _ _
end Go.Proofs.YtjffnjiggcfhcaaDoor.Tk
namespace Go.Proofs.YtjffnjiggcfhcaaDoor.Tk
open Go.RowKit
set_option linter.unusedVariables false

def cellT (t : Tok) : List Value := [.int .i64 t.kind, .int .i64 (t.pos : Nat), .int .i64 t.num, .string ⟨t.str.toArray⟩]
def cellsT (ts : List Tok) : List Value := ts.flatMap cellT
theorem cellsT_app (ts : List Tok) (t : Tok) : cellsT (ts ++ [t]) = cellsT ts ++ cellT t := by unfold cellsT; simp
theorem cellsT_get : ∀ (ts : List Tok) (k : Nat) (h : k < ts.length) (j : Nat), j < 4 → (cellsT ts)[k * 4 + j]? = (cellT ts[k])[j]?
  | [], _, h, _, _ => by simp at h
  | t :: ts, 0, _, j, hj => by
    have e : cellsT (t :: ts) = cellT t ++ cellsT ts := rfl
    rw [e, Nat.zero_mul, Nat.zero_add, List.getElem?_append_left (by simpa [cellT] using hj)]
    rfl
  | t :: ts, k + 1, h, j, hj => by
    have := cellsT_get ts k (by simpa using h) j hj
    have e : cellsT (t :: ts) = cellT t ++ cellsT ts := rfl
    rw [e, List.getElem?_append_right (by simp [cellT]; omega), show (k + 1) * 4 + j - (cellT t).length = k * 4 + j by simp [cellT]; omega, this]
    rfl
theorem own4_lt {W : World} {base n : Nat} {t : TypeId} {v : Value} {xs : List Value} (h : W.ownsRow base t 4 v n xs) {g : Nat} (hg : v.ownBlock = some g) : g < W.heap.size ∧ base ≤ g := by
  rcases h.2 with ⟨rfl, _⟩ | ⟨g', cap, cur, rfl, hb, hh, _⟩
  · simp [Value.ownBlock] at hg
  · simp [Value.ownBlock] at hg
    subst hg
    exact ⟨(Array.getElem?_eq_some_iff.1 hh).1, hb⟩
theorem own4_later {W w1 : World} {base n : Nat} {t : TypeId} {v : Value} {xs : List Value} (h : W.ownsRow base t 4 v n xs) (hb : Below W.heap.size W w1) : w1.ownsRow base t 4 v n xs :=
  h.kept (row := none) ⟨hb.os, hb.tape, hb.output, hb.size, fun k hk _ => hb.block k hk⟩ (by cases v.ownBlock <;> simp)
theorem own4_below {W w1 v : World} {n : Nat} {t : TypeId} {u : Value} {xs : List Value} (hB : Below v.heap.size v W) (h : W.ownsRow v.heap.size t 4 u n xs) (hg : W.grownBy w1 u.ownBlock) : Below v.heap.size v w1 :=
  hB.grown hg hB.size fun k hk => (own4_lt h hk).2
theorem own4_wide {W : World} {base base' n : Nat} {t : TypeId} {v : Value} {xs : List Value} (h : W.ownsRow base t 4 v n xs) (hb : base' ≤ base) : W.ownsRow base' t 4 v n xs := by
  rcases h with ⟨h1, h2 | ⟨g, cap, cur, e, h3, h4⟩⟩
  · exact ⟨h1, Or.inl h2⟩
  · exact ⟨h1, Or.inr ⟨g, cap, cur, e, by omega, h4⟩⟩
theorem news4 (W : World) (x y z u : Value) (t : TypeId) : ∀ j v, ([x, y, z, u] : List Value)[j]? = some v → (W.alloc (.cells #[x, y, z, u] t)).cell? ((⟨W.heap.size, 0, none⟩ : Addr).add j) = some v := by
  intro j v hj
  match j, hj with
  | 0, hj => simp at hj; subst hj; simp [Addr.add, go_sem]
  | 1, hj => simp at hj; subst hj; simp [Addr.add, go_sem]
  | 2, hj => simp at hj; subst hj; simp [Addr.add, go_sem]
  | 3, hj => simp at hj; subst hj; simp [Addr.add, go_sem]
  | j + 4, hj => simp at hj
theorem one4 (a b c : Int) (s : ByteArray) : ∀ u ∈ ([.int .i64 a, .int .i64 b, .int .i64 c, .string s] : List Value), u.oneCell' = true := by
  intro u hu
  simp at hu
  rcases hu with rfl | rfl | rfl | rfl <;> rfl
theorem info_cut {P : Program} {t : TypeId} {z : Value} {s b : Nat} (h : (P.info? t).map (fun i => (i.zero, i.size, i.bytes)) = some (some z, s, b)) : ∃ i, P.info? t = some i ∧ i.zero = some z ∧ i.size = s ∧ i.bytes = b := by
  cases e : P.info? t with
  | none => rw [e] at h; simp at h
  | some i => rw [e] at h; simp at h; exact ⟨i, rfl, h.1, h.2.1, h.2.2⟩
def nOf : Value → Nat | .int _ n => n.toNat | _ => 0

theorem str_bound {s : ByteArray} {a n : Nat} {l : List UInt8} (hq : (s.extract a s.size).data.toList = l) (h5 : s.size ≤ 500) (h : n ≤ l.length) : n ≤ 1048576 := by
  have h9 : l.length = (s.extract a s.size).size := by rw [Lib.size_eq, hq]
  simp only [ByteArray.size_extract] at h9
  omega
/-- Between the rounds of a cut's loop: so far ts has been cut. -/
def CutR (w : World) (t : TypeId) (L : List UInt8) (va vl : Value) (wr : World) : Prop :=
  ∃ (a : Nat) (ts : List Tok), va = .int .i64 a ∧ a ≤ L.length ∧ Hid (cutAt 0 L = (cutAt a (L.drop a)).map (ts ++ ·)) ∧ ts.length ≤ a ∧ wr.ownsRow w.heap.size t 4 vl ts.length (cellsT ts) ∧ Below w.heap.size w wr
/-- What is told of a cut. -/
def CutEnd (w w' : World) (t : TypeId) (bad good : Value) (e : Ending) : Option (List Tok) → Prop
  | none => e = .returned (.tuple #[.slice none 0 0, bad])
  | some ts => ∃ u, e = .returned (.tuple #[u, good]) ∧ w'.ownsRow w.heap.size t 4 u ts.length (cellsT ts)
theorem cut_step {L : List UInt8} {a : Nat} {ts : List Tok} {c : UInt8} {r : List UInt8} {x : Lx} (h : cutAt 0 L = (cutAt a (L.drop a)).map (ts ++ ·)) (hL : L.drop a = c :: r) (hc : ¬ c.toNat = 32) (hx : lex (c :: r) = some x) :
    a + x.size ≤ L.length ∧ 1 ≤ x.size ∧ cutAt 0 L = (cutAt (a + x.size) (L.drop (a + x.size))).map ((ts ++ [⟨x.kind, a, x.num, x.str⟩]) ++ ·) := by
  have hz := lex_size hx
  have hl : (L.drop a).length = (c :: r).length := by rw [hL]
  rw [List.length_drop] at hl
  refine ⟨by omega, hz.1, ?_⟩
  rw [h, hL, cutAt_some hc a r hx, Option.map_map, ← hL, List.drop_drop]
  congr 1
  funext us
  simp
theorem cut_space {L : List UInt8} {a : Nat} {ts : List Tok} {c : UInt8} {r : List UInt8} (h : cutAt 0 L = (cutAt a (L.drop a)).map (ts ++ ·)) (hL : L.drop a = c :: r) (hc : c.toNat = 32) :
    cutAt 0 L = (cutAt (a + 1) (L.drop (a + 1))).map (ts ++ ·) := by
  have hr : L.drop (a + 1) = r := by rw [← List.drop_drop, hL]; rfl
  rw [h, hL, cutAt_space hc, hr]
theorem cut_bad {L : List UInt8} {a : Nat} {ts : List Tok} {c : UInt8} {r : List UInt8} (h : cutAt 0 L = (cutAt a (L.drop a)).map (ts ++ ·)) (hL : L.drop a = c :: r) (hc : ¬ c.toNat = 32) (hx : lex (c :: r) = none) : cutAt 0 L = none := by
  rw [h, hL, cutAt_none hc a r hx]
  rfl
theorem cut_all {L : List UInt8} {a : Nat} {ts : List Tok} (h : cutAt 0 L = (cutAt a (L.drop a)).map (ts ++ ·)) (ha : a = L.length) : cutAt 0 L = some ts := by
  rw [h, ha, List.drop_length, cutAt_nil]
  simp
end Go.Proofs.YtjffnjiggcfhcaaDoor.Tk
