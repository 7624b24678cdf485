/-
  Contract of number of package token: the number that a text begins with, by a digit or a -. Memory that was there is left as it was; the package variables ErrSyntax and ErrRange of strconv hold interface values.
-/
import Derived.Test.YtmjlfmoaoobmnaaDoorTkRow
import Derived.Test.YtmjlfmoaoobmnaaDoorTkKit
import Derived.Test.YtmjlfmoaoobmnaaDoorTkShelf
import Derived.WalkSmall
namespace Go.Proofs.YtmjlfmoaoobmnaaDoor.Tk
open Go.RowKit
set_option linter.unusedVariables false
set_option linter.unusedSimpArgs false

/-- strconv's two errors are there. -/
def LaidE (w : World) : Prop := ∃ (tp tq : TypeId) (p q : Value), w.var? Tryd.prog "strconv.ErrSyntax" = some #[.iface tp p] ∧ w.var? Tryd.prog "strconv.ErrRange" = some #[.iface tq q]
theorem gSyn : Tryd.prog.globalNamed "strconv.ErrSyntax" = some 0 := by kernel_rfl
theorem gRng : Tryd.prog.globalNamed "strconv.ErrRange" = some 1 := by kernel_rfl
theorem LaidE.later {w V : World} (h : LaidE w) (hb : Below w.heap.size w V) : LaidE V := by
  obtain ⟨tp, tq, p, q, h1, h2⟩ := h
  have l1 : 0 < w.heap.size := by
    have := World.var?_cell gSyn h1 0
    exact World.block_lt_of_cell? _ _ (this.trans (by rfl : (#[Value.iface tp p] : Array Value)[0]? = some (.iface tp p)))
  have l2 : 1 < w.heap.size := by
    have := World.var?_cell gRng h2 0
    exact World.block_lt_of_cell? _ _ (this.trans (by rfl : (#[Value.iface tq q] : Array Value)[0]? = some (.iface tq q)))
  exact ⟨tp, tq, p, q, var?_below hb gSyn l1 h1, var?_below hb gRng l2 h2⟩
/-- What strconv.ParseInt answers, and that it leaves alone what was there. -/
theorem parse_any (s : ByteArray) (hs : s.size ≤ 1048576) (w : World) (hE : LaidE w) : Calls Tryd.prog 29 #[.string s, .int .i64 10, .int .i64 64] w fun e w' =>
    (∃ v, Lib.parseIntB 64 s.data.toList = .ok v ∧ e = .returned (.tuple #[.int .i64 v, .nilIface]) ∨ (∀ u, Lib.parseIntB 64 s.data.toList ≠ .ok u) ∧ ∃ (n : Int) (T : TypeId) (x : Value), e = .returned (.tuple #[.int .i64 n, .iface T x])) ∧ Below w.heap.size w w' := by
  obtain ⟨tp, tq, p, q, h1, h2⟩ := hE
  by_cases hv : ∃ v, Lib.parseIntB 64 s.data.toList = Lib.NumEnd.ok v
  · obtain ⟨v, h⟩ := hv
    refine (Tryd.strconv_ParseInt_10_at64_ok s (by omega) v h w).mono ?_
    rintro e w' ⟨rfl, hw⟩
    refine ⟨⟨v, Or.inl ⟨h, rfl⟩⟩, ?_⟩
    rcases hw with rfl | ⟨t, rfl⟩
    · exact Below.refl _ _
    · exact Lib.bytesWorld_below ..
  · have hn : ∀ u, Lib.parseIntB 64 s.data.toList ≠ Lib.NumEnd.ok u := fun u hu => hv ⟨u, hu⟩
    by_cases hs2 : Lib.parseIntB 64 s.data.toList = Lib.NumEnd.syntax
    · refine (Tryd.strconv_ParseInt_10_at64_syntax_var s (by omega) hs2 tp p w h1).mono ?_
      rintro e w' ⟨N, rfl, _, _, hb⟩
      exact ⟨⟨0, Or.inr ⟨hn, _, _, _, rfl⟩⟩, hb⟩
    · have h : Lib.parseIntB 64 s.data.toList = Lib.NumEnd.range := by
        revert hn hs2
        cases Lib.parseIntB 64 s.data.toList
        · intro hn _
          exact absurd rfl (hn _)
        · intro _ h
          exact absurd rfl h
        · intro _ _
          rfl
      refine (Tryd.strconv_ParseInt_10_at64_range_var s (by omega) h tq q w h2).mono ?_
      rintro e w' ⟨N, rfl, _, _, hb⟩
      exact ⟨⟨0, Or.inr ⟨hn, _, _, _, rfl⟩⟩, hb⟩

theorem digs_all (l : List UInt8) : ∀ c ∈ digs l, dig c = true := take_run_all dig l
theorem pre48 (l : List UInt8) : Lib.hasPrefix l [48] = decide (l.head? = some 48) := by
  cases l with
  | nil => rfl
  | cons c r =>
    rw [Bool.eq_iff_iff, decide_eq_true_iff]
    show ((48 == c) && true) = true ↔ some c = some 48
    rw [Bool.and_true, beq_iff_eq, Option.some_inj]
    exact eq_comm
theorem numL_minus {c : UInt8} {r : List UInt8} (hc : c.toNat = 45) : numL (c :: r) = if digs r = [] ∨ (digs r).head? = some 48 ∨ 9223372036854775808 < decV (digs r) then none else some ⟨3, -(decV (digs r) : Int), [], (digs r).length + 1⟩ := by
  rw [numL_cons, if_pos (by rw [hc]; rfl)]
theorem numL_plain {c : UInt8} {r : List UInt8} (hc : ¬ c.toNat = 45) : numL (c :: r) = if digs (c :: r) = [] ∨ (1 < (digs (c :: r)).length ∧ (digs (c :: r)).head? = some 48) ∨ 9223372036854775808 ≤ decV (digs (c :: r)) then none else some ⟨3, decV (digs (c :: r)), [], (digs (c :: r)).length⟩ := by
  rw [numL_cons, if_neg (fun h => hc (eq_of_beq h))]
theorem num_minus0 {c : UInt8} {r : List UInt8} (hc : c.toNat = 45) (h : (digs r).head? = some 48) : numL (c :: r) = none := by
  rw [numL_minus hc, if_pos (Or.inr (Or.inl h))]
theorem num_minus {c : UInt8} {r : List UInt8} (hc : c.toNat = 45) (h : ¬ (digs r).head? = some 48) :
    (∀ v, Lib.parseIntB 64 ((45 : UInt8) :: digs r) = .ok v → numL (c :: r) = some ⟨3, v, [], (digs r).length + 1⟩) ∧ ((∀ u, Lib.parseIntB 64 ((45 : UInt8) :: digs r) ≠ .ok u) → numL (c :: r) = none) := by
  rw [numL_minus hc, parse_minus (digs_all r)]
  by_cases h0 : digs r = []
  · rw [if_pos h0, if_pos (Or.inl h0)]
    exact ⟨fun v e => (by cases e), fun _ => rfl⟩
  · rw [if_neg h0]
    by_cases h1 : 9223372036854775808 < decV (digs r)
    · rw [if_pos h1, if_pos (Or.inr (Or.inr h1))]
      exact ⟨fun v e => (by cases e), fun _ => rfl⟩
    · rw [if_neg h1, if_neg (by rintro (a | a | a) <;> contradiction)]
      exact ⟨fun v e => (by cases e; rfl), fun e => absurd rfl (e _)⟩
theorem num_plain0 {c : UInt8} {r : List UInt8} (hc : ¬ c.toNat = 45) (h : (digs (c :: r)).head? = some 48) (h1 : 1 < (digs (c :: r)).length) : numL (c :: r) = none := by
  rw [numL_plain hc, if_pos (Or.inr (Or.inl ⟨h1, h⟩))]
theorem num_plain {c : UInt8} {r : List UInt8} (hc : ¬ c.toNat = 45) (h : ¬ ((digs (c :: r)).head? = some 48 ∧ 1 < (digs (c :: r)).length)) :
    (∀ v, Lib.parseIntB 64 (digs (c :: r)) = .ok v → numL (c :: r) = some ⟨3, v, [], (digs (c :: r)).length⟩) ∧ ((∀ u, Lib.parseIntB 64 (digs (c :: r)) ≠ .ok u) → numL (c :: r) = none) := by
  rw [numL_plain hc]
  by_cases h0 : digs (c :: r) = []
  · rw [if_pos (Or.inl h0), h0]
    exact ⟨fun v e => (by cases e), fun _ => rfl⟩
  · rw [parse_plain (digs_all _) h0]
    by_cases h1 : 9223372036854775808 ≤ decV (digs (c :: r))
    · rw [if_pos h1, if_pos (Or.inr (Or.inr h1))]
      exact ⟨fun v e => (by cases e), fun _ => rfl⟩
    · rw [if_neg h1, if_neg]
      · exact ⟨fun v e => (by cases e; rfl), fun e => absurd rfl (e _)⟩
      · rintro (a | a | a)
        · exact h0 a
        · exact h ⟨a.2, a.1⟩
        · exact h1 a

set_option maxHeartbeats 2000000 in
theorem number_minus (s : ByteArray) (hs : s.size ≤ 1048576) (c : UInt8) (r : List UInt8) (hL : s.data.toList = c :: r) (hc : c.toNat = 45) (w : World) (hE : LaidE w) :
    Calls Tryd.prog 17 #[.string s] w fun e w' => e = .returned (lexV 37 (numL s.data.toList)) ∧ Below w.heap.size w w' := by
  have HL := Lib.hid hL
  have hsl : s.size = r.length + 1 := by rw [Lib.size_eq, hL]; rfl
  have h1z : (1 : Int) ≤ (s.size : Int) := by omega
  have h0s : 0 < s.size := by omega
  have h0z : (0 : Int) < (s.size : Int) := by omega
  have HSL := Lib.hid hsl
  have hb0 : s[0] = c := by
    have := Lib.data_getElem? s 0 h0s
    rw [hL] at this
    simpa using this.symm
  have hb1 : ((s[0].toNat : Nat) : Int) = 45 := by rw [hb0, hc]; rfl
  have HT := Lib.hid (show (s.extract 1 s.size).data.toList = r by rw [Lib.extract_to_end, HL.out]; rfl)
  have HC := Lib.hid hc
  have K0 := Lib.hid (Blk.new w (.int .i64 0) (.int .i64 0) (.int .i64 0) (.string ⟨#[]⟩) 36)
  have B0 := Lib.hid ((Below.refl w.heap.size w).alloc (Nat.le_refl _) (.cells #[.int .i64 0, .int .i64 0, .int .i64 0, .string ⟨#[]⟩] 36))
  have E0 := Lib.hid (hE.later B0.out)
  have C := Lib.hid (fun W => rowDigit_any (s.extract 1 s.size) (by simp only [ByteArray.size_extract]; omega) W)
  rw [HT.out] at C
  obtain ⟨d, hd⟩ : ∃ d, run dig r = d := ⟨_, rfl⟩
  have hdl : (1 : Int) + (d : Int) ≤ (s.size : Int) := by have := run_le dig r; omega
  have HD := Lib.hid hd
  rw [hd] at C
  have e1 : ((1 : Int) + (d : Int)).toNat = d + 1 := by omega
  have HDR := Lib.hid (show digs r = r.take d by unfold digs; rw [hd])
  have HDL := Lib.hid (show (digs r).length = d by rw [digs_len, hd])
  have HP := Lib.hid (show (s.extract 1 (d + 1)).data.toList = digs r by rw [Lib.extract_data, HL.out, HDR.out]; simp)
  have HA := Lib.hid (show (s.extract 0 (d + 1)).data.toList = 45 :: digs r by rw [take_data, HL.out, HDR.out, List.take_succ_cons]; congr 1; exact UInt8.toNat_inj.1 HC.out)
  have C2 := Lib.hid (fun W => Tryd.strings_HasPrefix (s.extract 1 (d + 1)) ⟨#[48]⟩ W)
  rw [HP.out, show (⟨#[48]⟩ : ByteArray).data.toList = [48] from rfl, pre48] at C2
  have C3 := Lib.hid (fun W (hW : LaidE W) => parse_any (s.extract 0 (d + 1)) (by simp only [ByteArray.size_extract]; omega) W hW)
  rw [HA.out] at C3
  clear hd hL hsl hc hE hb0
  by_cases hh : (digs r).head? = some 48
  · rw [decide_eq_true hh] at C2
    have HR := Lib.hid (num_minus0 HC.out hh)
    have hd0 : (1 : Int) < (1 : Int) + (d : Int) := by
      have := HDL.out
      cases he : digs r with
      | nil => rw [he] at hh; simp at hh
      | cons x l => rw [he] at this; simp at this; omega
    clear hh
    go_enter Tryd.func17, Tryd.ntmps17
    go_wp2_with fail
    refine (C.out _).mono ?_
    rintro e w1 ⟨rfl, rfl⟩
    go_wp2_with fail
    refine (C2.out _).mono ?_
    rintro e w1 ⟨rfl, rfl⟩
    go_wp2_with fail
    refine (amiss_any _).mono ?_
    rintro e w2 ⟨rfl, hb2⟩
    have B2 := Lib.hid (B0.out.trans (hb2.mono (by simp)))
    obtain ⟨c0, c1, c2, c3, cf, cl⟩ := K0.out.later hb2
    clear hb2
    unfold noTok
    go_wp2_with fail
    rw [HL.out, HR.out]
    refine bodyPost_ret (v := lexV 37 none) (by simp [results, Tryd.results17, go_sem, lexV, *]) rfl ⟨rfl, ?_⟩
    exact set4 B2.out (Nat.le_refl _) _ _ _ _
  · rw [decide_eq_false hh] at C2
    have HR := Lib.hid (num_minus HC.out hh)
    rw [HDL.out] at HR
    clear hh
    go_enter Tryd.func17, Tryd.ntmps17
    go_wp2_with fail
    refine (C.out _).mono ?_
    rintro e w1 ⟨rfl, rfl⟩
    go_wp2_with fail
    refine (C2.out _).mono ?_
    rintro e w1 ⟨rfl, rfl⟩
    go_wp2_with fail
    refine (C3.out _ E0.out).mono ?_
    rintro e w2 ⟨⟨v, hv⟩, hb2⟩
    have B2 := Lib.hid (B0.out.trans (hb2.mono (by simp)))
    have K2 := Lib.hid (K0.out.later hb2)
    clear hb2
    rcases hv with ⟨hv, rfl⟩ | ⟨hv, n, T, x, rfl⟩
    · have HV := Lib.hid (HR.out.1 v hv)
      clear hv
      obtain ⟨c0, c1, c2, c3, cf, cl⟩ := K2.out
      go_wp2_with fail
      rw [HL.out, HV.out]
      refine bodyPost_ret (v := lexV 37 _) (by simp [results, Tryd.results17, go_sem, lexV, *]; omega) rfl ⟨rfl, ?_⟩
      exact set4 B2.out (Nat.le_refl _) _ _ _ _
    · have HV := Lib.hid (HR.out.2 hv)
      clear hv
      go_wp2_with fail
      refine (amiss_any _).mono ?_
      rintro e w3 ⟨rfl, hb3⟩
      have B3 := Lib.hid (B2.out.trans (hb3.mono B2.out.size))
      obtain ⟨c0, c1, c2, c3, cf, cl⟩ := K2.out.later hb3
      clear hb3
      unfold noTok
      go_wp2_with fail
      rw [HL.out, HV.out]
      refine bodyPost_ret (v := lexV 37 none) (by simp [results, Tryd.results17, go_sem, lexV, *]) rfl ⟨rfl, ?_⟩
      exact set4 B3.out (Nat.le_refl _) _ _ _ _

set_option maxHeartbeats 2000000 in
theorem number_plain (s : ByteArray) (hs : s.size ≤ 1048576) (c : UInt8) (r : List UInt8) (hL : s.data.toList = c :: r) (hc : ¬ c.toNat = 45) (w : World) (hE : LaidE w) :
    Calls Tryd.prog 17 #[.string s] w fun e w' => e = .returned (lexV 37 (numL s.data.toList)) ∧ Below w.heap.size w w' := by
  have HL := Lib.hid hL
  have hsl : s.size = r.length + 1 := by rw [Lib.size_eq, hL]; rfl
  have h0s : 0 < s.size := by omega
  have h0z : (0 : Int) < (s.size : Int) := by omega
  have HSL := Lib.hid hsl
  have hb0 : s[0] = c := by
    have := Lib.data_getElem? s 0 h0s
    rw [hL] at this
    simpa using this.symm
  have hb1 : ¬ ((s[0].toNat : Nat) : Int) = 45 := by rw [hb0]; omega
  have HC := Lib.hid hc
  have K0 := Lib.hid (Blk.new w (.int .i64 0) (.int .i64 0) (.int .i64 0) (.string ⟨#[]⟩) 36)
  have B0 := Lib.hid ((Below.refl w.heap.size w).alloc (Nat.le_refl _) (.cells #[.int .i64 0, .int .i64 0, .int .i64 0, .string ⟨#[]⟩] 36))
  have E0 := Lib.hid (hE.later B0.out)
  have C := Lib.hid (fun W => rowDigit_any s hs W)
  rw [HL.out] at C
  obtain ⟨d, hd⟩ : ∃ d, run dig (c :: r) = d := ⟨_, rfl⟩
  have hdl : (d : Int) ≤ (s.size : Int) := by have := run_le dig (c :: r); simp only [List.length_cons] at this; omega
  have HD := Lib.hid hd
  rw [hd] at C
  have HDR := Lib.hid (show digs (c :: r) = (c :: r).take d by unfold digs; rw [hd])
  have HDL := Lib.hid (show (digs (c :: r)).length = d by rw [digs_len, hd])
  have HP := Lib.hid (show (s.extract 0 d).data.toList = digs (c :: r) by rw [take_data, HL.out, HDR.out])
  have C2 := Lib.hid (fun W => Tryd.strings_HasPrefix (s.extract 0 d) ⟨#[48]⟩ W)
  rw [HP.out, show (⟨#[48]⟩ : ByteArray).data.toList = [48] from rfl, pre48] at C2
  have C3 := Lib.hid (fun W (hW : LaidE W) => parse_any (s.extract 0 d) (by simp only [ByteArray.size_extract]; omega) W hW)
  rw [HP.out] at C3
  clear hd hL hsl hc hE hb0
  by_cases hh : (digs (c :: r)).head? = some 48
  · rw [decide_eq_true hh] at C2
    by_cases h1 : 1 < d
    · have h1z : (1 : Int) < (d : Int) := by omega
      have HR := Lib.hid (num_plain0 HC.out hh (by rw [HDL.out]; exact h1))
      clear hh h1
      go_enter Tryd.func17, Tryd.ntmps17
      go_wp2_with fail
      refine (C.out _).mono ?_
      rintro e w1 ⟨rfl, rfl⟩
      go_wp2_with fail
      refine (C2.out _).mono ?_
      rintro e w1 ⟨rfl, rfl⟩
      go_wp2_with fail
      refine (amiss_any _).mono ?_
      rintro e w2 ⟨rfl, hb2⟩
      have B2 := Lib.hid (B0.out.trans (hb2.mono (by simp)))
      obtain ⟨c0, c1, c2, c3, cf, cl⟩ := K0.out.later hb2
      clear hb2
      unfold noTok
      go_wp2_with fail
      rw [HL.out, HR.out]
      refine bodyPost_ret (v := lexV 37 none) (by simp [results, Tryd.results17, go_sem, lexV, *]) rfl ⟨rfl, ?_⟩
      exact set4 B2.out (Nat.le_refl _) _ _ _ _
    · have h1z : ¬ (1 : Int) < (d : Int) := by omega
      have HR := Lib.hid (num_plain HC.out (fun x => h1 (by rw [← HDL.out]; exact x.2)))
      rw [HDL.out] at HR
      clear hh h1
      go_enter Tryd.func17, Tryd.ntmps17
      go_wp2_with fail
      refine (C.out _).mono ?_
      rintro e w1 ⟨rfl, rfl⟩
      go_wp2_with fail
      refine (C2.out _).mono ?_
      rintro e w1 ⟨rfl, rfl⟩
      go_wp2_with fail
      refine (C3.out _ E0.out).mono ?_
      rintro e w2 ⟨⟨v, hv⟩, hb2⟩
      have B2 := Lib.hid (B0.out.trans (hb2.mono (by simp)))
      have K2 := Lib.hid (K0.out.later hb2)
      clear hb2
      rcases hv with ⟨hv, rfl⟩ | ⟨hv, n, T, x, rfl⟩
      · have HV := Lib.hid (HR.out.1 v hv)
        clear hv
        obtain ⟨c0, c1, c2, c3, cf, cl⟩ := K2.out
        go_wp2_with fail
        rw [HL.out, HV.out]
        refine bodyPost_ret (v := lexV 37 _) (by simp [results, Tryd.results17, go_sem, lexV, *]) rfl ⟨rfl, ?_⟩
        exact set4 B2.out (Nat.le_refl _) _ _ _ _
      · have HV := Lib.hid (HR.out.2 hv)
        clear hv
        go_wp2_with fail
        refine (amiss_any _).mono ?_
        rintro e w3 ⟨rfl, hb3⟩
        have B3 := Lib.hid (B2.out.trans (hb3.mono B2.out.size))
        obtain ⟨c0, c1, c2, c3, cf, cl⟩ := K2.out.later hb3
        clear hb3
        unfold noTok
        go_wp2_with fail
        rw [HL.out, HV.out]
        refine bodyPost_ret (v := lexV 37 none) (by simp [results, Tryd.results17, go_sem, lexV, *]) rfl ⟨rfl, ?_⟩
        exact set4 B3.out (Nat.le_refl _) _ _ _ _
  · rw [decide_eq_false hh] at C2
    have HR := Lib.hid (num_plain HC.out (fun x => hh x.1))
    rw [HDL.out] at HR
    clear hh
    go_enter Tryd.func17, Tryd.ntmps17
    go_wp2_with fail
    refine (C.out _).mono ?_
    rintro e w1 ⟨rfl, rfl⟩
    go_wp2_with fail
    refine (C2.out _).mono ?_
    rintro e w1 ⟨rfl, rfl⟩
    go_wp2_with fail
    refine (C3.out _ E0.out).mono ?_
    rintro e w2 ⟨⟨v, hv⟩, hb2⟩
    have B2 := Lib.hid (B0.out.trans (hb2.mono (by simp)))
    have K2 := Lib.hid (K0.out.later hb2)
    clear hb2
    rcases hv with ⟨hv, rfl⟩ | ⟨hv, n, T, x, rfl⟩
    · have HV := Lib.hid (HR.out.1 v hv)
      clear hv
      obtain ⟨c0, c1, c2, c3, cf, cl⟩ := K2.out
      go_wp2_with fail
      rw [HL.out, HV.out]
      refine bodyPost_ret (v := lexV 37 _) (by simp [results, Tryd.results17, go_sem, lexV, *]) rfl ⟨rfl, ?_⟩
      exact set4 B2.out (Nat.le_refl _) _ _ _ _
    · have HV := Lib.hid (HR.out.2 hv)
      clear hv
      go_wp2_with fail
      refine (amiss_any _).mono ?_
      rintro e w3 ⟨rfl, hb3⟩
      have B3 := Lib.hid (B2.out.trans (hb3.mono B2.out.size))
      obtain ⟨c0, c1, c2, c3, cf, cl⟩ := K2.out.later hb3
      clear hb3
      unfold noTok
      go_wp2_with fail
      rw [HL.out, HV.out]
      refine bodyPost_ret (v := lexV 37 none) (by simp [results, Tryd.results17, go_sem, lexV, *]) rfl ⟨rfl, ?_⟩
      exact set4 B3.out (Nat.le_refl _) _ _ _ _
end Go.Proofs.YtmjlfmoaoobmnaaDoor.Tk
