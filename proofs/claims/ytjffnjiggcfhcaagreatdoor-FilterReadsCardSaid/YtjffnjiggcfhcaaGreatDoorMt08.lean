/-
  Cells that are known stay known behind whatever only makes memory: lists of two to eight cells, at any addresses. No program here.
-/
import Derived.Test.YtjffnjiggcfhcaaGreatDoorMt03
import Derived.Test.YtjffnjiggcfhcaaGreatDoorMt05
import Derived.Test.YtjffnjiggcfhcaaGreatDoorMt07
import Derived.Test.YtjffnjiggcfhcaaGreatDoorMt06
import Derived.Test.YtjffnjiggcfhcaaGreatDoorMt02
import Derived.LaidEql
import Derived.BigQuiet
import Derived.WalkKit
import Derived.WalkSpells
import Derived.Below
import Derived.Lib.Hide
/-
  Contract of the document's answer one, where a number begins. Memory that was there is left as it was.
-/
namespace Go.Proofs.YtjffnjiggcfhcaaGreatDoor.Tk
open Go.RowKit
set_option linter.unusedVariables false
set_option linter.unusedSimpArgs false

theorem numL_is {l : List UInt8} {x : Lx} (h : numL l = some x) : x.kind = 3 ∧ x.str = [] := by
  match l, h with
  | c :: r, h =>
    rw [numL_cons] at h
    split at h
    · split at h
      · cases h
      · have e := (Option.some.inj h).symm
        subst e
        exact ⟨rfl, rfl⟩
    · split at h
      · cases h
      · have e := (Option.some.inj h).symm
        subst e
        exact ⟨rfl, rfl⟩
set_option maxRecDepth 100000 in
set_option maxHeartbeats 8000000 in
theorem oneNumMinus (s : ByteArray) (hs : s.size ≤ 500) (a : Nat) (c : UInt8) (r : List UInt8) (hL : s.data.toList.drop a = c :: r) (h1 : low c = false) (h2 : dig c = false) (hc : c.toNat = 45) (w : World) :
    Calls Tryz.prog 41 #[.string s, .int .i64 (a : Nat)] w fun e w' => OneEnd a e (numL (c :: r)) ∧ Below w.heap.size w w' := by
  have hlen := at_len hL
  have halt : a < s.size := by omega
  have haz : (a : Int) < (s.size : Int) := by omega
  have hb0 := at_byte hL halt
  have HL := Lib.hid hL
  have HLEN := Lib.hid hlen
  have H5 := Lib.hid hs
  clear hL hlen hs
  have H1 := Lib.hid h1
  have H2 := Lib.hid h2
  have C := Lib.hid (fun W => refNum_minus s H5.out a c r HL.out hc W)
  have hcz : ((c.toNat : Nat) : Int) = 45 := by omega
  have CL := Lib.hid (fun W => refLow_any c W)
  have CD := Lib.hid (fun W => refDigit_any c W)
  rw [hcz, H1.out] at CL
  rw [hcz, H2.out] at CD
  clear h1 h2 hc
  cases hn : numL (c :: r) with
  | none =>
    rw [hn] at C
    clear hn
    go_enter Tryz.func41, Tryz.ntmps41
    go_wp2_with fail
    refine (CL.out _).mono ?_
    rintro e w1 ⟨rfl, rfl⟩
    go_wp2_with fail
    refine (CD.out _).mono ?_
    rintro e w1 ⟨rfl, rfl⟩
    go_wp2_with fail
    refine (C.out _).mono ?_
    rintro e w1 ⟨⟨n, z, rfl⟩, rfl⟩
    go_wp2_with fail
    refine bodyPost_ret (v := .tuple #[.agg #[.int .i64 3, .int .i64 (a : Nat), .int .i64 n, .string ⟨#[]⟩], .int .i64 z, .bool false]) (by simp [results, Tryz.results41, go_sem, *]) rfl ⟨?_, ?_⟩
    · exact ⟨3, (a : Nat), n, _, z, rfl⟩
    · exact (Below.refl _ _).alloc (Nat.le_refl _) _
  | some x =>
    rw [hn] at C
    have HX := Lib.hid (numL_is hn)
    clear hn
    go_enter Tryz.func41, Tryz.ntmps41
    go_wp2_with fail
    refine (CL.out _).mono ?_
    rintro e w1 ⟨rfl, rfl⟩
    go_wp2_with fail
    refine (CD.out _).mono ?_
    rintro e w1 ⟨rfl, rfl⟩
    go_wp2_with fail
    refine (C.out _).mono ?_
    rintro e w1 ⟨he, rfl⟩
    have he2 : e = .returned (.tuple #[.int .i64 x.num, .int .i64 ((a + x.size : Nat) : Int), .bool true]) := he
    subst he2
    clear he
    obtain ⟨n, hn⟩ : ∃ n, n = x.num := ⟨_, rfl⟩
    obtain ⟨z, hz⟩ : ∃ z : Nat, z = a + x.size := ⟨_, rfl⟩
    rw [← hn, ← hz]
    have HNZ := Lib.hid (And.intro hn hz)
    clear hn hz
    go_wp2_with fail
    refine bodyPost_ret (v := .tuple #[.agg #[.int .i64 3, .int .i64 (a : Nat), .int .i64 n, .string ⟨#[]⟩], .int .i64 (z : Nat), .bool true]) (by simp [results, Tryz.results41, go_sem, *]) rfl ⟨?_, ?_⟩
    · show _ = _
      rw [HX.out.1, HX.out.2, HNZ.out.1, HNZ.out.2]
    · exact (Below.refl _ _).alloc (Nat.le_refl _) _
set_option maxRecDepth 100000 in
set_option maxHeartbeats 8000000 in
theorem oneNumPlain (s : ByteArray) (hs : s.size ≤ 500) (a : Nat) (c : UInt8) (r : List UInt8) (hL : s.data.toList.drop a = c :: r) (h1 : low c = false) (h2 : dig c = true) (hc : ¬ c.toNat = 45) (w : World) :
    Calls Tryz.prog 41 #[.string s, .int .i64 (a : Nat)] w fun e w' => OneEnd a e (numL (c :: r)) ∧ Below w.heap.size w w' := by
  have hlen := at_len hL
  have halt : a < s.size := by omega
  have haz : (a : Int) < (s.size : Int) := by omega
  have hb0 := at_byte hL halt
  have HL := Lib.hid hL
  have HLEN := Lib.hid hlen
  have H5 := Lib.hid hs
  clear hL hlen hs
  have H1 := Lib.hid h1
  have H2 := Lib.hid h2
  have C := Lib.hid (fun W => refNum_plain s H5.out a c r HL.out hc W)
  have CL := Lib.hid (fun W => refLow_any c W)
  have CD := Lib.hid (fun W => refDigit_any c W)
  rw [H1.out] at CL
  rw [H2.out] at CD
  clear h1 h2 hc
  cases hn : numL (c :: r) with
  | none =>
    rw [hn] at C
    clear hn
    go_enter Tryz.func41, Tryz.ntmps41
    go_wp2_with fail
    refine (CL.out _).mono ?_
    rintro e w1 ⟨rfl, rfl⟩
    go_wp2_with fail
    refine (CD.out _).mono ?_
    rintro e w1 ⟨rfl, rfl⟩
    go_wp2_with fail
    refine (C.out _).mono ?_
    rintro e w1 ⟨⟨n, z, rfl⟩, rfl⟩
    go_wp2_with fail
    refine bodyPost_ret (v := .tuple #[.agg #[.int .i64 3, .int .i64 (a : Nat), .int .i64 n, .string ⟨#[]⟩], .int .i64 z, .bool false]) (by simp [results, Tryz.results41, go_sem, *]) rfl ⟨?_, ?_⟩
    · exact ⟨3, (a : Nat), n, _, z, rfl⟩
    · exact (Below.refl _ _).alloc (Nat.le_refl _) _
  | some x =>
    rw [hn] at C
    have HX := Lib.hid (numL_is hn)
    clear hn
    go_enter Tryz.func41, Tryz.ntmps41
    go_wp2_with fail
    refine (CL.out _).mono ?_
    rintro e w1 ⟨rfl, rfl⟩
    go_wp2_with fail
    refine (CD.out _).mono ?_
    rintro e w1 ⟨rfl, rfl⟩
    go_wp2_with fail
    refine (C.out _).mono ?_
    rintro e w1 ⟨he, rfl⟩
    have he2 : e = .returned (.tuple #[.int .i64 x.num, .int .i64 ((a + x.size : Nat) : Int), .bool true]) := he
    subst he2
    clear he
    obtain ⟨n, hn⟩ : ∃ n, n = x.num := ⟨_, rfl⟩
    obtain ⟨z, hz⟩ : ∃ z : Nat, z = a + x.size := ⟨_, rfl⟩
    rw [← hn, ← hz]
    have HNZ := Lib.hid (And.intro hn hz)
    clear hn hz
    go_wp2_with fail
    refine bodyPost_ret (v := .tuple #[.agg #[.int .i64 3, .int .i64 (a : Nat), .int .i64 n, .string ⟨#[]⟩], .int .i64 (z : Nat), .bool true]) (by simp [results, Tryz.results41, go_sem, *]) rfl ⟨?_, ?_⟩
    · show _ = _
      rw [HX.out.1, HX.out.2, HNZ.out.1, HNZ.out.2]
    · exact (Below.refl _ _).alloc (Nat.le_refl _) _
end Go.Proofs.YtjffnjiggcfhcaaGreatDoor.Tk
/-
  Contract of the document's answer one: the token at a place of a text, where it ends, and whether it is well. Memory that was there is left as it was.
-/
namespace Go.Proofs.YtjffnjiggcfhcaaGreatDoor.Tk
open Go.RowKit
set_option linter.unusedVariables false

theorem refOne_any (s : ByteArray) (hs : s.size ≤ 500) (a : Nat) (c : UInt8) (r : List UInt8) (hL : s.data.toList.drop a = c :: r) (w : World) :
    Calls Tryz.prog 41 #[.string s, .int .i64 (a : Nat)] w fun e w' => OneEnd a e (lex (c :: r)) ∧ Below w.heap.size w w' := by
  rw [lex_cons]
  by_cases h1 : low c = true
  · rw [if_pos h1]
    exact oneName s hs a c r hL h1 w
  · have h1f : low c = false := by simpa using h1
    rw [if_neg h1]
    by_cases h2 : dig c = true
    · rw [h2, Bool.true_or, if_pos rfl]
      exact oneNumPlain s hs a c r hL h1f h2 (by simp only [dig, Bool.and_eq_true, decide_eq_true_eq] at h2; omega) w
    · have h2f : dig c = false := by simpa using h2
      rw [h2f, Bool.false_or]
      by_cases h3 : c.toNat = 45
      · rw [if_pos (by rw [h3]; rfl)]
        exact oneNumMinus s hs a c r hL h1f h2f h3 w
      · rw [if_neg (fun h => h3 (eq_of_beq h))]
        by_cases h4 : c.toNat = 34
        · rw [if_pos (by rw [h4]; rfl)]
          exact oneText s hs a c r hL h1f h2f h4 w
        · rw [if_neg (fun h => h4 (eq_of_beq h))]
          exact oneSign s hs a c r hL h1f h2f h3 h4 w
end Go.Proofs.YtjffnjiggcfhcaaGreatDoor.Tk
/-
  What token.Cut answers at any text, in one; contracts of isName of package filter and of Name of the document's answer: is a text a name? Memory that was there is left as it was.
-/
namespace Go.Proofs.YtjffnjiggcfhcaaGreatDoor.Fl
open Go.RowKit Go.Proofs.YtjffnjiggcfhcaaGreatDoor.Tk
set_option linter.unusedVariables false
set_option linter.unusedSimpArgs false

theorem name_short {l : List UInt8} (h : nameB l = true) : l.length ≤ 20 ∧ 1 ≤ l.length := by
  have hx := name_lex h
  refine ⟨?_, (lex_size hx).1⟩
  match l, h, hx with
  | c :: r, h, hx =>
    rw [lex_cons] at hx
    split at hx
    · unfold nameL at hx
      split at hx
      · rename_i hr
        have e := Option.some.inj hx
        have e2 := congrArg Lx.size e
        simp only at e2
        omega
      · cases hx
    · split at hx
      · rw [numL_cons] at hx
        split at hx
        · split at hx
          · cases hx
          · have e := congrArg Lx.kind (Option.some.inj hx)
            simp only at e
            omega
        · split at hx
          · cases hx
          · have e := congrArg Lx.kind (Option.some.inj hx)
            simp only at e
            omega
      · split at hx
        · unfold textL at hx
          split at hx
          · have e := congrArg Lx.kind (Option.some.inj hx)
            simp only at e
            omega
          · cases hx
        · unfold signL at hx
          split at hx
          · have e := congrArg Lx.kind (Option.some.inj hx)
            simp only at e
            omega
          · split at hx
            · have e := congrArg Lx.kind (Option.some.inj hx)
              simp only at e
              omega
            · cases hx
/-- Is it the one token, a name, which is all of l? -/
def oneNm (l : List UInt8) : Option (List Tok) → Bool
  | some [t] => t.kind == 1 && t.str == l
  | _ => false
theorem name_cut (l : List UInt8) : nameB l = oneNm l (cutAt 0 l) := by
  cases h : nameB l with
  | true =>
    obtain ⟨ks, e, hc⟩ := cuts_of (name_lex h) rfl 0 [] stp_nil
    rw [List.append_nil, cutAt_nil] at hc
    rw [hc]
    have hl : ks.length = 1 := by
      have := congrArg List.length e
      simpa using this
    match ks, hl, e with
    | [t], _, e =>
      simp only [List.map_cons, List.map_nil, List.cons.injEq, and_true, core] at e
      have e1 := congrArg Tc.kind e
      have e2 := congrArg Tc.str e
      simp only at e1 e2
      simp [oneNm, e1, e2]
  | false =>
    symm
    cases hc : cutAt 0 l with
    | none => rfl
    | some ts =>
      match ts, hc with
      | [], _ => rfl
      | _ :: _ :: _, _ => rfl
      | [t], hc =>
        have hg := (cut_good l.length 0 l [t] (Nat.le_refl _) hc).1 (core t) (by simp)
        simp only [oneNm, Bool.and_eq_false_iff, beq_eq_false_iff_ne]
        by_cases hk : t.kind = 1
        · right
          intro hs
          have := hg.1 hk
          rw [show (core t).str = t.str from rfl, hs, h] at this
          cases this
        · exact Or.inl hk
theorem eqE (n : Int) (w : World) : (binOp .eql 29 (.iface 33 (.int .i64 n)) .nilIface).run Tryz.prog w = .ok (.bool false) w := by kernel_rfl
theorem eqN (w : World) : (binOp .eql 29 .nilIface .nilIface).run Tryz.prog w = .ok (.bool true) w := by kernel_rfl
theorem neqE (n : Int) (w : World) : (binOp .neq 29 (.iface 33 (.int .i64 n)) .nilIface).run Tryz.prog w = .ok (.bool true) w := by kernel_rfl
theorem neqN (w : World) : (binOp .neq 29 .nilIface .nilIface).run Tryz.prog w = .ok (.bool false) w := by kernel_rfl
/-- What token.Cut tells of any text. -/
def CutAny (s : ByteArray) (w' : World) (e : Ending) : Prop :=
  (∃ n : Int, e = .returned (.tuple #[.slice none 0 0, .iface 33 (.int .i64 n)]) ∧ (500 < s.size ∧ n = 5 ∨ s.size ≤ 500 ∧ n = 2 ∧ cutAt 0 s.data.toList = none)) ∨
  (∃ ts a cap, e = .returned (.tuple #[.slice a ts.length cap, .nilIface]) ∧ s.size ≤ 500 ∧ cutAt 0 s.data.toList = some ts ∧ TksAt w' w'.heap.size a ts ∧ ts.length ≤ cap)
theorem cut_all_any (s : ByteArray) (w : World) (hE : LaidE w) : Calls Tryz.prog 25 #[.string s] w fun e w' => CutAny s w' e ∧ Below w.heap.size w w' := by
  by_cases h5 : s.size ≤ 500
  · refine (cut_any s h5 w hE).mono ?_
    rintro e w1 ⟨hc, hb⟩
    refine ⟨?_, hb⟩
    cases hC : cutAt 0 s.data.toList with
    | none =>
      rw [hC] at hc
      exact Or.inl ⟨2, hc, Or.inr ⟨h5, rfl, hC⟩⟩
    | some ts =>
      rw [hC] at hc
      obtain ⟨u, rfl, ho⟩ := hc
      have hcap : ∀ a cap, u = .slice a ts.length cap → ts.length ≤ cap := by
        rintro a cap rfl
        rcases ho.2 with ⟨h1, h2⟩ | ⟨g, cp, cur, h1, _, _, h3, _⟩
        · injection h1 with _ e2 e3
          omega
        · injection h1 with _ e2 e3
          omega
      obtain ⟨a, cap, rfl, ht⟩ := own_tks ho
      exact Or.inr ⟨ts, a, cap, rfl, h5, hC, ht, hcap a cap rfl⟩
  · refine (cut_large s (by omega) w).mono ?_
    rintro e w1 ⟨rfl, rfl⟩
    exact ⟨Or.inl ⟨5, rfl, Or.inl ⟨by omega, rfl⟩⟩, Below.refl _ _⟩
theorem bytes_eq (s : ByteArray) (l : List UInt8) : ((⟨l.toArray⟩ : ByteArray) = s) ↔ l = s.data.toList := by
  obtain ⟨d⟩ := s
  obtain ⟨m⟩ := d
  simp
set_option maxHeartbeats 1000000 in
set_option maxRecDepth 100000 in
theorem isName_any (s : ByteArray) (w : World) (hE : LaidE w) : Calls Tryz.prog 72 #[.string s] w fun e w' => e = .returned (.bool (nameB s.data.toList)) ∧ Below w.heap.size w w' := by
  have q1 := eqE 5
  have q2 := eqE 2
  have q3 := eqN
  obtain ⟨res, hres⟩ : ∃ b, nameB s.data.toList = b := ⟨_, rfl⟩
  rw [hres]
  have HR := Lib.hid hres
  have HC := Lib.hid (cut_all_any s w hE)
  clear hres hE
  go_enter Tryz.func72, Tryz.ntmps72
  go_wp2_with fail
  refine HC.out.mono ?_
  rintro e w1 ⟨hc, hb⟩
  have HB := Lib.hid hb
  clear hb
  rcases hc with ⟨n, rfl, hn⟩ | ⟨ts, a, cap, rfl, h5, hC, ht, _⟩
  · have hf : res = false := by
      rw [← HR.out]
      rcases hn with ⟨h1, _⟩ | ⟨_, _, h1⟩
      · cases h : nameB s.data.toList with
        | false => rfl
        | true => have := (name_short h).1; have h2 := Lib.size_eq s; omega
      · rw [name_cut, h1]; rfl
    have hn2 : n = 5 ∨ n = 2 := by omega
    subst hf
    clear hn
    rcases hn2 with rfl | rfl
    · go_wp2_with fail
      go_ret
      exact ⟨rfl, HB.out⟩
    · go_wp2_with fail
      go_ret
      exact ⟨rfl, HB.out⟩
  · have HT := Lib.hid ht
    have HN := Lib.hid (show res = oneNm s.data.toList (some ts) by rw [← HR.out, name_cut, hC])
    clear hC ht h5
    by_cases hl : ts.length = 1
    · obtain ⟨t, rfl⟩ : ∃ t, ts = [t] := by
        match ts, hl with
        | [t], _ => exact ⟨t, rfl⟩
      obtain ⟨g, rfl, hg, hcell⟩ := HT.out.2 (by simp)
      obtain ⟨c0, c1, c2, c3⟩ := hcell 0 (by simp)
      simp only [List.getElem_cons_zero, Nat.zero_mul, Nat.zero_add] at c0 c3
      obtain ⟨k, hk⟩ : ∃ k, k = t.kind := ⟨_, rfl⟩
      obtain ⟨str, hstr⟩ : ∃ x : ByteArray, x = ⟨t.str.toArray⟩ := ⟨_, rfl⟩
      rw [← hk] at c0
      rw [← hstr] at c3
      have HN2 := Lib.hid (show res = (decide (k = 1) && (str.toList == s.toList)) by
        rw [HN.out, hk, hstr, Lib.toList_data, Lib.toList_data]
        by_cases h1 : t.kind = 1 <;> simp [oneNm, h1])
      clear hk hstr hcell c1 c2 hl
      by_cases h1 : k = 1
      · have HF := Lib.hid (show res = (str.toList == s.toList) by rw [HN2.out, decide_eq_true h1, Bool.true_and])
        go_wp2_with fail
        go_ret
        exact ⟨by rw [HF.out]; rfl, HB.out⟩
      · have HF := Lib.hid (show res = false by rw [HN2.out, decide_eq_false h1]; rfl)
        go_wp2_with fail
        go_ret
        exact ⟨by rw [HF.out]; rfl, HB.out⟩
    · have HF := Lib.hid (show res = false by
        rw [HN.out]
        match ts, hl with
        | [], _ => rfl
        | _ :: _ :: _, _ => rfl
        | [t], h => exact absurd rfl h)
      have hlz : ¬ (ts.length : Int) = 1 := by omega
      go_wp2_with fail
      go_ret
      exact ⟨by rw [HF.out]; rfl, HB.out⟩
end Go.Proofs.YtjffnjiggcfhcaaGreatDoor.Fl
/-
  Contracts of package filter's functions on values: may an attribute be a value, may all of a list, are they of one sort. Memory that was there is left as it was.
-/
namespace Go.Proofs.YtjffnjiggcfhcaaGreatDoor.Fl
open Go.RowKit
set_option linter.unusedVariables false
set_option linter.unusedSimpArgs false

theorem isNoValue_any (sn : ByteArray) (tx : Bool) (n : Int) (ss : ByteArray) (w : World) : Calls Tryz.prog 74 #[.agg #[.string sn, .bool tx, .int .i64 n, .string ss]] w fun e w' => e = .returned (.bool (!(valB ⟨sn.data.toList, tx, n, ss.data.toList⟩))) ∧ Below w.heap.size w w' := by
  have CT := Lib.hid (fun W => isText_any ss W)
  obtain ⟨pl, hpl⟩ : ∃ b, plainB ss.data.toList = b := ⟨_, rfl⟩
  have HV := Lib.hid (show valB ⟨sn.data.toList, tx, n, ss.data.toList⟩ = (sn.toList == [] && (if tx then n == 0 && pl else ss.toList == [])) by rw [← Lib.toList_data, ← hpl, ← Lib.toList_data]; rfl)
  rw [hpl] at CT
  clear hpl
  obtain ⟨res, hres⟩ : ∃ b, valB ⟨sn.data.toList, tx, n, ss.data.toList⟩ = b := ⟨_, rfl⟩
  rw [hres] at HV ⊢
  clear hres
  cases tx
  · go_enter Tryz.func74, Tryz.ntmps74
    go_wp2
    all_goals go_ret
    all_goals exact ⟨by rw [HV.out]; clear HV CT; simp_all, (Below.refl _ _).alloc (Nat.le_refl _) _⟩
  · go_enter Tryz.func74, Tryz.ntmps74
    go_wp2_with (first | (go_at_call 94; refine (CT.out _).mono ?_; rintro e w1 ⟨rfl, rfl⟩))
    all_goals go_ret
    all_goals exact ⟨by rw [HV.out]; clear HV CT; simp_all, (Below.refl _ _).alloc (Nat.le_refl _) _⟩

/-- Where a value that may not be stands first. -/
def firstNo : List Att → Int
  | [] => -1
  | v :: r => if valB v = true then (if firstNo r = -1 then -1 else firstNo r + 1) else 0
def InR (vs : List Att) (w : World) (vi : Value) (wr : World) : Prop :=
  ∃ k : Nat, k ≤ vs.length ∧ vi = .int .i64 k ∧ Hid (∀ v ∈ vs.take k, valB v = true) ∧ Below w.heap.size w wr
theorem take_more {vs : List Att} {k : Nat} {v : Att} (h : ∀ v ∈ vs.take k, valB v = true) (hk : vs[k]? = some v) (hv : valB v = true) : ∀ v ∈ vs.take (k + 1), valB v = true := by
  rw [List.take_add_one, hk]
  intro u hu
  rcases List.mem_append.1 hu with hu | hu
  · exact h u hu
  · simp at hu
    rw [hu]
    exact hv
theorem bs_bytes (l : List UInt8) : ∃ s : ByteArray, bs l = .string s ∧ s.data.toList = l := ⟨⟨l.toArray⟩, rfl, rfl⟩
set_option maxHeartbeats 1000000 in
set_option maxRecDepth 100000 in
/-- The number that IndexFunc answers is at least 0, if and only if one may not be. -/
theorem index_any (vs : List Att) (a : Option Addr) (cap : Nat) (w : World) (h : AttsAt w (Old w.heap.size) a vs) :
    Calls Tryz.prog 93 #[.slice a vs.length cap, .func (.func 74) #[] #[]] w fun e w' =>
      (∃ k : Nat, e = .returned (.int .i64 (k : Nat)) ∧ vs.all valB = false ∨ e = .returned (.int .i64 (-1)) ∧ vs.all valB = true) ∧ Below w.heap.size w w' := by
  obtain ⟨res, hres⟩ : ∃ b, vs.all valB = b := ⟨_, rfl⟩
  have HR := Lib.hid hres
  rw [hres]
  clear hres
  obtain ⟨n, hn⟩ : ∃ n, n = vs.length := ⟨_, rfl⟩
  have hm : n ≤ 9223372036854775807 := by have := h.1; unfold maxLen at this; omega
  have HN := Lib.hid hn
  have HA := Lib.hid h
  rw [← hn]
  clear hn h
  go_enter Tryz.func93, Tryz.ntmps93
  go_wp2_with fail
  go_loopw [8] (fun vi wr => InR vs w vi wr) (fun vi _ => n - (intOf vi).toNat)
  case atStart => exact ⟨0, Nat.zero_le _, rfl, Lib.hid (by simp), Below.refl _ _⟩
  case round =>
    obtain ⟨k, hk, rfl, hall, hB⟩ := hrel
    have HK := Lib.hid hk
    have HB := Lib.hid hB
    clear hk hB
    by_cases hlt : k < n
    · have hlz : (k : Int) < (n : Int) := by omega
      have hkl : k < vs.length := by rw [← HN.out]; exact hlt
      obtain ⟨g, o, hg, hgl, hc⟩ := (HA.out.later HB.out).2.2 (by omega)
      obtain ⟨c0, c1, c2, c3⟩ := hc k hkl
      obtain ⟨V, hV⟩ : ∃ V, V = vs[k] := ⟨_, rfl⟩
      rw [← hV] at c0 c1 c2 c3
      obtain ⟨sn, e0, hsn⟩ := bs_bytes V.name
      obtain ⟨ss, e3, hss⟩ := bs_bytes V.str
      obtain ⟨tx, htx⟩ : ∃ x, x = V.text := ⟨_, rfl⟩
      obtain ⟨nm, hnm⟩ : ∃ x, x = V.num := ⟨_, rfl⟩
      rw [e0] at c0
      rw [← htx] at c1
      rw [← hnm] at c2
      rw [e3] at c3
      have HVB := Lib.hid (show valB ⟨sn.data.toList, tx, nm, ss.data.toList⟩ = valB V by rw [hsn, hss, htx, hnm])
      have HVK := Lib.hid (show vs[k]? = some V by rw [hV]; exact List.getElem?_eq_getElem hkl)
      obtain rfl := hg
      clear hc hV e0 hsn e3 hss htx hnm hgl
      go_wp2_with fail
      refine (isNoValue_any sn tx nm ss _).mono ?_
      rintro e w1 ⟨rfl, hb⟩
      rw [HVB.out]
      have HB1 := Lib.hid (HB.out.trans (hb.mono HB.out.size))
      clear hb
      cases hv : valB V
      · have HF := Lib.hid (show res = false by rw [← HR.out, List.all_eq_false]; exact ⟨V, List.mem_of_getElem? HVK.out, by simp [hv]⟩)
        clear hv
        go_wp2_with fail
        go_ret
        exact ⟨⟨k, Or.inl ⟨rfl, HF.out⟩⟩, HB1.out⟩
      · have HF := Lib.hid (take_more hall.out HVK.out hv)
        clear hv
        go_wp2_with fail
        go_roundw
        case rel => exact ⟨k + 1, by omega, by go_num, HF, HB1.out⟩
        case measure => simp [intOf]; omega
    · have hlz : ¬ (k : Int) < (n : Int) := by omega
      have hkk : k = n := by have := HN.out; have := HK.out; omega
      have HF := Lib.hid (show res = true by
        have := hall.out
        rw [hkk, HN.out, List.take_length] at this
        rw [← HR.out, List.all_eq_true]
        exact this)
      go_wp2_with fail
      go_ret
      exact ⟨⟨0, Or.inr ⟨rfl, HF.out⟩⟩, HB.out⟩
theorem contains_any (vs : List Att) (a : Option Addr) (cap : Nat) (w : World) (h : AttsAt w (Old w.heap.size) a vs) :
    Calls Tryz.prog 73 #[.slice a vs.length cap, .func (.func 74) #[] #[]] w fun e w' => e = .returned (.bool (!(vs.all valB))) ∧ Below w.heap.size w w' := by
  have HC := Lib.hid (index_any vs a cap w h)
  obtain ⟨res, hres⟩ : ∃ b, vs.all valB = b := ⟨_, rfl⟩
  rw [hres] at HC ⊢
  obtain ⟨n, hn⟩ : ∃ n, n = vs.length := ⟨_, rfl⟩
  rw [← hn] at HC ⊢
  clear hn hres h
  go_enter Tryz.func73, Tryz.ntmps73
  go_wp2_with fail
  refine HC.out.mono ?_
  rintro e w1 ⟨⟨k, h⟩, hb⟩
  rcases h with ⟨rfl, rfl⟩ | ⟨rfl, rfl⟩
  · have hk : (0 : Int) ≤ (k : Int) := by omega
    go_wp2_with fail
    go_ret
    exact ⟨rfl, hb⟩
  · go_wp2_with fail
    go_ret
    exact ⟨rfl, hb⟩

/-- All of one sort. -/
def sortB : List Att → Bool
  | [] => true
  | v :: r => r.all fun u => u.text == v.text
theorem sort_eq {v : Att} {r : List Att} : sortB (v :: r) = (v :: r).all fun u => u.text == v.text := by simp [sortB]
def OneR (vs : List Att) (t : Bool) (w : World) (vi : Value) (wr : World) : Prop :=
  ∃ k : Nat, k ≤ vs.length ∧ vi = .int .i64 k ∧ Hid (∀ v ∈ vs.take k, (v.text == t) = true) ∧ Below w.heap.size w wr
theorem take_more' {vs : List Att} {k : Nat} {v : Att} {p : Att → Bool} (h : ∀ v ∈ vs.take k, p v = true) (hk : vs[k]? = some v) (hv : p v = true) : ∀ v ∈ vs.take (k + 1), p v = true := by
  rw [List.take_add_one, hk]
  intro u hu
  rcases List.mem_append.1 hu with hu | hu
  · exact h u hu
  · simp at hu
    rw [hu]
    exact hv
set_option maxHeartbeats 1000000 in
set_option maxRecDepth 100000 in
theorem oneSort_any (vs : List Att) (a : Option Addr) (cap : Nat) (w : World) (h : AttsAt w (Old w.heap.size) a vs) :
    Calls Tryz.prog 52 #[.slice a vs.length cap] w fun e w' => e = .returned (.bool (sortB vs)) ∧ Below w.heap.size w w' := by
  obtain ⟨n, hn⟩ : ∃ n, n = vs.length := ⟨_, rfl⟩
  have hm : n ≤ 9223372036854775807 := by have := h.1; unfold maxLen at this; omega
  have HN := Lib.hid hn
  have HA := Lib.hid h
  rw [← hn]
  clear hn h
  obtain ⟨t0, ht0⟩ : ∃ t : Bool, ∀ v, vs[0]? = some v → v.text = t := by
    cases e : vs[0]? with
    | none => exact ⟨true, fun v h => by cases h⟩
    | some v => exact ⟨v.text, fun u h => by cases h; rfl⟩
  have HS := Lib.hid (show sortB vs = vs.all fun u => u.text == t0 by
    match vs, ht0 with
    | [], _ => rfl
    | v :: r, ht0 => rw [sort_eq, ht0 v rfl])
  have HT0 := Lib.hid ht0
  obtain ⟨res, hres⟩ : ∃ b, sortB vs = b := ⟨_, rfl⟩
  rw [hres] at HS ⊢
  clear hres ht0
  go_enter Tryz.func52, Tryz.ntmps52
  go_wp2_with fail
  go_loopw [7] (fun vi wr => OneR vs t0 w vi wr) (fun vi _ => n - (intOf vi).toNat)
  case atStart => exact ⟨0, Nat.zero_le _, rfl, Lib.hid (by simp), Below.refl _ _⟩
  case round =>
    obtain ⟨k, hk, rfl, hall, hB⟩ := hrel
    have HK := Lib.hid hk
    have HB := Lib.hid hB
    clear hk hB
    by_cases hlt : k < n
    · have hlz : (k : Int) < (n : Int) := by omega
      have hnz : (0 : Int) < (n : Int) := by omega
      have hkl : k < vs.length := by rw [← HN.out]; exact hlt
      obtain ⟨g, o, hg, hgl, hc⟩ := (HA.out.later HB.out).2.2 (by omega)
      obtain ⟨c0, c1, c2, c3⟩ := hc k hkl
      obtain ⟨_, d1, _, _⟩ := hc 0 (by omega)
      obtain ⟨V, hV⟩ : ∃ V, V = vs[k] := ⟨_, rfl⟩
      rw [← hV] at c0 c1 c2 c3
      rw [HT0.out _ (List.getElem?_eq_getElem (by omega))] at d1
      simp only [Nat.zero_mul, Nat.add_zero] at d1
      obtain ⟨sn, e0, hsn⟩ := bs_bytes V.name
      obtain ⟨ss, e3, hss⟩ := bs_bytes V.str
      obtain ⟨tx, htx⟩ : ∃ x, x = V.text := ⟨_, rfl⟩
      obtain ⟨nm, hnm⟩ : ∃ x, x = V.num := ⟨_, rfl⟩
      rw [e0] at c0
      rw [← htx] at c1
      rw [← hnm] at c2
      rw [e3] at c3
      have HTX := Lib.hid htx
      have HVK := Lib.hid (show vs[k]? = some V by rw [hV]; exact List.getElem?_eq_getElem hkl)
      obtain rfl := hg
      have hgs : g < wr.heap.size := Nat.lt_of_lt_of_le hgl HB.out.size
      clear hc hV e0 hsn e3 hss htx hnm hgl
      cases tx <;> cases t0
      all_goals go_wp2_with fail
      all_goals go_region
      all_goals go_wp2_with fail
      all_goals first
        | (go_roundw
           case rel => exact ⟨k + 1, by omega, by go_num, Lib.hid (take_more' (p := fun u => u.text == _) hall.out HVK.out (by rw [← HTX.out]; rfl)), (HB.out.alloc HB.out.size _).drew⟩
           case measure => simp [intOf]; omega)
        | (have HF := Lib.hid (show res = false by rw [HS.out, List.all_eq_false]; exact ⟨V, List.mem_of_getElem? HVK.out, by simp [← HTX.out]⟩)
           go_ret
           exact ⟨by rw [HF.out]; rfl, (HB.out.alloc HB.out.size _).drew⟩)
    · have hlz : ¬ (k : Int) < (n : Int) := by omega
      have hkk : k = n := by have := HN.out; have := HK.out; omega
      have HF := Lib.hid (show res = true by
        have := hall.out
        rw [hkk, HN.out, List.take_length] at this
        rw [HS.out, List.all_eq_true]
        exact this)
      go_wp2_with fail
      go_ret
      exact ⟨by rw [HF.out]; rfl, HB.out⟩
end Go.Proofs.YtjffnjiggcfhcaaGreatDoor.Fl
namespace Go.Proofs.YtjffnjiggcfhcaaGreatDoor.Kp
open Go.RowKit

variable {w W w1 : World} {N : Nat} {a0 a1 a2 a3 a4 a5 a6 a7 a8 a9 a10 a11 a12 a13 : Addr} {v0 v1 v2 v3 v4 v5 v6 v7 v8 v9 v10 v11 v12 v13 : Value}

theorem ends (hb : Below W.heap.size W w1) (h : N ≤ W.heap.size ∧ Below N w W) : N ≤ w1.heap.size ∧ Below N w w1 :=
  ⟨Nat.le_trans h.1 hb.size, h.2.trans (hb.mono h.1)⟩
theorem one {P P' : Prop} (hb : Below W.heap.size W w1) (f : P → P') (h : W.cell? a0 = some v0 ∧ P) : w1.cell? a0 = some v0 ∧ P' := ⟨cell_later hb h.1, f h.2⟩
theorem two {P P' : Prop} (hb : Below W.heap.size W w1) (f : P → P') (h : W.cell? a0 = some v0 ∧ W.cell? a1 = some v1 ∧ P) : w1.cell? a0 = some v0 ∧ w1.cell? a1 = some v1 ∧ P' := one hb (one hb f) h

theorem keep2 (hb : Below W.heap.size W w1) (h : W.cell? a0 = some v0 ∧ W.cell? a1 = some v1 ∧ N ≤ W.heap.size ∧ Below N w W) :
    w1.cell? a0 = some v0 ∧ w1.cell? a1 = some v1 ∧ N ≤ w1.heap.size ∧ Below N w w1 := two hb (ends hb) h
theorem keep4 (hb : Below W.heap.size W w1) (h : W.cell? a0 = some v0 ∧ W.cell? a1 = some v1 ∧ W.cell? a2 = some v2 ∧ W.cell? a3 = some v3 ∧ N ≤ W.heap.size ∧ Below N w W) :
    w1.cell? a0 = some v0 ∧ w1.cell? a1 = some v1 ∧ w1.cell? a2 = some v2 ∧ w1.cell? a3 = some v3 ∧ N ≤ w1.heap.size ∧ Below N w w1 := two hb (two hb (ends hb)) h
theorem keep6 (hb : Below W.heap.size W w1) (h : W.cell? a0 = some v0 ∧ W.cell? a1 = some v1 ∧ W.cell? a2 = some v2 ∧ W.cell? a3 = some v3 ∧ W.cell? a4 = some v4 ∧ W.cell? a5 = some v5 ∧ N ≤ W.heap.size ∧ Below N w W) :
    w1.cell? a0 = some v0 ∧ w1.cell? a1 = some v1 ∧ w1.cell? a2 = some v2 ∧ w1.cell? a3 = some v3 ∧ w1.cell? a4 = some v4 ∧ w1.cell? a5 = some v5 ∧ N ≤ w1.heap.size ∧ Below N w w1 := two hb (two hb (two hb (ends hb))) h
theorem keep8 (hb : Below W.heap.size W w1) (h : W.cell? a0 = some v0 ∧ W.cell? a1 = some v1 ∧ W.cell? a2 = some v2 ∧ W.cell? a3 = some v3 ∧ W.cell? a4 = some v4 ∧ W.cell? a5 = some v5 ∧ W.cell? a6 = some v6 ∧ W.cell? a7 = some v7 ∧ N ≤ W.heap.size ∧ Below N w W) :
    w1.cell? a0 = some v0 ∧ w1.cell? a1 = some v1 ∧ w1.cell? a2 = some v2 ∧ w1.cell? a3 = some v3 ∧ w1.cell? a4 = some v4 ∧ w1.cell? a5 = some v5 ∧ w1.cell? a6 = some v6 ∧ w1.cell? a7 = some v7 ∧ N ≤ w1.heap.size ∧ Below N w w1 := two hb (two hb (two hb (two hb (ends hb)))) h

/-- A new block of two cells; its number is b. -/
theorem fresh (W : World) (b : Nat) (e : W.heap.size = b) (x y : Value) (t : TypeId) : (W.alloc (.cells #[x, y] t)).cell? ⟨b, 0, none⟩ = some x ∧ (W.alloc (.cells #[x, y] t)).cell? ⟨b, 1, none⟩ = some y := by
  subst e; constructor <;> simp [go_sem]
theorem behind (W : World) (o : Obj) : Below W.heap.size W (W.alloc o) := (Below.refl _ _).alloc (Nat.le_refl _) _
theorem add0 (h : N ≤ W.heap.size ∧ Below N w W) (b : Nat) (e : W.heap.size = b) (x y : Value) (t : TypeId) :
    (W.alloc (.cells #[x, y] t)).cell? ⟨b, 0, none⟩ = some x ∧ (W.alloc (.cells #[x, y] t)).cell? ⟨b, 1, none⟩ = some y ∧ N ≤ (W.alloc (.cells #[x, y] t)).heap.size ∧ Below N w (W.alloc (.cells #[x, y] t)) :=
  ⟨(fresh W b e x y t).1, (fresh W b e x y t).2, ends (behind ..) h⟩
theorem add2 (h : W.cell? a0 = some v0 ∧ W.cell? a1 = some v1 ∧ N ≤ W.heap.size ∧ Below N w W) (b : Nat) (e : W.heap.size = b) (x y : Value) (t : TypeId) :
    (W.alloc (.cells #[x, y] t)).cell? a0 = some v0 ∧ (W.alloc (.cells #[x, y] t)).cell? a1 = some v1 ∧ (W.alloc (.cells #[x, y] t)).cell? ⟨b, 0, none⟩ = some x ∧ (W.alloc (.cells #[x, y] t)).cell? ⟨b, 1, none⟩ = some y
      ∧ N ≤ (W.alloc (.cells #[x, y] t)).heap.size ∧ Below N w (W.alloc (.cells #[x, y] t)) := two (behind ..) (fun h => add0 h b e x y t) h
theorem add4 (h : W.cell? a0 = some v0 ∧ W.cell? a1 = some v1 ∧ W.cell? a2 = some v2 ∧ W.cell? a3 = some v3 ∧ N ≤ W.heap.size ∧ Below N w W) (b : Nat) (e : W.heap.size = b) (x y : Value) (t : TypeId) :
    (W.alloc (.cells #[x, y] t)).cell? a0 = some v0 ∧ (W.alloc (.cells #[x, y] t)).cell? a1 = some v1 ∧ (W.alloc (.cells #[x, y] t)).cell? a2 = some v2 ∧ (W.alloc (.cells #[x, y] t)).cell? a3 = some v3
      ∧ (W.alloc (.cells #[x, y] t)).cell? ⟨b, 0, none⟩ = some x ∧ (W.alloc (.cells #[x, y] t)).cell? ⟨b, 1, none⟩ = some y
      ∧ N ≤ (W.alloc (.cells #[x, y] t)).heap.size ∧ Below N w (W.alloc (.cells #[x, y] t)) := two (behind ..) (two (behind ..) (fun h => add0 h b e x y t)) h
theorem add6 (h : W.cell? a0 = some v0 ∧ W.cell? a1 = some v1 ∧ W.cell? a2 = some v2 ∧ W.cell? a3 = some v3 ∧ W.cell? a4 = some v4 ∧ W.cell? a5 = some v5 ∧ N ≤ W.heap.size ∧ Below N w W) (b : Nat) (e : W.heap.size = b) (x y : Value) (t : TypeId) :
    (W.alloc (.cells #[x, y] t)).cell? a0 = some v0 ∧ (W.alloc (.cells #[x, y] t)).cell? a1 = some v1 ∧ (W.alloc (.cells #[x, y] t)).cell? a2 = some v2 ∧ (W.alloc (.cells #[x, y] t)).cell? a3 = some v3 ∧ (W.alloc (.cells #[x, y] t)).cell? a4 = some v4 ∧ (W.alloc (.cells #[x, y] t)).cell? a5 = some v5
      ∧ (W.alloc (.cells #[x, y] t)).cell? ⟨b, 0, none⟩ = some x ∧ (W.alloc (.cells #[x, y] t)).cell? ⟨b, 1, none⟩ = some y
      ∧ N ≤ (W.alloc (.cells #[x, y] t)).heap.size ∧ Below N w (W.alloc (.cells #[x, y] t)) := two (behind ..) (two (behind ..) (two (behind ..) (fun h => add0 h b e x y t))) h

/-- A draw moves no cell. -/
theorem drew8 (h : W.cell? a0 = some v0 ∧ W.cell? a1 = some v1 ∧ W.cell? a2 = some v2 ∧ W.cell? a3 = some v3 ∧ W.cell? a4 = some v4 ∧ W.cell? a5 = some v5 ∧ W.cell? a6 = some v6 ∧ W.cell? a7 = some v7 ∧ N ≤ W.heap.size ∧ Below N w W) :
    W.drew.cell? a0 = some v0 ∧ W.drew.cell? a1 = some v1 ∧ W.drew.cell? a2 = some v2 ∧ W.drew.cell? a3 = some v3 ∧ W.drew.cell? a4 = some v4 ∧ W.drew.cell? a5 = some v5 ∧ W.drew.cell? a6 = some v6 ∧ W.drew.cell? a7 = some v7 ∧ N ≤ W.drew.heap.size ∧ Below N w W.drew :=
  ⟨h.1, h.2.1, h.2.2.1, h.2.2.2.1, h.2.2.2.2.1, h.2.2.2.2.2.1, h.2.2.2.2.2.2.1, h.2.2.2.2.2.2.2.1, h.2.2.2.2.2.2.2.2.1, h.2.2.2.2.2.2.2.2.2.drew⟩
theorem end2 {p0 p1 p2 : Prop} (h : p0 ∧ p1 ∧ p2 ∧ Below N w W) : Below N w W := h.2.2.2
theorem end4 {p0 p1 p2 p3 p4 : Prop} (h : p0 ∧ p1 ∧ p2 ∧ p3 ∧ p4 ∧ Below N w W) : Below N w W := h.2.2.2.2.2
theorem end6 {p0 p1 p2 p3 p4 p5 p6 : Prop} (h : p0 ∧ p1 ∧ p2 ∧ p3 ∧ p4 ∧ p5 ∧ p6 ∧ Below N w W) : Below N w W := h.2.2.2.2.2.2.2
theorem end8 {p0 p1 p2 p3 p4 p5 p6 p7 p8 : Prop} (h : p0 ∧ p1 ∧ p2 ∧ p3 ∧ p4 ∧ p5 ∧ p6 ∧ p7 ∧ p8 ∧ Below N w W) : Below N w W := h.2.2.2.2.2.2.2.2.2
theorem keep10 (hb : Below W.heap.size W w1) (h : W.cell? a0 = some v0 ∧ W.cell? a1 = some v1 ∧ W.cell? a2 = some v2 ∧ W.cell? a3 = some v3 ∧ W.cell? a4 = some v4 ∧ W.cell? a5 = some v5 ∧ W.cell? a6 = some v6 ∧ W.cell? a7 = some v7 ∧ W.cell? a8 = some v8 ∧ W.cell? a9 = some v9 ∧ N ≤ W.heap.size ∧ Below N w W) :
    w1.cell? a0 = some v0 ∧ w1.cell? a1 = some v1 ∧ w1.cell? a2 = some v2 ∧ w1.cell? a3 = some v3 ∧ w1.cell? a4 = some v4 ∧ w1.cell? a5 = some v5 ∧ w1.cell? a6 = some v6 ∧ w1.cell? a7 = some v7 ∧ w1.cell? a8 = some v8 ∧ w1.cell? a9 = some v9 ∧ N ≤ w1.heap.size ∧ Below N w w1 := two hb (two hb (two hb (two hb (two hb (ends hb))))) h
theorem keep12 (hb : Below W.heap.size W w1) (h : W.cell? a0 = some v0 ∧ W.cell? a1 = some v1 ∧ W.cell? a2 = some v2 ∧ W.cell? a3 = some v3 ∧ W.cell? a4 = some v4 ∧ W.cell? a5 = some v5 ∧ W.cell? a6 = some v6 ∧ W.cell? a7 = some v7 ∧ W.cell? a8 = some v8 ∧ W.cell? a9 = some v9 ∧ W.cell? a10 = some v10 ∧ W.cell? a11 = some v11 ∧ N ≤ W.heap.size ∧ Below N w W) :
    w1.cell? a0 = some v0 ∧ w1.cell? a1 = some v1 ∧ w1.cell? a2 = some v2 ∧ w1.cell? a3 = some v3 ∧ w1.cell? a4 = some v4 ∧ w1.cell? a5 = some v5 ∧ w1.cell? a6 = some v6 ∧ w1.cell? a7 = some v7 ∧ w1.cell? a8 = some v8 ∧ w1.cell? a9 = some v9 ∧ w1.cell? a10 = some v10 ∧ w1.cell? a11 = some v11 ∧ N ≤ w1.heap.size ∧ Below N w w1 := two hb (two hb (two hb (two hb (two hb (two hb (ends hb)))))) h
theorem keep14 (hb : Below W.heap.size W w1) (h : W.cell? a0 = some v0 ∧ W.cell? a1 = some v1 ∧ W.cell? a2 = some v2 ∧ W.cell? a3 = some v3 ∧ W.cell? a4 = some v4 ∧ W.cell? a5 = some v5 ∧ W.cell? a6 = some v6 ∧ W.cell? a7 = some v7 ∧ W.cell? a8 = some v8 ∧ W.cell? a9 = some v9 ∧ W.cell? a10 = some v10 ∧ W.cell? a11 = some v11 ∧ W.cell? a12 = some v12 ∧ W.cell? a13 = some v13 ∧ N ≤ W.heap.size ∧ Below N w W) :
    w1.cell? a0 = some v0 ∧ w1.cell? a1 = some v1 ∧ w1.cell? a2 = some v2 ∧ w1.cell? a3 = some v3 ∧ w1.cell? a4 = some v4 ∧ w1.cell? a5 = some v5 ∧ w1.cell? a6 = some v6 ∧ w1.cell? a7 = some v7 ∧ w1.cell? a8 = some v8 ∧ w1.cell? a9 = some v9 ∧ w1.cell? a10 = some v10 ∧ w1.cell? a11 = some v11 ∧ w1.cell? a12 = some v12 ∧ w1.cell? a13 = some v13 ∧ N ≤ w1.heap.size ∧ Below N w w1 := two hb (two hb (two hb (two hb (two hb (two hb (two hb (ends hb))))))) h
theorem add8 (h : W.cell? a0 = some v0 ∧ W.cell? a1 = some v1 ∧ W.cell? a2 = some v2 ∧ W.cell? a3 = some v3 ∧ W.cell? a4 = some v4 ∧ W.cell? a5 = some v5 ∧ W.cell? a6 = some v6 ∧ W.cell? a7 = some v7 ∧ N ≤ W.heap.size ∧ Below N w W) (b : Nat) (e : W.heap.size = b) (x y : Value) (t : TypeId) :
    (W.alloc (.cells #[x, y] t)).cell? a0 = some v0 ∧ (W.alloc (.cells #[x, y] t)).cell? a1 = some v1 ∧ (W.alloc (.cells #[x, y] t)).cell? a2 = some v2 ∧ (W.alloc (.cells #[x, y] t)).cell? a3 = some v3 ∧ (W.alloc (.cells #[x, y] t)).cell? a4 = some v4 ∧ (W.alloc (.cells #[x, y] t)).cell? a5 = some v5 ∧ (W.alloc (.cells #[x, y] t)).cell? a6 = some v6 ∧ (W.alloc (.cells #[x, y] t)).cell? a7 = some v7 ∧ (W.alloc (.cells #[x, y] t)).cell? ⟨b, 0, none⟩ = some x ∧ (W.alloc (.cells #[x, y] t)).cell? ⟨b, 1, none⟩ = some y ∧ N ≤ (W.alloc (.cells #[x, y] t)).heap.size ∧ Below N w (W.alloc (.cells #[x, y] t)) := two (behind ..) (two (behind ..) (two (behind ..) (two (behind ..) (fun h => add0 h b e x y t)))) h
theorem add10 (h : W.cell? a0 = some v0 ∧ W.cell? a1 = some v1 ∧ W.cell? a2 = some v2 ∧ W.cell? a3 = some v3 ∧ W.cell? a4 = some v4 ∧ W.cell? a5 = some v5 ∧ W.cell? a6 = some v6 ∧ W.cell? a7 = some v7 ∧ W.cell? a8 = some v8 ∧ W.cell? a9 = some v9 ∧ N ≤ W.heap.size ∧ Below N w W) (b : Nat) (e : W.heap.size = b) (x y : Value) (t : TypeId) :
    (W.alloc (.cells #[x, y] t)).cell? a0 = some v0 ∧ (W.alloc (.cells #[x, y] t)).cell? a1 = some v1 ∧ (W.alloc (.cells #[x, y] t)).cell? a2 = some v2 ∧ (W.alloc (.cells #[x, y] t)).cell? a3 = some v3 ∧ (W.alloc (.cells #[x, y] t)).cell? a4 = some v4 ∧ (W.alloc (.cells #[x, y] t)).cell? a5 = some v5 ∧ (W.alloc (.cells #[x, y] t)).cell? a6 = some v6 ∧ (W.alloc (.cells #[x, y] t)).cell? a7 = some v7 ∧ (W.alloc (.cells #[x, y] t)).cell? a8 = some v8 ∧ (W.alloc (.cells #[x, y] t)).cell? a9 = some v9 ∧ (W.alloc (.cells #[x, y] t)).cell? ⟨b, 0, none⟩ = some x ∧ (W.alloc (.cells #[x, y] t)).cell? ⟨b, 1, none⟩ = some y ∧ N ≤ (W.alloc (.cells #[x, y] t)).heap.size ∧ Below N w (W.alloc (.cells #[x, y] t)) := two (behind ..) (two (behind ..) (two (behind ..) (two (behind ..) (two (behind ..) (fun h => add0 h b e x y t))))) h
theorem add12 (h : W.cell? a0 = some v0 ∧ W.cell? a1 = some v1 ∧ W.cell? a2 = some v2 ∧ W.cell? a3 = some v3 ∧ W.cell? a4 = some v4 ∧ W.cell? a5 = some v5 ∧ W.cell? a6 = some v6 ∧ W.cell? a7 = some v7 ∧ W.cell? a8 = some v8 ∧ W.cell? a9 = some v9 ∧ W.cell? a10 = some v10 ∧ W.cell? a11 = some v11 ∧ N ≤ W.heap.size ∧ Below N w W) (b : Nat) (e : W.heap.size = b) (x y : Value) (t : TypeId) :
    (W.alloc (.cells #[x, y] t)).cell? a0 = some v0 ∧ (W.alloc (.cells #[x, y] t)).cell? a1 = some v1 ∧ (W.alloc (.cells #[x, y] t)).cell? a2 = some v2 ∧ (W.alloc (.cells #[x, y] t)).cell? a3 = some v3 ∧ (W.alloc (.cells #[x, y] t)).cell? a4 = some v4 ∧ (W.alloc (.cells #[x, y] t)).cell? a5 = some v5 ∧ (W.alloc (.cells #[x, y] t)).cell? a6 = some v6 ∧ (W.alloc (.cells #[x, y] t)).cell? a7 = some v7 ∧ (W.alloc (.cells #[x, y] t)).cell? a8 = some v8 ∧ (W.alloc (.cells #[x, y] t)).cell? a9 = some v9 ∧ (W.alloc (.cells #[x, y] t)).cell? a10 = some v10 ∧ (W.alloc (.cells #[x, y] t)).cell? a11 = some v11 ∧ (W.alloc (.cells #[x, y] t)).cell? ⟨b, 0, none⟩ = some x ∧ (W.alloc (.cells #[x, y] t)).cell? ⟨b, 1, none⟩ = some y ∧ N ≤ (W.alloc (.cells #[x, y] t)).heap.size ∧ Below N w (W.alloc (.cells #[x, y] t)) := two (behind ..) (two (behind ..) (two (behind ..) (two (behind ..) (two (behind ..) (two (behind ..) (fun h => add0 h b e x y t)))))) h
theorem drewEnds (h : N ≤ W.heap.size ∧ Below N w W) : N ≤ W.drew.heap.size ∧ Below N w W.drew := ⟨h.1, h.2.drew⟩
theorem drewTwo {P P' : Prop} (f : P → P') (h : W.cell? a0 = some v0 ∧ W.cell? a1 = some v1 ∧ P) : W.drew.cell? a0 = some v0 ∧ W.drew.cell? a1 = some v1 ∧ P' := ⟨h.1, h.2.1, f h.2.2⟩
theorem drew2 (h : W.cell? a0 = some v0 ∧ W.cell? a1 = some v1 ∧ N ≤ W.heap.size ∧ Below N w W) :
    W.drew.cell? a0 = some v0 ∧ W.drew.cell? a1 = some v1 ∧ N ≤ W.drew.heap.size ∧ Below N w W.drew := drewTwo (drewEnds) h
theorem drew4 (h : W.cell? a0 = some v0 ∧ W.cell? a1 = some v1 ∧ W.cell? a2 = some v2 ∧ W.cell? a3 = some v3 ∧ N ≤ W.heap.size ∧ Below N w W) :
    W.drew.cell? a0 = some v0 ∧ W.drew.cell? a1 = some v1 ∧ W.drew.cell? a2 = some v2 ∧ W.drew.cell? a3 = some v3 ∧ N ≤ W.drew.heap.size ∧ Below N w W.drew := drewTwo (drewTwo (drewEnds)) h
theorem drew6 (h : W.cell? a0 = some v0 ∧ W.cell? a1 = some v1 ∧ W.cell? a2 = some v2 ∧ W.cell? a3 = some v3 ∧ W.cell? a4 = some v4 ∧ W.cell? a5 = some v5 ∧ N ≤ W.heap.size ∧ Below N w W) :
    W.drew.cell? a0 = some v0 ∧ W.drew.cell? a1 = some v1 ∧ W.drew.cell? a2 = some v2 ∧ W.drew.cell? a3 = some v3 ∧ W.drew.cell? a4 = some v4 ∧ W.drew.cell? a5 = some v5 ∧ N ≤ W.drew.heap.size ∧ Below N w W.drew := drewTwo (drewTwo (drewTwo (drewEnds))) h
theorem drew10 (h : W.cell? a0 = some v0 ∧ W.cell? a1 = some v1 ∧ W.cell? a2 = some v2 ∧ W.cell? a3 = some v3 ∧ W.cell? a4 = some v4 ∧ W.cell? a5 = some v5 ∧ W.cell? a6 = some v6 ∧ W.cell? a7 = some v7 ∧ W.cell? a8 = some v8 ∧ W.cell? a9 = some v9 ∧ N ≤ W.heap.size ∧ Below N w W) :
    W.drew.cell? a0 = some v0 ∧ W.drew.cell? a1 = some v1 ∧ W.drew.cell? a2 = some v2 ∧ W.drew.cell? a3 = some v3 ∧ W.drew.cell? a4 = some v4 ∧ W.drew.cell? a5 = some v5 ∧ W.drew.cell? a6 = some v6 ∧ W.drew.cell? a7 = some v7 ∧ W.drew.cell? a8 = some v8 ∧ W.drew.cell? a9 = some v9 ∧ N ≤ W.drew.heap.size ∧ Below N w W.drew := drewTwo (drewTwo (drewTwo (drewTwo (drewTwo (drewEnds))))) h
theorem drew12 (h : W.cell? a0 = some v0 ∧ W.cell? a1 = some v1 ∧ W.cell? a2 = some v2 ∧ W.cell? a3 = some v3 ∧ W.cell? a4 = some v4 ∧ W.cell? a5 = some v5 ∧ W.cell? a6 = some v6 ∧ W.cell? a7 = some v7 ∧ W.cell? a8 = some v8 ∧ W.cell? a9 = some v9 ∧ W.cell? a10 = some v10 ∧ W.cell? a11 = some v11 ∧ N ≤ W.heap.size ∧ Below N w W) :
    W.drew.cell? a0 = some v0 ∧ W.drew.cell? a1 = some v1 ∧ W.drew.cell? a2 = some v2 ∧ W.drew.cell? a3 = some v3 ∧ W.drew.cell? a4 = some v4 ∧ W.drew.cell? a5 = some v5 ∧ W.drew.cell? a6 = some v6 ∧ W.drew.cell? a7 = some v7 ∧ W.drew.cell? a8 = some v8 ∧ W.drew.cell? a9 = some v9 ∧ W.drew.cell? a10 = some v10 ∧ W.drew.cell? a11 = some v11 ∧ N ≤ W.drew.heap.size ∧ Below N w W.drew := drewTwo (drewTwo (drewTwo (drewTwo (drewTwo (drewTwo (drewEnds)))))) h
theorem drew14 (h : W.cell? a0 = some v0 ∧ W.cell? a1 = some v1 ∧ W.cell? a2 = some v2 ∧ W.cell? a3 = some v3 ∧ W.cell? a4 = some v4 ∧ W.cell? a5 = some v5 ∧ W.cell? a6 = some v6 ∧ W.cell? a7 = some v7 ∧ W.cell? a8 = some v8 ∧ W.cell? a9 = some v9 ∧ W.cell? a10 = some v10 ∧ W.cell? a11 = some v11 ∧ W.cell? a12 = some v12 ∧ W.cell? a13 = some v13 ∧ N ≤ W.heap.size ∧ Below N w W) :
    W.drew.cell? a0 = some v0 ∧ W.drew.cell? a1 = some v1 ∧ W.drew.cell? a2 = some v2 ∧ W.drew.cell? a3 = some v3 ∧ W.drew.cell? a4 = some v4 ∧ W.drew.cell? a5 = some v5 ∧ W.drew.cell? a6 = some v6 ∧ W.drew.cell? a7 = some v7 ∧ W.drew.cell? a8 = some v8 ∧ W.drew.cell? a9 = some v9 ∧ W.drew.cell? a10 = some v10 ∧ W.drew.cell? a11 = some v11 ∧ W.drew.cell? a12 = some v12 ∧ W.drew.cell? a13 = some v13 ∧ N ≤ W.drew.heap.size ∧ Below N w W.drew := drewTwo (drewTwo (drewTwo (drewTwo (drewTwo (drewTwo (drewTwo (drewEnds))))))) h
theorem end10 {p0 p1 p2 p3 p4 p5 p6 p7 p8 p9 p10 : Prop} (h : p0 ∧ p1 ∧ p2 ∧ p3 ∧ p4 ∧ p5 ∧ p6 ∧ p7 ∧ p8 ∧ p9 ∧ p10 ∧ Below N w W) : Below N w W := h.2.2.2.2.2.2.2.2.2.2.2
theorem end12 {p0 p1 p2 p3 p4 p5 p6 p7 p8 p9 p10 p11 p12 : Prop} (h : p0 ∧ p1 ∧ p2 ∧ p3 ∧ p4 ∧ p5 ∧ p6 ∧ p7 ∧ p8 ∧ p9 ∧ p10 ∧ p11 ∧ p12 ∧ Below N w W) : Below N w W := h.2.2.2.2.2.2.2.2.2.2.2.2.2
theorem end14 {p0 p1 p2 p3 p4 p5 p6 p7 p8 p9 p10 p11 p12 p13 p14 : Prop} (h : p0 ∧ p1 ∧ p2 ∧ p3 ∧ p4 ∧ p5 ∧ p6 ∧ p7 ∧ p8 ∧ p9 ∧ p10 ∧ p11 ∧ p12 ∧ p13 ∧ p14 ∧ Below N w W) : Below N w W := h.2.2.2.2.2.2.2.2.2.2.2.2.2.2.2
end Go.Proofs.YtjffnjiggcfhcaaGreatDoor.Kp
