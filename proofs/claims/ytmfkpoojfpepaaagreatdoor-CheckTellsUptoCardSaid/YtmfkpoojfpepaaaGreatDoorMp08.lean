/-
  Contracts of isBare, isLeaf, isWhole of package filter: has a filter all that its kind asks for, and nothing else, but for its parts' own fields? Memory that was there is left as it was.
-/
import Derived.Test.YtmfkpoojfpepaaaGreatDoorMp03
import Derived.Test.YtmfkpoojfpepaaaGreatDoorMp05
import Derived.Test.YtmfkpoojfpepaaaGreatDoorMp07
import Derived.Test.YtmfkpoojfpepaaaGreatDoorMp06
import Derived.Test.YtmfkpoojfpepaaaGreatDoorMp02
import Derived.LaidEql
import Derived.WalkKit
import Derived.WalkSpells
import Derived.Below
import Derived.Lib.Hide
/-
  Contract of the document's answer one, where a number begins. Memory that was there is left as it was.
-/
namespace Go.Proofs.YtmfkpoojfpepaaaGreatDoor.Tk
open Go.RowKit
set_option linter.unusedVariables false
set_option linter.unusedSimpArgs false

theorem numL_is {l : List UInt8} {x : Lx} (h : numL l = some x) : x.kind = 3 ∧ x.str = [] := by
  match l, h with
  | c :: r, h =>
    rw [numL_cons] at h
    split at h
    · split at h
      · cases h
      · have e := (Option.some.inj h).symm
        subst e
        exact ⟨rfl, rfl⟩
    · split at h
      · cases h
      · have e := (Option.some.inj h).symm
        subst e
        exact ⟨rfl, rfl⟩
set_option maxRecDepth 100000 in
set_option maxHeartbeats 8000000 in
theorem oneNumMinus (s : ByteArray) (hs : s.size ≤ 500) (a : Nat) (c : UInt8) (r : List UInt8) (hL : s.data.toList.drop a = c :: r) (h1 : low c = false) (h2 : dig c = false) (hc : c.toNat = 45) (w : World) :
    Calls Tryz.prog 58 #[.string s, .int .i64 (a : Nat)] w fun e w' => OneEnd a e (numL (c :: r)) ∧ Below w.heap.size w w' := by
  have hlen := at_len hL
  have halt : a < s.size := by omega
  have haz : (a : Int) < (s.size : Int) := by omega
  have hb0 := at_byte hL halt
  have HL := Lib.hid hL
  have HLEN := Lib.hid hlen
  have H5 := Lib.hid hs
  clear hL hlen hs
  have H1 := Lib.hid h1
  have H2 := Lib.hid h2
  have C := Lib.hid (fun W => refNum_minus s H5.out a c r HL.out hc W)
  have hcz : ((c.toNat : Nat) : Int) = 45 := by omega
  have CL := Lib.hid (fun W => refLow_any c W)
  have CD := Lib.hid (fun W => refDigit_any c W)
  rw [hcz, H1.out] at CL
  rw [hcz, H2.out] at CD
  clear h1 h2 hc
  cases hn : numL (c :: r) with
  | none =>
    rw [hn] at C
    clear hn
    go_enter Tryz.func58, Tryz.ntmps58
    go_wp2_with fail
    refine (CL.out _).mono ?_
    rintro e w1 ⟨rfl, rfl⟩
    go_wp2_with fail
    refine (CD.out _).mono ?_
    rintro e w1 ⟨rfl, rfl⟩
    go_wp2_with fail
    refine (C.out _).mono ?_
    rintro e w1 ⟨⟨n, z, rfl⟩, rfl⟩
    go_wp2_with fail
    refine bodyPost_ret (v := .tuple #[.agg #[.int .i64 3, .int .i64 (a : Nat), .int .i64 n, .string ⟨#[]⟩], .int .i64 z, .bool false]) (by simp [results, Tryz.results58, go_sem, *]) rfl ⟨?_, ?_⟩
    · exact ⟨3, (a : Nat), n, _, z, rfl⟩
    · exact (Below.refl _ _).alloc (Nat.le_refl _) _
  | some x =>
    rw [hn] at C
    have HX := Lib.hid (numL_is hn)
    clear hn
    go_enter Tryz.func58, Tryz.ntmps58
    go_wp2_with fail
    refine (CL.out _).mono ?_
    rintro e w1 ⟨rfl, rfl⟩
    go_wp2_with fail
    refine (CD.out _).mono ?_
    rintro e w1 ⟨rfl, rfl⟩
    go_wp2_with fail
    refine (C.out _).mono ?_
    rintro e w1 ⟨he, rfl⟩
    have he2 : e = .returned (.tuple #[.int .i64 x.num, .int .i64 ((a + x.size : Nat) : Int), .bool true]) := he
    subst he2
    clear he
    obtain ⟨n, hn⟩ : ∃ n, n = x.num := ⟨_, rfl⟩
    obtain ⟨z, hz⟩ : ∃ z : Nat, z = a + x.size := ⟨_, rfl⟩
    rw [← hn, ← hz]
    have HNZ := Lib.hid (And.intro hn hz)
    clear hn hz
    go_wp2_with fail
    refine bodyPost_ret (v := .tuple #[.agg #[.int .i64 3, .int .i64 (a : Nat), .int .i64 n, .string ⟨#[]⟩], .int .i64 (z : Nat), .bool true]) (by simp [results, Tryz.results58, go_sem, *]) rfl ⟨?_, ?_⟩
    · show _ = _
      rw [HX.out.1, HX.out.2, HNZ.out.1, HNZ.out.2]
    · exact (Below.refl _ _).alloc (Nat.le_refl _) _
set_option maxRecDepth 100000 in
set_option maxHeartbeats 8000000 in
theorem oneNumPlain (s : ByteArray) (hs : s.size ≤ 500) (a : Nat) (c : UInt8) (r : List UInt8) (hL : s.data.toList.drop a = c :: r) (h1 : low c = false) (h2 : dig c = true) (hc : ¬ c.toNat = 45) (w : World) :
    Calls Tryz.prog 58 #[.string s, .int .i64 (a : Nat)] w fun e w' => OneEnd a e (numL (c :: r)) ∧ Below w.heap.size w w' := by
  have hlen := at_len hL
  have halt : a < s.size := by omega
  have haz : (a : Int) < (s.size : Int) := by omega
  have hb0 := at_byte hL halt
  have HL := Lib.hid hL
  have HLEN := Lib.hid hlen
  have H5 := Lib.hid hs
  clear hL hlen hs
  have H1 := Lib.hid h1
  have H2 := Lib.hid h2
  have C := Lib.hid (fun W => refNum_plain s H5.out a c r HL.out hc W)
  have CL := Lib.hid (fun W => refLow_any c W)
  have CD := Lib.hid (fun W => refDigit_any c W)
  rw [H1.out] at CL
  rw [H2.out] at CD
  clear h1 h2 hc
  cases hn : numL (c :: r) with
  | none =>
    rw [hn] at C
    clear hn
    go_enter Tryz.func58, Tryz.ntmps58
    go_wp2_with fail
    refine (CL.out _).mono ?_
    rintro e w1 ⟨rfl, rfl⟩
    go_wp2_with fail
    refine (CD.out _).mono ?_
    rintro e w1 ⟨rfl, rfl⟩
    go_wp2_with fail
    refine (C.out _).mono ?_
    rintro e w1 ⟨⟨n, z, rfl⟩, rfl⟩
    go_wp2_with fail
    refine bodyPost_ret (v := .tuple #[.agg #[.int .i64 3, .int .i64 (a : Nat), .int .i64 n, .string ⟨#[]⟩], .int .i64 z, .bool false]) (by simp [results, Tryz.results58, go_sem, *]) rfl ⟨?_, ?_⟩
    · exact ⟨3, (a : Nat), n, _, z, rfl⟩
    · exact (Below.refl _ _).alloc (Nat.le_refl _) _
  | some x =>
    rw [hn] at C
    have HX := Lib.hid (numL_is hn)
    clear hn
    go_enter Tryz.func58, Tryz.ntmps58
    go_wp2_with fail
    refine (CL.out _).mono ?_
    rintro e w1 ⟨rfl, rfl⟩
    go_wp2_with fail
    refine (CD.out _).mono ?_
    rintro e w1 ⟨rfl, rfl⟩
    go_wp2_with fail
    refine (C.out _).mono ?_
    rintro e w1 ⟨he, rfl⟩
    have he2 : e = .returned (.tuple #[.int .i64 x.num, .int .i64 ((a + x.size : Nat) : Int), .bool true]) := he
    subst he2
    clear he
    obtain ⟨n, hn⟩ : ∃ n, n = x.num := ⟨_, rfl⟩
    obtain ⟨z, hz⟩ : ∃ z : Nat, z = a + x.size := ⟨_, rfl⟩
    rw [← hn, ← hz]
    have HNZ := Lib.hid (And.intro hn hz)
    clear hn hz
    go_wp2_with fail
    refine bodyPost_ret (v := .tuple #[.agg #[.int .i64 3, .int .i64 (a : Nat), .int .i64 n, .string ⟨#[]⟩], .int .i64 (z : Nat), .bool true]) (by simp [results, Tryz.results58, go_sem, *]) rfl ⟨?_, ?_⟩
    · show _ = _
      rw [HX.out.1, HX.out.2, HNZ.out.1, HNZ.out.2]
    · exact (Below.refl _ _).alloc (Nat.le_refl _) _
end Go.Proofs.YtmfkpoojfpepaaaGreatDoor.Tk
/-
  Contract of the document's answer one: the token at a place of a text, where it ends, and whether it is well. Memory that was there is left as it was.
-/
namespace Go.Proofs.YtmfkpoojfpepaaaGreatDoor.Tk
open Go.RowKit
set_option linter.unusedVariables false

theorem refOne_any (s : ByteArray) (hs : s.size ≤ 500) (a : Nat) (c : UInt8) (r : List UInt8) (hL : s.data.toList.drop a = c :: r) (w : World) :
    Calls Tryz.prog 58 #[.string s, .int .i64 (a : Nat)] w fun e w' => OneEnd a e (lex (c :: r)) ∧ Below w.heap.size w w' := by
  rw [lex_cons]
  by_cases h1 : low c = true
  · rw [if_pos h1]
    exact oneName s hs a c r hL h1 w
  · have h1f : low c = false := by simpa using h1
    rw [if_neg h1]
    by_cases h2 : dig c = true
    · rw [h2, Bool.true_or, if_pos rfl]
      exact oneNumPlain s hs a c r hL h1f h2 (by simp only [dig, Bool.and_eq_true, decide_eq_true_eq] at h2; omega) w
    · have h2f : dig c = false := by simpa using h2
      rw [h2f, Bool.false_or]
      by_cases h3 : c.toNat = 45
      · rw [if_pos (by rw [h3]; rfl)]
        exact oneNumMinus s hs a c r hL h1f h2f h3 w
      · rw [if_neg (fun h => h3 (eq_of_beq h))]
        by_cases h4 : c.toNat = 34
        · rw [if_pos (by rw [h4]; rfl)]
          exact oneText s hs a c r hL h1f h2f h4 w
        · rw [if_neg (fun h => h4 (eq_of_beq h))]
          exact oneSign s hs a c r hL h1f h2f h3 h4 w
end Go.Proofs.YtmfkpoojfpepaaaGreatDoor.Tk
/-
  What token.Cut answers at any text, in one; contracts of isName of package filter and of Name of the document's answer: is a text a name? Memory that was there is left as it was.
-/
namespace Go.Proofs.YtmfkpoojfpepaaaGreatDoor.Fl
open Go.RowKit Go.Proofs.YtmfkpoojfpepaaaGreatDoor.Tk
set_option linter.unusedVariables false
set_option linter.unusedSimpArgs false

theorem name_short {l : List UInt8} (h : nameB l = true) : l.length ≤ 20 ∧ 1 ≤ l.length := by
  have hx := name_lex h
  refine ⟨?_, (lex_size hx).1⟩
  match l, h, hx with
  | c :: r, h, hx =>
    rw [lex_cons] at hx
    split at hx
    · unfold nameL at hx
      split at hx
      · rename_i hr
        have e := Option.some.inj hx
        have e2 := congrArg Lx.size e
        simp only at e2
        omega
      · cases hx
    · split at hx
      · rw [numL_cons] at hx
        split at hx
        · split at hx
          · cases hx
          · have e := congrArg Lx.kind (Option.some.inj hx)
            simp only at e
            omega
        · split at hx
          · cases hx
          · have e := congrArg Lx.kind (Option.some.inj hx)
            simp only at e
            omega
      · split at hx
        · unfold textL at hx
          split at hx
          · have e := congrArg Lx.kind (Option.some.inj hx)
            simp only at e
            omega
          · cases hx
        · unfold signL at hx
          split at hx
          · have e := congrArg Lx.kind (Option.some.inj hx)
            simp only at e
            omega
          · split at hx
            · have e := congrArg Lx.kind (Option.some.inj hx)
              simp only at e
              omega
            · cases hx
/-- Is it the one token, a name, which is all of l? -/
def oneNm (l : List UInt8) : Option (List Tok) → Bool
  | some [t] => t.kind == 1 && t.str == l
  | _ => false
theorem name_cut (l : List UInt8) : nameB l = oneNm l (cutAt 0 l) := by
  cases h : nameB l with
  | true =>
    obtain ⟨ks, e, hc⟩ := cuts_of (name_lex h) rfl 0 [] stp_nil
    rw [List.append_nil, cutAt_nil] at hc
    rw [hc]
    have hl : ks.length = 1 := by
      have := congrArg List.length e
      simpa using this
    match ks, hl, e with
    | [t], _, e =>
      simp only [List.map_cons, List.map_nil, List.cons.injEq, and_true, core] at e
      have e1 := congrArg Tc.kind e
      have e2 := congrArg Tc.str e
      simp only at e1 e2
      simp [oneNm, e1, e2]
  | false =>
    symm
    cases hc : cutAt 0 l with
    | none => rfl
    | some ts =>
      match ts, hc with
      | [], _ => rfl
      | _ :: _ :: _, _ => rfl
      | [t], hc =>
        have hg := (cut_good l.length 0 l [t] (Nat.le_refl _) hc).1 (core t) (by simp)
        simp only [oneNm, Bool.and_eq_false_iff, beq_eq_false_iff_ne]
        by_cases hk : t.kind = 1
        · right
          intro hs
          have := hg.1 hk
          rw [show (core t).str = t.str from rfl, hs, h] at this
          cases this
        · exact Or.inl hk
theorem eqE (n : Int) (w : World) : (binOp .eql 34 (.iface 44 (.int .i64 n)) .nilIface).run Tryz.prog w = .ok (.bool false) w := by kernel_rfl
theorem eqN (w : World) : (binOp .eql 34 .nilIface .nilIface).run Tryz.prog w = .ok (.bool true) w := by kernel_rfl
theorem neqE (n : Int) (w : World) : (binOp .neq 34 (.iface 44 (.int .i64 n)) .nilIface).run Tryz.prog w = .ok (.bool true) w := by kernel_rfl
theorem neqN (w : World) : (binOp .neq 34 .nilIface .nilIface).run Tryz.prog w = .ok (.bool false) w := by kernel_rfl
/-- What token.Cut tells of any text. -/
def CutAny (s : ByteArray) (w' : World) (e : Ending) : Prop :=
  (∃ n : Int, e = .returned (.tuple #[.slice none 0 0, .iface 44 (.int .i64 n)]) ∧ (500 < s.size ∧ n = 5 ∨ s.size ≤ 500 ∧ n = 2 ∧ cutAt 0 s.data.toList = none)) ∨
  (∃ ts a cap, e = .returned (.tuple #[.slice a ts.length cap, .nilIface]) ∧ s.size ≤ 500 ∧ cutAt 0 s.data.toList = some ts ∧ TksAt w' w'.heap.size a ts ∧ ts.length ≤ cap)
theorem cut_all_any (s : ByteArray) (w : World) (hE : LaidE w) : Calls Tryz.prog 87 #[.string s] w fun e w' => CutAny s w' e ∧ Below w.heap.size w w' := by
  by_cases h5 : s.size ≤ 500
  · refine (cut_any s h5 w hE).mono ?_
    rintro e w1 ⟨hc, hb⟩
    refine ⟨?_, hb⟩
    cases hC : cutAt 0 s.data.toList with
    | none =>
      rw [hC] at hc
      exact Or.inl ⟨2, hc, Or.inr ⟨h5, rfl, hC⟩⟩
    | some ts =>
      rw [hC] at hc
      obtain ⟨u, rfl, ho⟩ := hc
      have hcap : ∀ a cap, u = .slice a ts.length cap → ts.length ≤ cap := by
        rintro a cap rfl
        rcases ho.2 with ⟨h1, h2⟩ | ⟨g, cp, cur, h1, _, _, h3, _⟩
        · injection h1 with _ e2 e3
          omega
        · injection h1 with _ e2 e3
          omega
      obtain ⟨a, cap, rfl, ht⟩ := own_tks ho
      exact Or.inr ⟨ts, a, cap, rfl, h5, hC, ht, hcap a cap rfl⟩
  · refine (cut_large s (by omega) w).mono ?_
    rintro e w1 ⟨rfl, rfl⟩
    exact ⟨Or.inl ⟨5, rfl, Or.inl ⟨by omega, rfl⟩⟩, Below.refl _ _⟩
theorem bytes_eq (s : ByteArray) (l : List UInt8) : ((⟨l.toArray⟩ : ByteArray) = s) ↔ l = s.data.toList := by
  obtain ⟨d⟩ := s
  obtain ⟨m⟩ := d
  simp
set_option maxHeartbeats 1000000 in
set_option maxRecDepth 100000 in
theorem isName_any (s : ByteArray) (w : World) (hE : LaidE w) : Calls Tryz.prog 84 #[.string s] w fun e w' => e = .returned (.bool (nameB s.data.toList)) ∧ Below w.heap.size w w' := by
  have q1 := eqE 5
  have q2 := eqE 2
  have q3 := eqN
  obtain ⟨res, hres⟩ : ∃ b, nameB s.data.toList = b := ⟨_, rfl⟩
  rw [hres]
  have HR := Lib.hid hres
  have HC := Lib.hid (cut_all_any s w hE)
  clear hres hE
  go_enter Tryz.func84, Tryz.ntmps84
  go_wp2_with fail
  refine HC.out.mono ?_
  rintro e w1 ⟨hc, hb⟩
  have HB := Lib.hid hb
  clear hb
  rcases hc with ⟨n, rfl, hn⟩ | ⟨ts, a, cap, rfl, h5, hC, ht, _⟩
  · have hf : res = false := by
      rw [← HR.out]
      rcases hn with ⟨h1, _⟩ | ⟨_, _, h1⟩
      · cases h : nameB s.data.toList with
        | false => rfl
        | true => have := (name_short h).1; have h2 := Lib.size_eq s; omega
      · rw [name_cut, h1]; rfl
    have hn2 : n = 5 ∨ n = 2 := by omega
    subst hf
    clear hn
    rcases hn2 with rfl | rfl
    · go_wp2_with fail
      go_ret
      exact ⟨rfl, HB.out⟩
    · go_wp2_with fail
      go_ret
      exact ⟨rfl, HB.out⟩
  · have HT := Lib.hid ht
    have HN := Lib.hid (show res = oneNm s.data.toList (some ts) by rw [← HR.out, name_cut, hC])
    clear hC ht h5
    by_cases hl : ts.length = 1
    · obtain ⟨t, rfl⟩ : ∃ t, ts = [t] := by
        match ts, hl with
        | [t], _ => exact ⟨t, rfl⟩
      obtain ⟨g, rfl, hg, hcell⟩ := HT.out.2 (by simp)
      obtain ⟨c0, c1, c2, c3⟩ := hcell 0 (by simp)
      simp only [List.getElem_cons_zero, Nat.zero_mul, Nat.zero_add] at c0 c3
      obtain ⟨k, hk⟩ : ∃ k, k = t.kind := ⟨_, rfl⟩
      obtain ⟨str, hstr⟩ : ∃ x : ByteArray, x = ⟨t.str.toArray⟩ := ⟨_, rfl⟩
      rw [← hk] at c0
      rw [← hstr] at c3
      have HN2 := Lib.hid (show res = (decide (k = 1) && (str.toList == s.toList)) by
        rw [HN.out, hk, hstr, Lib.toList_data, Lib.toList_data]
        by_cases h1 : t.kind = 1 <;> simp [oneNm, h1])
      clear hk hstr hcell c1 c2 hl
      by_cases h1 : k = 1
      · have HF := Lib.hid (show res = (str.toList == s.toList) by rw [HN2.out, decide_eq_true h1, Bool.true_and])
        go_wp2_with fail
        go_ret
        exact ⟨by rw [HF.out]; rfl, HB.out⟩
      · have HF := Lib.hid (show res = false by rw [HN2.out, decide_eq_false h1]; rfl)
        go_wp2_with fail
        go_ret
        exact ⟨by rw [HF.out]; rfl, HB.out⟩
    · have HF := Lib.hid (show res = false by
        rw [HN.out]
        match ts, hl with
        | [], _ => rfl
        | _ :: _ :: _, _ => rfl
        | [t], h => exact absurd rfl h)
      have hlz : ¬ (ts.length : Int) = 1 := by omega
      go_wp2_with fail
      go_ret
      exact ⟨by rw [HF.out]; rfl, HB.out⟩
end Go.Proofs.YtmfkpoojfpepaaaGreatDoor.Fl
/-
  Cells that are known stay known behind whatever only makes memory: lists of two to eight cells, at any addresses. No program here.
-/
namespace Go.Proofs.YtmfkpoojfpepaaaGreatDoor.Kp
open Go.RowKit

variable {w W w1 : World} {N : Nat} {a0 a1 a2 a3 a4 a5 a6 a7 a8 a9 a10 a11 a12 a13 : Addr} {v0 v1 v2 v3 v4 v5 v6 v7 v8 v9 v10 v11 v12 v13 : Value}

theorem ends (hb : Below W.heap.size W w1) (h : N ≤ W.heap.size ∧ Below N w W) : N ≤ w1.heap.size ∧ Below N w w1 :=
  ⟨Nat.le_trans h.1 hb.size, h.2.trans (hb.mono h.1)⟩
theorem one {P P' : Prop} (hb : Below W.heap.size W w1) (f : P → P') (h : W.cell? a0 = some v0 ∧ P) : w1.cell? a0 = some v0 ∧ P' := ⟨cell_later hb h.1, f h.2⟩
theorem two {P P' : Prop} (hb : Below W.heap.size W w1) (f : P → P') (h : W.cell? a0 = some v0 ∧ W.cell? a1 = some v1 ∧ P) : w1.cell? a0 = some v0 ∧ w1.cell? a1 = some v1 ∧ P' := one hb (one hb f) h

theorem keep2 (hb : Below W.heap.size W w1) (h : W.cell? a0 = some v0 ∧ W.cell? a1 = some v1 ∧ N ≤ W.heap.size ∧ Below N w W) :
    w1.cell? a0 = some v0 ∧ w1.cell? a1 = some v1 ∧ N ≤ w1.heap.size ∧ Below N w w1 := two hb (ends hb) h
theorem keep4 (hb : Below W.heap.size W w1) (h : W.cell? a0 = some v0 ∧ W.cell? a1 = some v1 ∧ W.cell? a2 = some v2 ∧ W.cell? a3 = some v3 ∧ N ≤ W.heap.size ∧ Below N w W) :
    w1.cell? a0 = some v0 ∧ w1.cell? a1 = some v1 ∧ w1.cell? a2 = some v2 ∧ w1.cell? a3 = some v3 ∧ N ≤ w1.heap.size ∧ Below N w w1 := two hb (two hb (ends hb)) h
theorem keep6 (hb : Below W.heap.size W w1) (h : W.cell? a0 = some v0 ∧ W.cell? a1 = some v1 ∧ W.cell? a2 = some v2 ∧ W.cell? a3 = some v3 ∧ W.cell? a4 = some v4 ∧ W.cell? a5 = some v5 ∧ N ≤ W.heap.size ∧ Below N w W) :
    w1.cell? a0 = some v0 ∧ w1.cell? a1 = some v1 ∧ w1.cell? a2 = some v2 ∧ w1.cell? a3 = some v3 ∧ w1.cell? a4 = some v4 ∧ w1.cell? a5 = some v5 ∧ N ≤ w1.heap.size ∧ Below N w w1 := two hb (two hb (two hb (ends hb))) h
theorem keep8 (hb : Below W.heap.size W w1) (h : W.cell? a0 = some v0 ∧ W.cell? a1 = some v1 ∧ W.cell? a2 = some v2 ∧ W.cell? a3 = some v3 ∧ W.cell? a4 = some v4 ∧ W.cell? a5 = some v5 ∧ W.cell? a6 = some v6 ∧ W.cell? a7 = some v7 ∧ N ≤ W.heap.size ∧ Below N w W) :
    w1.cell? a0 = some v0 ∧ w1.cell? a1 = some v1 ∧ w1.cell? a2 = some v2 ∧ w1.cell? a3 = some v3 ∧ w1.cell? a4 = some v4 ∧ w1.cell? a5 = some v5 ∧ w1.cell? a6 = some v6 ∧ w1.cell? a7 = some v7 ∧ N ≤ w1.heap.size ∧ Below N w w1 := two hb (two hb (two hb (two hb (ends hb)))) h

/-- A new block of two cells; its number is b. -/
theorem fresh (W : World) (b : Nat) (e : W.heap.size = b) (x y : Value) (t : TypeId) : (W.alloc (.cells #[x, y] t)).cell? ⟨b, 0, none⟩ = some x ∧ (W.alloc (.cells #[x, y] t)).cell? ⟨b, 1, none⟩ = some y := by
  subst e; constructor <;> simp [go_sem]
theorem behind (W : World) (o : Obj) : Below W.heap.size W (W.alloc o) := (Below.refl _ _).alloc (Nat.le_refl _) _
theorem add0 (h : N ≤ W.heap.size ∧ Below N w W) (b : Nat) (e : W.heap.size = b) (x y : Value) (t : TypeId) :
    (W.alloc (.cells #[x, y] t)).cell? ⟨b, 0, none⟩ = some x ∧ (W.alloc (.cells #[x, y] t)).cell? ⟨b, 1, none⟩ = some y ∧ N ≤ (W.alloc (.cells #[x, y] t)).heap.size ∧ Below N w (W.alloc (.cells #[x, y] t)) :=
  ⟨(fresh W b e x y t).1, (fresh W b e x y t).2, ends (behind ..) h⟩
theorem add2 (h : W.cell? a0 = some v0 ∧ W.cell? a1 = some v1 ∧ N ≤ W.heap.size ∧ Below N w W) (b : Nat) (e : W.heap.size = b) (x y : Value) (t : TypeId) :
    (W.alloc (.cells #[x, y] t)).cell? a0 = some v0 ∧ (W.alloc (.cells #[x, y] t)).cell? a1 = some v1 ∧ (W.alloc (.cells #[x, y] t)).cell? ⟨b, 0, none⟩ = some x ∧ (W.alloc (.cells #[x, y] t)).cell? ⟨b, 1, none⟩ = some y
      ∧ N ≤ (W.alloc (.cells #[x, y] t)).heap.size ∧ Below N w (W.alloc (.cells #[x, y] t)) := two (behind ..) (fun h => add0 h b e x y t) h
theorem add4 (h : W.cell? a0 = some v0 ∧ W.cell? a1 = some v1 ∧ W.cell? a2 = some v2 ∧ W.cell? a3 = some v3 ∧ N ≤ W.heap.size ∧ Below N w W) (b : Nat) (e : W.heap.size = b) (x y : Value) (t : TypeId) :
    (W.alloc (.cells #[x, y] t)).cell? a0 = some v0 ∧ (W.alloc (.cells #[x, y] t)).cell? a1 = some v1 ∧ (W.alloc (.cells #[x, y] t)).cell? a2 = some v2 ∧ (W.alloc (.cells #[x, y] t)).cell? a3 = some v3
      ∧ (W.alloc (.cells #[x, y] t)).cell? ⟨b, 0, none⟩ = some x ∧ (W.alloc (.cells #[x, y] t)).cell? ⟨b, 1, none⟩ = some y
      ∧ N ≤ (W.alloc (.cells #[x, y] t)).heap.size ∧ Below N w (W.alloc (.cells #[x, y] t)) := two (behind ..) (two (behind ..) (fun h => add0 h b e x y t)) h
theorem add6 (h : W.cell? a0 = some v0 ∧ W.cell? a1 = some v1 ∧ W.cell? a2 = some v2 ∧ W.cell? a3 = some v3 ∧ W.cell? a4 = some v4 ∧ W.cell? a5 = some v5 ∧ N ≤ W.heap.size ∧ Below N w W) (b : Nat) (e : W.heap.size = b) (x y : Value) (t : TypeId) :
    (W.alloc (.cells #[x, y] t)).cell? a0 = some v0 ∧ (W.alloc (.cells #[x, y] t)).cell? a1 = some v1 ∧ (W.alloc (.cells #[x, y] t)).cell? a2 = some v2 ∧ (W.alloc (.cells #[x, y] t)).cell? a3 = some v3 ∧ (W.alloc (.cells #[x, y] t)).cell? a4 = some v4 ∧ (W.alloc (.cells #[x, y] t)).cell? a5 = some v5
      ∧ (W.alloc (.cells #[x, y] t)).cell? ⟨b, 0, none⟩ = some x ∧ (W.alloc (.cells #[x, y] t)).cell? ⟨b, 1, none⟩ = some y
      ∧ N ≤ (W.alloc (.cells #[x, y] t)).heap.size ∧ Below N w (W.alloc (.cells #[x, y] t)) := two (behind ..) (two (behind ..) (two (behind ..) (fun h => add0 h b e x y t))) h

/-- A draw moves no cell. -/
theorem drew8 (h : W.cell? a0 = some v0 ∧ W.cell? a1 = some v1 ∧ W.cell? a2 = some v2 ∧ W.cell? a3 = some v3 ∧ W.cell? a4 = some v4 ∧ W.cell? a5 = some v5 ∧ W.cell? a6 = some v6 ∧ W.cell? a7 = some v7 ∧ N ≤ W.heap.size ∧ Below N w W) :
    W.drew.cell? a0 = some v0 ∧ W.drew.cell? a1 = some v1 ∧ W.drew.cell? a2 = some v2 ∧ W.drew.cell? a3 = some v3 ∧ W.drew.cell? a4 = some v4 ∧ W.drew.cell? a5 = some v5 ∧ W.drew.cell? a6 = some v6 ∧ W.drew.cell? a7 = some v7 ∧ N ≤ W.drew.heap.size ∧ Below N w W.drew :=
  ⟨h.1, h.2.1, h.2.2.1, h.2.2.2.1, h.2.2.2.2.1, h.2.2.2.2.2.1, h.2.2.2.2.2.2.1, h.2.2.2.2.2.2.2.1, h.2.2.2.2.2.2.2.2.1, h.2.2.2.2.2.2.2.2.2.drew⟩
theorem end2 {p0 p1 p2 : Prop} (h : p0 ∧ p1 ∧ p2 ∧ Below N w W) : Below N w W := h.2.2.2
theorem end4 {p0 p1 p2 p3 p4 : Prop} (h : p0 ∧ p1 ∧ p2 ∧ p3 ∧ p4 ∧ Below N w W) : Below N w W := h.2.2.2.2.2
theorem end6 {p0 p1 p2 p3 p4 p5 p6 : Prop} (h : p0 ∧ p1 ∧ p2 ∧ p3 ∧ p4 ∧ p5 ∧ p6 ∧ Below N w W) : Below N w W := h.2.2.2.2.2.2.2
theorem end8 {p0 p1 p2 p3 p4 p5 p6 p7 p8 : Prop} (h : p0 ∧ p1 ∧ p2 ∧ p3 ∧ p4 ∧ p5 ∧ p6 ∧ p7 ∧ p8 ∧ Below N w W) : Below N w W := h.2.2.2.2.2.2.2.2.2
theorem keep10 (hb : Below W.heap.size W w1) (h : W.cell? a0 = some v0 ∧ W.cell? a1 = some v1 ∧ W.cell? a2 = some v2 ∧ W.cell? a3 = some v3 ∧ W.cell? a4 = some v4 ∧ W.cell? a5 = some v5 ∧ W.cell? a6 = some v6 ∧ W.cell? a7 = some v7 ∧ W.cell? a8 = some v8 ∧ W.cell? a9 = some v9 ∧ N ≤ W.heap.size ∧ Below N w W) :
    w1.cell? a0 = some v0 ∧ w1.cell? a1 = some v1 ∧ w1.cell? a2 = some v2 ∧ w1.cell? a3 = some v3 ∧ w1.cell? a4 = some v4 ∧ w1.cell? a5 = some v5 ∧ w1.cell? a6 = some v6 ∧ w1.cell? a7 = some v7 ∧ w1.cell? a8 = some v8 ∧ w1.cell? a9 = some v9 ∧ N ≤ w1.heap.size ∧ Below N w w1 := two hb (two hb (two hb (two hb (two hb (ends hb))))) h
theorem keep12 (hb : Below W.heap.size W w1) (h : W.cell? a0 = some v0 ∧ W.cell? a1 = some v1 ∧ W.cell? a2 = some v2 ∧ W.cell? a3 = some v3 ∧ W.cell? a4 = some v4 ∧ W.cell? a5 = some v5 ∧ W.cell? a6 = some v6 ∧ W.cell? a7 = some v7 ∧ W.cell? a8 = some v8 ∧ W.cell? a9 = some v9 ∧ W.cell? a10 = some v10 ∧ W.cell? a11 = some v11 ∧ N ≤ W.heap.size ∧ Below N w W) :
    w1.cell? a0 = some v0 ∧ w1.cell? a1 = some v1 ∧ w1.cell? a2 = some v2 ∧ w1.cell? a3 = some v3 ∧ w1.cell? a4 = some v4 ∧ w1.cell? a5 = some v5 ∧ w1.cell? a6 = some v6 ∧ w1.cell? a7 = some v7 ∧ w1.cell? a8 = some v8 ∧ w1.cell? a9 = some v9 ∧ w1.cell? a10 = some v10 ∧ w1.cell? a11 = some v11 ∧ N ≤ w1.heap.size ∧ Below N w w1 := two hb (two hb (two hb (two hb (two hb (two hb (ends hb)))))) h
theorem keep14 (hb : Below W.heap.size W w1) (h : W.cell? a0 = some v0 ∧ W.cell? a1 = some v1 ∧ W.cell? a2 = some v2 ∧ W.cell? a3 = some v3 ∧ W.cell? a4 = some v4 ∧ W.cell? a5 = some v5 ∧ W.cell? a6 = some v6 ∧ W.cell? a7 = some v7 ∧ W.cell? a8 = some v8 ∧ W.cell? a9 = some v9 ∧ W.cell? a10 = some v10 ∧ W.cell? a11 = some v11 ∧ W.cell? a12 = some v12 ∧ W.cell? a13 = some v13 ∧ N ≤ W.heap.size ∧ Below N w W) :
    w1.cell? a0 = some v0 ∧ w1.cell? a1 = some v1 ∧ w1.cell? a2 = some v2 ∧ w1.cell? a3 = some v3 ∧ w1.cell? a4 = some v4 ∧ w1.cell? a5 = some v5 ∧ w1.cell? a6 = some v6 ∧ w1.cell? a7 = some v7 ∧ w1.cell? a8 = some v8 ∧ w1.cell? a9 = some v9 ∧ w1.cell? a10 = some v10 ∧ w1.cell? a11 = some v11 ∧ w1.cell? a12 = some v12 ∧ w1.cell? a13 = some v13 ∧ N ≤ w1.heap.size ∧ Below N w w1 := two hb (two hb (two hb (two hb (two hb (two hb (two hb (ends hb))))))) h
theorem add8 (h : W.cell? a0 = some v0 ∧ W.cell? a1 = some v1 ∧ W.cell? a2 = some v2 ∧ W.cell? a3 = some v3 ∧ W.cell? a4 = some v4 ∧ W.cell? a5 = some v5 ∧ W.cell? a6 = some v6 ∧ W.cell? a7 = some v7 ∧ N ≤ W.heap.size ∧ Below N w W) (b : Nat) (e : W.heap.size = b) (x y : Value) (t : TypeId) :
    (W.alloc (.cells #[x, y] t)).cell? a0 = some v0 ∧ (W.alloc (.cells #[x, y] t)).cell? a1 = some v1 ∧ (W.alloc (.cells #[x, y] t)).cell? a2 = some v2 ∧ (W.alloc (.cells #[x, y] t)).cell? a3 = some v3 ∧ (W.alloc (.cells #[x, y] t)).cell? a4 = some v4 ∧ (W.alloc (.cells #[x, y] t)).cell? a5 = some v5 ∧ (W.alloc (.cells #[x, y] t)).cell? a6 = some v6 ∧ (W.alloc (.cells #[x, y] t)).cell? a7 = some v7 ∧ (W.alloc (.cells #[x, y] t)).cell? ⟨b, 0, none⟩ = some x ∧ (W.alloc (.cells #[x, y] t)).cell? ⟨b, 1, none⟩ = some y ∧ N ≤ (W.alloc (.cells #[x, y] t)).heap.size ∧ Below N w (W.alloc (.cells #[x, y] t)) := two (behind ..) (two (behind ..) (two (behind ..) (two (behind ..) (fun h => add0 h b e x y t)))) h
theorem add10 (h : W.cell? a0 = some v0 ∧ W.cell? a1 = some v1 ∧ W.cell? a2 = some v2 ∧ W.cell? a3 = some v3 ∧ W.cell? a4 = some v4 ∧ W.cell? a5 = some v5 ∧ W.cell? a6 = some v6 ∧ W.cell? a7 = some v7 ∧ W.cell? a8 = some v8 ∧ W.cell? a9 = some v9 ∧ N ≤ W.heap.size ∧ Below N w W) (b : Nat) (e : W.heap.size = b) (x y : Value) (t : TypeId) :
    (W.alloc (.cells #[x, y] t)).cell? a0 = some v0 ∧ (W.alloc (.cells #[x, y] t)).cell? a1 = some v1 ∧ (W.alloc (.cells #[x, y] t)).cell? a2 = some v2 ∧ (W.alloc (.cells #[x, y] t)).cell? a3 = some v3 ∧ (W.alloc (.cells #[x, y] t)).cell? a4 = some v4 ∧ (W.alloc (.cells #[x, y] t)).cell? a5 = some v5 ∧ (W.alloc (.cells #[x, y] t)).cell? a6 = some v6 ∧ (W.alloc (.cells #[x, y] t)).cell? a7 = some v7 ∧ (W.alloc (.cells #[x, y] t)).cell? a8 = some v8 ∧ (W.alloc (.cells #[x, y] t)).cell? a9 = some v9 ∧ (W.alloc (.cells #[x, y] t)).cell? ⟨b, 0, none⟩ = some x ∧ (W.alloc (.cells #[x, y] t)).cell? ⟨b, 1, none⟩ = some y ∧ N ≤ (W.alloc (.cells #[x, y] t)).heap.size ∧ Below N w (W.alloc (.cells #[x, y] t)) := two (behind ..) (two (behind ..) (two (behind ..) (two (behind ..) (two (behind ..) (fun h => add0 h b e x y t))))) h
theorem add12 (h : W.cell? a0 = some v0 ∧ W.cell? a1 = some v1 ∧ W.cell? a2 = some v2 ∧ W.cell? a3 = some v3 ∧ W.cell? a4 = some v4 ∧ W.cell? a5 = some v5 ∧ W.cell? a6 = some v6 ∧ W.cell? a7 = some v7 ∧ W.cell? a8 = some v8 ∧ W.cell? a9 = some v9 ∧ W.cell? a10 = some v10 ∧ W.cell? a11 = some v11 ∧ N ≤ W.heap.size ∧ Below N w W) (b : Nat) (e : W.heap.size = b) (x y : Value) (t : TypeId) :
    (W.alloc (.cells #[x, y] t)).cell? a0 = some v0 ∧ (W.alloc (.cells #[x, y] t)).cell? a1 = some v1 ∧ (W.alloc (.cells #[x, y] t)).cell? a2 = some v2 ∧ (W.alloc (.cells #[x, y] t)).cell? a3 = some v3 ∧ (W.alloc (.cells #[x, y] t)).cell? a4 = some v4 ∧ (W.alloc (.cells #[x, y] t)).cell? a5 = some v5 ∧ (W.alloc (.cells #[x, y] t)).cell? a6 = some v6 ∧ (W.alloc (.cells #[x, y] t)).cell? a7 = some v7 ∧ (W.alloc (.cells #[x, y] t)).cell? a8 = some v8 ∧ (W.alloc (.cells #[x, y] t)).cell? a9 = some v9 ∧ (W.alloc (.cells #[x, y] t)).cell? a10 = some v10 ∧ (W.alloc (.cells #[x, y] t)).cell? a11 = some v11 ∧ (W.alloc (.cells #[x, y] t)).cell? ⟨b, 0, none⟩ = some x ∧ (W.alloc (.cells #[x, y] t)).cell? ⟨b, 1, none⟩ = some y ∧ N ≤ (W.alloc (.cells #[x, y] t)).heap.size ∧ Below N w (W.alloc (.cells #[x, y] t)) := two (behind ..) (two (behind ..) (two (behind ..) (two (behind ..) (two (behind ..) (two (behind ..) (fun h => add0 h b e x y t)))))) h
theorem drewEnds (h : N ≤ W.heap.size ∧ Below N w W) : N ≤ W.drew.heap.size ∧ Below N w W.drew := ⟨h.1, h.2.drew⟩
theorem drewTwo {P P' : Prop} (f : P → P') (h : W.cell? a0 = some v0 ∧ W.cell? a1 = some v1 ∧ P) : W.drew.cell? a0 = some v0 ∧ W.drew.cell? a1 = some v1 ∧ P' := ⟨h.1, h.2.1, f h.2.2⟩
theorem drew2 (h : W.cell? a0 = some v0 ∧ W.cell? a1 = some v1 ∧ N ≤ W.heap.size ∧ Below N w W) :
    W.drew.cell? a0 = some v0 ∧ W.drew.cell? a1 = some v1 ∧ N ≤ W.drew.heap.size ∧ Below N w W.drew := drewTwo (drewEnds) h
theorem drew4 (h : W.cell? a0 = some v0 ∧ W.cell? a1 = some v1 ∧ W.cell? a2 = some v2 ∧ W.cell? a3 = some v3 ∧ N ≤ W.heap.size ∧ Below N w W) :
    W.drew.cell? a0 = some v0 ∧ W.drew.cell? a1 = some v1 ∧ W.drew.cell? a2 = some v2 ∧ W.drew.cell? a3 = some v3 ∧ N ≤ W.drew.heap.size ∧ Below N w W.drew := drewTwo (drewTwo (drewEnds)) h
theorem drew6 (h : W.cell? a0 = some v0 ∧ W.cell? a1 = some v1 ∧ W.cell? a2 = some v2 ∧ W.cell? a3 = some v3 ∧ W.cell? a4 = some v4 ∧ W.cell? a5 = some v5 ∧ N ≤ W.heap.size ∧ Below N w W) :
    W.drew.cell? a0 = some v0 ∧ W.drew.cell? a1 = some v1 ∧ W.drew.cell? a2 = some v2 ∧ W.drew.cell? a3 = some v3 ∧ W.drew.cell? a4 = some v4 ∧ W.drew.cell? a5 = some v5 ∧ N ≤ W.drew.heap.size ∧ Below N w W.drew := drewTwo (drewTwo (drewTwo (drewEnds))) h
theorem drew10 (h : W.cell? a0 = some v0 ∧ W.cell? a1 = some v1 ∧ W.cell? a2 = some v2 ∧ W.cell? a3 = some v3 ∧ W.cell? a4 = some v4 ∧ W.cell? a5 = some v5 ∧ W.cell? a6 = some v6 ∧ W.cell? a7 = some v7 ∧ W.cell? a8 = some v8 ∧ W.cell? a9 = some v9 ∧ N ≤ W.heap.size ∧ Below N w W) :
    W.drew.cell? a0 = some v0 ∧ W.drew.cell? a1 = some v1 ∧ W.drew.cell? a2 = some v2 ∧ W.drew.cell? a3 = some v3 ∧ W.drew.cell? a4 = some v4 ∧ W.drew.cell? a5 = some v5 ∧ W.drew.cell? a6 = some v6 ∧ W.drew.cell? a7 = some v7 ∧ W.drew.cell? a8 = some v8 ∧ W.drew.cell? a9 = some v9 ∧ N ≤ W.drew.heap.size ∧ Below N w W.drew := drewTwo (drewTwo (drewTwo (drewTwo (drewTwo (drewEnds))))) h
theorem drew12 (h : W.cell? a0 = some v0 ∧ W.cell? a1 = some v1 ∧ W.cell? a2 = some v2 ∧ W.cell? a3 = some v3 ∧ W.cell? a4 = some v4 ∧ W.cell? a5 = some v5 ∧ W.cell? a6 = some v6 ∧ W.cell? a7 = some v7 ∧ W.cell? a8 = some v8 ∧ W.cell? a9 = some v9 ∧ W.cell? a10 = some v10 ∧ W.cell? a11 = some v11 ∧ N ≤ W.heap.size ∧ Below N w W) :
    W.drew.cell? a0 = some v0 ∧ W.drew.cell? a1 = some v1 ∧ W.drew.cell? a2 = some v2 ∧ W.drew.cell? a3 = some v3 ∧ W.drew.cell? a4 = some v4 ∧ W.drew.cell? a5 = some v5 ∧ W.drew.cell? a6 = some v6 ∧ W.drew.cell? a7 = some v7 ∧ W.drew.cell? a8 = some v8 ∧ W.drew.cell? a9 = some v9 ∧ W.drew.cell? a10 = some v10 ∧ W.drew.cell? a11 = some v11 ∧ N ≤ W.drew.heap.size ∧ Below N w W.drew := drewTwo (drewTwo (drewTwo (drewTwo (drewTwo (drewTwo (drewEnds)))))) h
theorem drew14 (h : W.cell? a0 = some v0 ∧ W.cell? a1 = some v1 ∧ W.cell? a2 = some v2 ∧ W.cell? a3 = some v3 ∧ W.cell? a4 = some v4 ∧ W.cell? a5 = some v5 ∧ W.cell? a6 = some v6 ∧ W.cell? a7 = some v7 ∧ W.cell? a8 = some v8 ∧ W.cell? a9 = some v9 ∧ W.cell? a10 = some v10 ∧ W.cell? a11 = some v11 ∧ W.cell? a12 = some v12 ∧ W.cell? a13 = some v13 ∧ N ≤ W.heap.size ∧ Below N w W) :
    W.drew.cell? a0 = some v0 ∧ W.drew.cell? a1 = some v1 ∧ W.drew.cell? a2 = some v2 ∧ W.drew.cell? a3 = some v3 ∧ W.drew.cell? a4 = some v4 ∧ W.drew.cell? a5 = some v5 ∧ W.drew.cell? a6 = some v6 ∧ W.drew.cell? a7 = some v7 ∧ W.drew.cell? a8 = some v8 ∧ W.drew.cell? a9 = some v9 ∧ W.drew.cell? a10 = some v10 ∧ W.drew.cell? a11 = some v11 ∧ W.drew.cell? a12 = some v12 ∧ W.drew.cell? a13 = some v13 ∧ N ≤ W.drew.heap.size ∧ Below N w W.drew := drewTwo (drewTwo (drewTwo (drewTwo (drewTwo (drewTwo (drewTwo (drewEnds))))))) h
theorem end10 {p0 p1 p2 p3 p4 p5 p6 p7 p8 p9 p10 : Prop} (h : p0 ∧ p1 ∧ p2 ∧ p3 ∧ p4 ∧ p5 ∧ p6 ∧ p7 ∧ p8 ∧ p9 ∧ p10 ∧ Below N w W) : Below N w W := h.2.2.2.2.2.2.2.2.2.2.2
theorem end12 {p0 p1 p2 p3 p4 p5 p6 p7 p8 p9 p10 p11 p12 : Prop} (h : p0 ∧ p1 ∧ p2 ∧ p3 ∧ p4 ∧ p5 ∧ p6 ∧ p7 ∧ p8 ∧ p9 ∧ p10 ∧ p11 ∧ p12 ∧ Below N w W) : Below N w W := h.2.2.2.2.2.2.2.2.2.2.2.2.2
theorem end14 {p0 p1 p2 p3 p4 p5 p6 p7 p8 p9 p10 p11 p12 p13 p14 : Prop} (h : p0 ∧ p1 ∧ p2 ∧ p3 ∧ p4 ∧ p5 ∧ p6 ∧ p7 ∧ p8 ∧ p9 ∧ p10 ∧ p11 ∧ p12 ∧ p13 ∧ p14 ∧ Below N w W) : Below N w W := h.2.2.2.2.2.2.2.2.2.2.2.2.2.2.2
end Go.Proofs.YtmfkpoojfpepaaaGreatDoor.Kp
namespace Go.Proofs.YtmfkpoojfpepaaaGreatDoor.Fl
open Go.RowKit Go.Proofs.YtmfkpoojfpepaaaGreatDoor.Tk
set_option linter.unusedVariables false
set_option linter.unusedSimpArgs false

section
variable {w W w1 : World} {N g : Nat} {x0 x1 x2 x3 x4 : Value}
/-- A new block of five cells. -/
theorem k5_new (w : World) (x0 x1 x2 x3 x4 : Value) (t : TypeId) :
    (w.alloc (.cells #[x0, x1, x2, x3, x4] t)).cell? ⟨w.heap.size, 0, none⟩ = some x0 ∧ (w.alloc (.cells #[x0, x1, x2, x3, x4] t)).cell? ⟨w.heap.size, 1, none⟩ = some x1 ∧ (w.alloc (.cells #[x0, x1, x2, x3, x4] t)).cell? ⟨w.heap.size, 2, none⟩ = some x2 ∧ (w.alloc (.cells #[x0, x1, x2, x3, x4] t)).cell? ⟨w.heap.size, 3, none⟩ = some x3 ∧ (w.alloc (.cells #[x0, x1, x2, x3, x4] t)).cell? ⟨w.heap.size, 4, none⟩ = some x4 ∧ w.heap.size ≤ (w.alloc (.cells #[x0, x1, x2, x3, x4] t)).heap.size ∧ Below w.heap.size w (w.alloc (.cells #[x0, x1, x2, x3, x4] t)) := by
  refine ⟨?_, ?_, ?_, ?_, ?_, ?_, (Below.refl _ _).alloc (Nat.le_refl _) _⟩ <;> simp [go_sem]
theorem k5_keep (hb : Below W.heap.size W w1) (h : W.cell? ⟨g, 0, none⟩ = some x0 ∧ W.cell? ⟨g, 1, none⟩ = some x1 ∧ W.cell? ⟨g, 2, none⟩ = some x2 ∧ W.cell? ⟨g, 3, none⟩ = some x3 ∧ W.cell? ⟨g, 4, none⟩ = some x4 ∧ N ≤ W.heap.size ∧ Below N w W) :
    w1.cell? ⟨g, 0, none⟩ = some x0 ∧ w1.cell? ⟨g, 1, none⟩ = some x1 ∧ w1.cell? ⟨g, 2, none⟩ = some x2 ∧ w1.cell? ⟨g, 3, none⟩ = some x3 ∧ w1.cell? ⟨g, 4, none⟩ = some x4 ∧ N ≤ w1.heap.size ∧ Below N w w1 :=
  Kp.one hb (Kp.two hb (Kp.two hb (Kp.ends hb))) h
theorem k5_end (h : W.cell? ⟨g, 0, none⟩ = some x0 ∧ W.cell? ⟨g, 1, none⟩ = some x1 ∧ W.cell? ⟨g, 2, none⟩ = some x2 ∧ W.cell? ⟨g, 3, none⟩ = some x3 ∧ W.cell? ⟨g, 4, none⟩ = some x4 ∧ N ≤ W.heap.size ∧ Below N w W) : Below N w W := h.2.2.2.2.2.2
theorem AttsAt.fit {a : Option Addr} {vs : List Att} (h : AttsAt w (Old w.heap.size) a vs) (hB : Below w.heap.size w W) : AttsAt W (Old W.heap.size) a vs := h.far fun i hi => ⟨Nat.lt_of_lt_of_le hi hB.size, hB.block i hi⟩
theorem FltAt.fit {f : Flt} {a b : Option Addr} (h : FltAt w (Old w.heap.size) f a b) (hB : Below w.heap.size w W) : FltAt W (Old W.heap.size) f a b := (h.later hB).wide hB.size
theorem PartsAt.fit {j : Nat} {ps : List Flt} {b : Option Addr} (h : PartsAt w (Old w.heap.size) b j ps) (hB : Below w.heap.size w W) : PartsAt W (Old W.heap.size) b j ps := PartsAt.far (fun i hi => ⟨Nat.lt_of_lt_of_le hi hB.size, hB.block i hi⟩) ps h
theorem laid_fit (h : LaidE w) (hB : Below w.heap.size w W) : LaidE W := h.later hB
end

def bareB (n o : List UInt8) (vs : List Att) : Bool := n == [] && o == [] && decide (vs.length = 0)
def leafQ (n : List UInt8) (vs : List Att) (lp : Nat) : Bool := decide (lp = 0) && nameB n && decide (vs.length ≤ 20) && vs.all valB
def firstText : List Att → Bool
  | [] => false
  | v :: _ => v.text
def wholeB (k : Int) (n o : List UInt8) (vs : List Att) (lp : Nat) : Bool :=
  if k = 1 ∨ k = 2 then bareB n o vs && decide (2 ≤ lp)
  else if k = 3 then bareB n o vs && decide (lp = 1)
  else if k = 7 then bareB n o vs && decide (lp = 0)
  else if k = 4 then leafQ n vs lp && opB o && decide (vs.length = 1)
  else if k = 5 then leafQ n vs lp && o == [] && decide (vs.length = 1) && firstText vs
  else if k = 6 then leafQ n vs lp && o == [] && decide (0 < vs.length) && sortB vs
  else false
theorem nat_dec {n : Nat} {m : Nat} : decide ((n : Int) = (m : Nat)) = decide (n = m) := decide_eq_decide.2 (by omega)

theorem isBare_any (k : Int) (sn so : ByteArray) (vs : List Att) (a : Option Addr) (c : Nat) (lp : Nat) (b : Option Addr) (d : Nat) (w : World) : Calls Tryz.prog 70 #[.agg #[.int .i64 k, .string sn, .string so, .slice a vs.length c, .slice b lp d]] w fun e w' => e = .returned (.bool (bareB sn.data.toList so.data.toList vs)) ∧ Below w.heap.size w w' := by
  have HV := Lib.hid (show bareB sn.data.toList so.data.toList vs = (sn.toList == [] && so.toList == [] && decide (vs.length = 0)) by rw [← Lib.toList_data, ← Lib.toList_data]; rfl)
  obtain ⟨n, hn⟩ : ∃ n, n = vs.length := ⟨_, rfl⟩
  obtain ⟨res, hres⟩ : ∃ r, bareB sn.data.toList so.data.toList vs = r := ⟨_, rfl⟩
  rw [hres] at HV ⊢
  rw [← hn] at HV ⊢
  clear hres hn
  go_enter Tryz.func70, Tryz.ntmps70
  go_wp2
  all_goals (go_ret; exact ⟨by rw [HV.out]; clear HV; by_cases h0 : n = 0 <;> simp_all, (Below.refl _ _).alloc (Nat.le_refl _) _⟩)

set_option maxHeartbeats 1000000 in
set_option maxRecDepth 100000 in
theorem isLeaf_any (k : Int) (sn so : ByteArray) (vs : List Att) (a : Option Addr) (c : Nat) (lp : Nat) (b : Option Addr) (d : Nat) (w : World) (hE : LaidE w) (hA : AttsAt w (Old w.heap.size) a vs) : Calls Tryz.prog 71 #[.agg #[.int .i64 k, .string sn, .string so, .slice a vs.length c, .slice b lp d]] w fun e w' => e = .returned (.bool (leafQ sn.data.toList vs lp)) ∧ Below w.heap.size w w' := by
  have K := k5_new w (.int .i64 k) (.string sn) (.string so) (.slice a vs.length c) (.slice b lp d) 27
  have HE := Lib.hid hE
  have HA := Lib.hid hA
  have CN := Lib.hid (fun W (hW : LaidE W) => isName_any sn W hW)
  have CC := Lib.hid (fun W (hW : AttsAt W (Old W.heap.size) a vs) => contains_any vs a c W hW)
  obtain ⟨nm, hnm⟩ : ∃ r, nameB sn.data.toList = r := ⟨_, rfl⟩
  obtain ⟨al, hal⟩ : ∃ r, vs.all valB = r := ⟨_, rfl⟩
  have HV := Lib.hid (show leafQ sn.data.toList vs lp = (decide (lp = 0) && nm && decide (vs.length ≤ 20) && al) by rw [← hnm, ← hal]; rfl)
  obtain ⟨res, hres⟩ : ∃ r, leafQ sn.data.toList vs lp = r := ⟨_, rfl⟩
  rw [hnm] at CN
  rw [hal] at CC
  obtain ⟨n, hn⟩ : ∃ n, n = vs.length := ⟨_, rfl⟩
  rw [hres] at HV ⊢
  rw [← hn] at HV CC K ⊢
  clear hres hnm hal hn hE hA
  by_cases h0 : lp = 0
  · subst h0
    cases nm
    · have HF := Lib.hid (show res = false by rw [HV.out]; simp)
      go_enter Tryz.func71, Tryz.ntmps71
      go_wp2_with (go_at_call 84; refine Calls.mono (CN.out _ (laid_fit HE.out (k5_end (by assumption)))) ?_; rintro e w1 ⟨rfl, hb1⟩; have K1 := k5_keep hb1 (by assumption); clear hb1)
      go_ret
      exact ⟨by rw [HF.out]; rfl, k5_end (by assumption)⟩
    · by_cases h20 : n ≤ 20
      · have h20z : (n : Int) ≤ 20 := by omega
        have HF := Lib.hid (show res = al by rw [HV.out, decide_eq_true h20]; simp)
        go_enter Tryz.func71, Tryz.ntmps71
        go_wp2_with (first | (go_at_call 84; refine Calls.mono (CN.out _ (laid_fit HE.out (k5_end (by assumption)))) ?_; rintro e w1 ⟨rfl, hb1⟩; have K1 := k5_keep hb1 (by assumption); clear hb1) | (go_at_call 32; refine Calls.mono (CC.out _ (HA.out.fit (k5_end (by assumption)))) ?_; rintro e w2 ⟨rfl, hb1⟩; have K2 := k5_keep hb1 (by assumption); clear hb1))
        go_ret
        exact ⟨by rw [HF.out]; first | rfl | simp, k5_end (by assumption)⟩
      · have h20z : ¬ (n : Int) ≤ 20 := by omega
        have HF := Lib.hid (show res = false by rw [HV.out, decide_eq_false h20]; simp)
        go_enter Tryz.func71, Tryz.ntmps71
        go_wp2_with (go_at_call 84; refine Calls.mono (CN.out _ (laid_fit HE.out (k5_end (by assumption)))) ?_; rintro e w1 ⟨rfl, hb1⟩; have K1 := k5_keep hb1 (by assumption); clear hb1)
        go_ret
        exact ⟨by rw [HF.out]; rfl, k5_end (by assumption)⟩
  · have h0z : ¬ (lp : Int) = 0 := by omega
    have HF := Lib.hid (show res = false by rw [HV.out, decide_eq_false h0]; rfl)
    go_enter Tryz.func71, Tryz.ntmps71
    go_wp2_with fail
    go_ret
    exact ⟨by rw [HF.out]; rfl, k5_end (by assumption)⟩

set_option maxHeartbeats 1000000 in
theorem whole1 (sn so : ByteArray) (vs : List Att) (a : Option Addr) (c : Nat) (lp : Nat) (b : Option Addr) (d : Nat) (w : World) (hE : LaidE w) (hA : AttsAt w (Old w.heap.size) a vs) : Calls Tryz.prog 54 #[.agg #[.int .i64 1, .string sn, .string so, .slice a vs.length c, .slice b lp d]] w fun e w' => e = .returned (.bool (wholeB 1 sn.data.toList so.data.toList vs lp)) ∧ Below w.heap.size w w' := by
  have K := k5_new w (.int .i64 1) (.string sn) (.string so) (.slice a vs.length c) (.slice b lp d) 27
  have HE := Lib.hid hE
  have HA := Lib.hid hA
  have CB := Lib.hid (fun W => isBare_any 1 sn so vs a c lp b d W)
  obtain ⟨ba, hba⟩ : ∃ r, bareB sn.data.toList so.data.toList vs = r := ⟨_, rfl⟩
  have HV := Lib.hid (show wholeB 1 sn.data.toList so.data.toList vs lp = (ba && decide (2 ≤ lp)) by rw [← hba]; rfl)
  obtain ⟨res, hres⟩ : ∃ r, wholeB 1 sn.data.toList so.data.toList vs lp = r := ⟨_, rfl⟩
  rw [hba] at CB
  obtain ⟨n, hn⟩ : ∃ n, n = vs.length := ⟨_, rfl⟩
  rw [hres] at HV ⊢
  rw [← hn] at CB K ⊢
  clear hres hba hE hA hn
  cases ba
  · go_enter Tryz.func54, Tryz.ntmps54
    go_wp2_with (go_at_call 70; refine Calls.mono (CB.out _) ?_; rintro e w1 ⟨rfl, hb1⟩; have K1 := k5_keep hb1 (by assumption); clear hb1)
    go_ret
    exact ⟨by rw [HV.out]; rfl, k5_end (by assumption)⟩
  · have HZ := Lib.hid (show decide (2 ≤ lp) = decide ((2 : Int) ≤ lp) from decide_eq_decide.2 (by omega))
    go_enter Tryz.func54, Tryz.ntmps54
    go_wp2_with (go_at_call 70; refine Calls.mono (CB.out _) ?_; rintro e w1 ⟨rfl, hb1⟩; have K1 := k5_keep hb1 (by assumption); clear hb1)
    go_ret
    exact ⟨by rw [HV.out, HZ.out]; first | rfl | simp, k5_end (by assumption)⟩

set_option maxHeartbeats 1000000 in
theorem whole2 (sn so : ByteArray) (vs : List Att) (a : Option Addr) (c : Nat) (lp : Nat) (b : Option Addr) (d : Nat) (w : World) (hE : LaidE w) (hA : AttsAt w (Old w.heap.size) a vs) : Calls Tryz.prog 54 #[.agg #[.int .i64 2, .string sn, .string so, .slice a vs.length c, .slice b lp d]] w fun e w' => e = .returned (.bool (wholeB 2 sn.data.toList so.data.toList vs lp)) ∧ Below w.heap.size w w' := by
  have K := k5_new w (.int .i64 2) (.string sn) (.string so) (.slice a vs.length c) (.slice b lp d) 27
  have HE := Lib.hid hE
  have HA := Lib.hid hA
  have CB := Lib.hid (fun W => isBare_any 2 sn so vs a c lp b d W)
  obtain ⟨ba, hba⟩ : ∃ r, bareB sn.data.toList so.data.toList vs = r := ⟨_, rfl⟩
  have HV := Lib.hid (show wholeB 2 sn.data.toList so.data.toList vs lp = (ba && decide (2 ≤ lp)) by rw [← hba]; rfl)
  obtain ⟨res, hres⟩ : ∃ r, wholeB 2 sn.data.toList so.data.toList vs lp = r := ⟨_, rfl⟩
  rw [hba] at CB
  obtain ⟨n, hn⟩ : ∃ n, n = vs.length := ⟨_, rfl⟩
  rw [hres] at HV ⊢
  rw [← hn] at CB K ⊢
  clear hres hba hE hA hn
  cases ba
  · go_enter Tryz.func54, Tryz.ntmps54
    go_wp2_with (go_at_call 70; refine Calls.mono (CB.out _) ?_; rintro e w1 ⟨rfl, hb1⟩; have K1 := k5_keep hb1 (by assumption); clear hb1)
    go_ret
    exact ⟨by rw [HV.out]; rfl, k5_end (by assumption)⟩
  · have HZ := Lib.hid (show decide (2 ≤ lp) = decide ((2 : Int) ≤ lp) from decide_eq_decide.2 (by omega))
    go_enter Tryz.func54, Tryz.ntmps54
    go_wp2_with (go_at_call 70; refine Calls.mono (CB.out _) ?_; rintro e w1 ⟨rfl, hb1⟩; have K1 := k5_keep hb1 (by assumption); clear hb1)
    go_ret
    exact ⟨by rw [HV.out, HZ.out]; first | rfl | simp, k5_end (by assumption)⟩

set_option maxHeartbeats 1000000 in
theorem whole3 (sn so : ByteArray) (vs : List Att) (a : Option Addr) (c : Nat) (lp : Nat) (b : Option Addr) (d : Nat) (w : World) (hE : LaidE w) (hA : AttsAt w (Old w.heap.size) a vs) : Calls Tryz.prog 54 #[.agg #[.int .i64 3, .string sn, .string so, .slice a vs.length c, .slice b lp d]] w fun e w' => e = .returned (.bool (wholeB 3 sn.data.toList so.data.toList vs lp)) ∧ Below w.heap.size w w' := by
  have K := k5_new w (.int .i64 3) (.string sn) (.string so) (.slice a vs.length c) (.slice b lp d) 27
  have HE := Lib.hid hE
  have HA := Lib.hid hA
  have CB := Lib.hid (fun W => isBare_any 3 sn so vs a c lp b d W)
  obtain ⟨ba, hba⟩ : ∃ r, bareB sn.data.toList so.data.toList vs = r := ⟨_, rfl⟩
  have HV := Lib.hid (show wholeB 3 sn.data.toList so.data.toList vs lp = (ba && decide (lp = 1)) by rw [← hba]; rfl)
  obtain ⟨res, hres⟩ : ∃ r, wholeB 3 sn.data.toList so.data.toList vs lp = r := ⟨_, rfl⟩
  rw [hba] at CB
  obtain ⟨n, hn⟩ : ∃ n, n = vs.length := ⟨_, rfl⟩
  rw [hres] at HV ⊢
  rw [← hn] at CB K ⊢
  clear hres hba hE hA hn
  cases ba
  · go_enter Tryz.func54, Tryz.ntmps54
    go_wp2_with (go_at_call 70; refine Calls.mono (CB.out _) ?_; rintro e w1 ⟨rfl, hb1⟩; have K1 := k5_keep hb1 (by assumption); clear hb1)
    go_ret
    exact ⟨by rw [HV.out]; rfl, k5_end (by assumption)⟩
  · have HZ := Lib.hid (show decide (lp = 1) = decide ((lp : Int) = 1) from decide_eq_decide.2 (by omega))
    go_enter Tryz.func54, Tryz.ntmps54
    go_wp2_with (go_at_call 70; refine Calls.mono (CB.out _) ?_; rintro e w1 ⟨rfl, hb1⟩; have K1 := k5_keep hb1 (by assumption); clear hb1)
    go_ret
    exact ⟨by rw [HV.out, HZ.out]; first | rfl | simp, k5_end (by assumption)⟩

set_option maxHeartbeats 1000000 in
theorem whole7 (sn so : ByteArray) (vs : List Att) (a : Option Addr) (c : Nat) (lp : Nat) (b : Option Addr) (d : Nat) (w : World) (hE : LaidE w) (hA : AttsAt w (Old w.heap.size) a vs) : Calls Tryz.prog 54 #[.agg #[.int .i64 7, .string sn, .string so, .slice a vs.length c, .slice b lp d]] w fun e w' => e = .returned (.bool (wholeB 7 sn.data.toList so.data.toList vs lp)) ∧ Below w.heap.size w w' := by
  have K := k5_new w (.int .i64 7) (.string sn) (.string so) (.slice a vs.length c) (.slice b lp d) 27
  have HE := Lib.hid hE
  have HA := Lib.hid hA
  have CB := Lib.hid (fun W => isBare_any 7 sn so vs a c lp b d W)
  obtain ⟨ba, hba⟩ : ∃ r, bareB sn.data.toList so.data.toList vs = r := ⟨_, rfl⟩
  have HV := Lib.hid (show wholeB 7 sn.data.toList so.data.toList vs lp = (ba && decide (lp = 0)) by rw [← hba]; rfl)
  obtain ⟨res, hres⟩ : ∃ r, wholeB 7 sn.data.toList so.data.toList vs lp = r := ⟨_, rfl⟩
  rw [hba] at CB
  obtain ⟨n, hn⟩ : ∃ n, n = vs.length := ⟨_, rfl⟩
  rw [hres] at HV ⊢
  rw [← hn] at CB K ⊢
  clear hres hba hE hA hn
  cases ba
  · go_enter Tryz.func54, Tryz.ntmps54
    go_wp2_with (go_at_call 70; refine Calls.mono (CB.out _) ?_; rintro e w1 ⟨rfl, hb1⟩; have K1 := k5_keep hb1 (by assumption); clear hb1)
    go_ret
    exact ⟨by rw [HV.out]; rfl, k5_end (by assumption)⟩
  · have HZ := Lib.hid (show decide (lp = 0) = decide ((lp : Int) = 0) from decide_eq_decide.2 (by omega))
    go_enter Tryz.func54, Tryz.ntmps54
    go_wp2_with (go_at_call 70; refine Calls.mono (CB.out _) ?_; rintro e w1 ⟨rfl, hb1⟩; have K1 := k5_keep hb1 (by assumption); clear hb1)
    go_ret
    exact ⟨by rw [HV.out, HZ.out]; first | rfl | simp, k5_end (by assumption)⟩

set_option maxHeartbeats 1000000 in
theorem whole4 (sn so : ByteArray) (vs : List Att) (a : Option Addr) (c : Nat) (lp : Nat) (b : Option Addr) (d : Nat) (w : World) (hE : LaidE w) (hA : AttsAt w (Old w.heap.size) a vs) : Calls Tryz.prog 54 #[.agg #[.int .i64 4, .string sn, .string so, .slice a vs.length c, .slice b lp d]] w fun e w' => e = .returned (.bool (wholeB 4 sn.data.toList so.data.toList vs lp)) ∧ Below w.heap.size w w' := by
  have K := k5_new w (.int .i64 4) (.string sn) (.string so) (.slice a vs.length c) (.slice b lp d) 27
  have HE := Lib.hid hE
  have HA := Lib.hid hA
  have CL := Lib.hid (fun W (h1 : LaidE W) (h2 : AttsAt W (Old W.heap.size) a vs) => isLeaf_any 4 sn so vs a c lp b d W h1 h2)
  have CO := Lib.hid (fun W => isOp_any so W)
  obtain ⟨le, hle⟩ : ∃ r, leafQ sn.data.toList vs lp = r := ⟨_, rfl⟩
  obtain ⟨op, hop⟩ : ∃ r, opB so.data.toList = r := ⟨_, rfl⟩
  have HV := Lib.hid (show wholeB 4 sn.data.toList so.data.toList vs lp = (le && op && decide (vs.length = 1)) by rw [← hle, ← hop]; rfl)
  obtain ⟨res, hres⟩ : ∃ r, wholeB 4 sn.data.toList so.data.toList vs lp = r := ⟨_, rfl⟩
  rw [hle] at CL
  rw [hop] at CO
  obtain ⟨n, hn⟩ : ∃ n, n = vs.length := ⟨_, rfl⟩
  rw [hres] at HV ⊢
  rw [← hn] at HV CL K ⊢
  clear hres hle hop hE hA hn
  cases le
  · go_enter Tryz.func54, Tryz.ntmps54
    go_wp2_with (go_at_call 71; refine Calls.mono (CL.out _ (laid_fit HE.out (k5_end (by assumption))) (HA.out.fit (k5_end (by assumption)))) ?_; rintro e w1 ⟨rfl, hb1⟩; have K1 := k5_keep hb1 (by assumption); clear hb1)
    go_ret
    exact ⟨by rw [HV.out]; rfl, k5_end (by assumption)⟩
  cases op
  · go_enter Tryz.func54, Tryz.ntmps54
    go_wp2_with (first | (go_at_call 71; refine Calls.mono (CL.out _ (laid_fit HE.out (k5_end (by assumption))) (HA.out.fit (k5_end (by assumption)))) ?_; rintro e w1 ⟨rfl, hb1⟩; have K1 := k5_keep hb1 (by assumption); clear hb1) | (go_at_call 72; refine Calls.mono (CO.out _) ?_; rintro e w2 ⟨rfl, rfl⟩))
    go_ret
    exact ⟨by rw [HV.out]; rfl, k5_end (by assumption)⟩
  · have HZ := Lib.hid (show decide (n = 1) = decide ((n : Int) = 1) from decide_eq_decide.2 (by omega))
    go_enter Tryz.func54, Tryz.ntmps54
    go_wp2_with (first | (go_at_call 71; refine Calls.mono (CL.out _ (laid_fit HE.out (k5_end (by assumption))) (HA.out.fit (k5_end (by assumption)))) ?_; rintro e w1 ⟨rfl, hb1⟩; have K1 := k5_keep hb1 (by assumption); clear hb1) | (go_at_call 72; refine Calls.mono (CO.out _) ?_; rintro e w2 ⟨rfl, rfl⟩))
    go_ret
    exact ⟨by rw [HV.out, HZ.out]; first | rfl | simp, k5_end (by assumption)⟩

set_option maxHeartbeats 1000000 in
theorem whole5 (sn so : ByteArray) (vs : List Att) (a : Option Addr) (c : Nat) (lp : Nat) (b : Option Addr) (d : Nat) (w : World) (hE : LaidE w) (hA : AttsAt w (Old w.heap.size) a vs) : Calls Tryz.prog 54 #[.agg #[.int .i64 5, .string sn, .string so, .slice a vs.length c, .slice b lp d]] w fun e w' => e = .returned (.bool (wholeB 5 sn.data.toList so.data.toList vs lp)) ∧ Below w.heap.size w w' := by
  have K := k5_new w (.int .i64 5) (.string sn) (.string so) (.slice a vs.length c) (.slice b lp d) 27
  have HE := Lib.hid hE
  have HA := Lib.hid hA
  have CL := Lib.hid (fun W (h1 : LaidE W) (h2 : AttsAt W (Old W.heap.size) a vs) => isLeaf_any 5 sn so vs a c lp b d W h1 h2)
  obtain ⟨le, hle⟩ : ∃ r, leafQ sn.data.toList vs lp = r := ⟨_, rfl⟩
  have HV := Lib.hid (show wholeB 5 sn.data.toList so.data.toList vs lp = (le && so.toList == [] && decide (vs.length = 1) && firstText vs) by rw [Lib.toList_data, ← hle]; rfl)
  obtain ⟨res, hres⟩ : ∃ r, wholeB 5 sn.data.toList so.data.toList vs lp = r := ⟨_, rfl⟩
  rw [hle] at CL
  rw [hres] at HV ⊢
  clear hres hle hE hA
  cases le
  · obtain ⟨n, hn⟩ : ∃ n, n = vs.length := ⟨_, rfl⟩
    rw [← hn] at CL K ⊢
    clear hn
    go_enter Tryz.func54, Tryz.ntmps54
    go_wp2_with (go_at_call 71; refine Calls.mono (CL.out _ (laid_fit HE.out (k5_end (by assumption))) (HA.out.fit (k5_end (by assumption)))) ?_; rintro e w1 ⟨rfl, hb1⟩; have K1 := k5_keep hb1 (by assumption); clear hb1)
    go_ret
    exact ⟨by rw [HV.out]; rfl, k5_end (by assumption)⟩
  by_cases h1 : vs.length = 1
  · obtain ⟨v, rfl⟩ : ∃ v, vs = [v] := by
      match vs, h1 with
      | [v], _ => exact ⟨v, rfl⟩
    obtain ⟨g, p, rfl, hg, hc⟩ := HA.out.2.2 (by simp)
    obtain ⟨_, c1, _, _⟩ := hc 0 (by simp)
    simp only [List.getElem_cons_zero, Nat.zero_mul, Nat.add_zero] at c1
    have HC1 := Lib.hid c1
    have HG := Lib.hid (show g < w.heap.size from hg)
    clear c1 hc hg h1
    have FX := Lib.hid (fun W (hB : Below w.heap.size w W) => (hB.cell (p := ⟨g, p + 1, none⟩) HG.out).trans HC1.out)
    have HV2 := Lib.hid (show res = (so.toList == [] && v.text) by rw [HV.out]; simp [firstText])
    obtain ⟨tx, htx⟩ : ∃ t, t = v.text := ⟨_, rfl⟩
    rw [← htx] at FX HV2
    clear htx HV
    simp only [List.length_cons, List.length_nil, Nat.zero_add] at K CL ⊢
    go_enter Tryz.func54, Tryz.ntmps54
    go_wp2_with (go_at_call 71; refine Calls.mono (CL.out _ (laid_fit HE.out (k5_end (by assumption))) (HA.out.fit (k5_end (by assumption)))) ?_; rintro e w1 ⟨rfl, hb1⟩; have K1 := k5_keep hb1 (by assumption); have X1 := FX.out _ (k5_end K1); clear hb1)
    all_goals go_ret
    all_goals exact ⟨by rw [HV2.out]; clear HV2 CL HE HA FX HC1 HG; first | rfl | simp_all, k5_end (by assumption)⟩
  · have h1z : ¬ (vs.length : Int) = 1 := by omega
    have HF := Lib.hid (show res = false by rw [HV.out, decide_eq_false h1]; simp)
    obtain ⟨n, hn⟩ : ∃ n, n = vs.length := ⟨_, rfl⟩
    rw [← hn] at CL K h1z ⊢
    clear hn h1 HV
    go_enter Tryz.func54, Tryz.ntmps54
    go_wp2_with (go_at_call 71; refine Calls.mono (CL.out _ (laid_fit HE.out (k5_end (by assumption))) (HA.out.fit (k5_end (by assumption)))) ?_; rintro e w1 ⟨rfl, hb1⟩; have K1 := k5_keep hb1 (by assumption); clear hb1)
    all_goals go_ret
    all_goals exact ⟨by rw [HF.out]; first | rfl | simp_all, k5_end (by assumption)⟩

set_option maxHeartbeats 1000000 in
theorem whole6 (sn so : ByteArray) (vs : List Att) (a : Option Addr) (c : Nat) (lp : Nat) (b : Option Addr) (d : Nat) (w : World) (hE : LaidE w) (hA : AttsAt w (Old w.heap.size) a vs) : Calls Tryz.prog 54 #[.agg #[.int .i64 6, .string sn, .string so, .slice a vs.length c, .slice b lp d]] w fun e w' => e = .returned (.bool (wholeB 6 sn.data.toList so.data.toList vs lp)) ∧ Below w.heap.size w w' := by
  have K := k5_new w (.int .i64 6) (.string sn) (.string so) (.slice a vs.length c) (.slice b lp d) 27
  have HE := Lib.hid hE
  have HA := Lib.hid hA
  have CL := Lib.hid (fun W (h1 : LaidE W) (h2 : AttsAt W (Old W.heap.size) a vs) => isLeaf_any 6 sn so vs a c lp b d W h1 h2)
  have CS := Lib.hid (fun W (h2 : AttsAt W (Old W.heap.size) a vs) => oneSort_any vs a c W h2)
  obtain ⟨le, hle⟩ : ∃ r, leafQ sn.data.toList vs lp = r := ⟨_, rfl⟩
  obtain ⟨st, hst⟩ : ∃ r, sortB vs = r := ⟨_, rfl⟩
  have HV := Lib.hid (show wholeB 6 sn.data.toList so.data.toList vs lp = (le && so.toList == [] && decide (0 < vs.length) && st) by rw [Lib.toList_data, ← hle, ← hst]; rfl)
  obtain ⟨res, hres⟩ : ∃ r, wholeB 6 sn.data.toList so.data.toList vs lp = r := ⟨_, rfl⟩
  rw [hle] at CL
  rw [hst] at CS
  rw [hres] at HV ⊢
  obtain ⟨n, hn⟩ : ∃ n, n = vs.length := ⟨_, rfl⟩
  rw [← hn] at HV CL CS K ⊢
  clear hres hle hst hE hA hn
  cases le
  · go_enter Tryz.func54, Tryz.ntmps54
    go_wp2_with (go_at_call 71; refine Calls.mono (CL.out _ (laid_fit HE.out (k5_end (by assumption))) (HA.out.fit (k5_end (by assumption)))) ?_; rintro e w1 ⟨rfl, hb1⟩; have K1 := k5_keep hb1 (by assumption); clear hb1)
    go_ret
    exact ⟨by rw [HV.out]; rfl, k5_end (by assumption)⟩
  by_cases h1 : 0 < n
  · have h1z : (0 : Int) < n := by omega
    have HF := Lib.hid (show res = (so.toList == [] && st) by rw [HV.out, decide_eq_true h1]; simp)
    go_enter Tryz.func54, Tryz.ntmps54
    go_wp2_with (first | (go_at_call 71; refine Calls.mono (CL.out _ (laid_fit HE.out (k5_end (by assumption))) (HA.out.fit (k5_end (by assumption)))) ?_; rintro e w1 ⟨rfl, hb1⟩; have K1 := k5_keep hb1 (by assumption); clear hb1) | (go_at_call 73; refine Calls.mono (CS.out _ (HA.out.fit (k5_end (by assumption)))) ?_; rintro e w2 ⟨rfl, hb1⟩; have K2 := k5_keep hb1 (by assumption); clear hb1))
    all_goals go_ret
    all_goals exact ⟨by rw [HF.out]; clear HF HV CL CS HE HA; first | rfl | simp_all, k5_end (by assumption)⟩
  · have h1z : ¬ (0 : Int) < n := by omega
    have HF := Lib.hid (show res = false by rw [HV.out, decide_eq_false h1]; simp)
    go_enter Tryz.func54, Tryz.ntmps54
    go_wp2_with (go_at_call 71; refine Calls.mono (CL.out _ (laid_fit HE.out (k5_end (by assumption))) (HA.out.fit (k5_end (by assumption)))) ?_; rintro e w1 ⟨rfl, hb1⟩; have K1 := k5_keep hb1 (by assumption); clear hb1)
    all_goals go_ret
    all_goals exact ⟨by rw [HF.out]; clear HF HV CL CS HE HA; first | rfl | simp_all, k5_end (by assumption)⟩

theorem isWhole_any (k : Int) (sn so : ByteArray) (vs : List Att) (a : Option Addr) (c : Nat) (lp : Nat) (b : Option Addr) (d : Nat) (w : World) (hE : LaidE w) (hA : AttsAt w (Old w.heap.size) a vs) : Calls Tryz.prog 54 #[.agg #[.int .i64 k, .string sn, .string so, .slice a vs.length c, .slice b lp d]] w fun e w' => e = .returned (.bool (wholeB k sn.data.toList so.data.toList vs lp)) ∧ Below w.heap.size w w' := by
  by_cases h1 : k = 1
  · subst h1; exact whole1 sn so vs a c lp b d w hE hA
  by_cases h2 : k = 2
  · subst h2; exact whole2 sn so vs a c lp b d w hE hA
  by_cases h3 : k = 3
  · subst h3; exact whole3 sn so vs a c lp b d w hE hA
  by_cases h7 : k = 7
  · subst h7; exact whole7 sn so vs a c lp b d w hE hA
  by_cases h4 : k = 4
  · subst h4; exact whole4 sn so vs a c lp b d w hE hA
  by_cases h5 : k = 5
  · subst h5; exact whole5 sn so vs a c lp b d w hE hA
  by_cases h6 : k = 6
  · subst h6; exact whole6 sn so vs a c lp b d w hE hA
  have HF := Lib.hid (show wholeB k sn.data.toList so.data.toList vs lp = false by simp [wholeB, h1, h2, h3, h7, h4, h5, h6])
  have K := k5_new w (.int .i64 k) (.string sn) (.string so) (.slice a vs.length c) (.slice b lp d) 27
  go_enter Tryz.func54, Tryz.ntmps54
  go_wp2_with fail
  go_ret
  exact ⟨by rw [HF.out]; rfl, k5_end (by assumption)⟩
end Go.Proofs.YtmfkpoojfpepaaaGreatDoor.Fl
