/-
  Contract of the document's answer one, where a number begins. Memory that was there is left as it was.
-/
import Derived.Test.YtmjlfmoaoobmnaaDoorTkLeaf
import Derived.Test.YtmjlfmoaoobmnaaDoorTkOneKit
import Derived.Test.YtmjlfmoaoobmnaaDoorTkRefNum
namespace Go.Proofs.YtmjlfmoaoobmnaaDoor.Tk
open Go.RowKit
set_option linter.unusedVariables false
set_option linter.unusedSimpArgs false

theorem numL_is {l : List UInt8} {x : Lx} (h : numL l = some x) : x.kind = 3 ∧ x.str = [] := by
  match l, h with
  | c :: r, h =>
    rw [numL_cons] at h
    split at h
    · split at h
      · cases h
      · have e := (Option.some.inj h).symm
        subst e
        exact ⟨rfl, rfl⟩
    · split at h
      · cases h
      · have e := (Option.some.inj h).symm
        subst e
        exact ⟨rfl, rfl⟩
set_option maxRecDepth 100000 in
set_option maxHeartbeats 8000000 in
theorem oneNumMinus (s : ByteArray) (hs : s.size ≤ 500) (a : Nat) (c : UInt8) (r : List UInt8) (hL : s.data.toList.drop a = c :: r) (h1 : low c = false) (h2 : dig c = false) (hc : c.toNat = 45) (w : World) :
    Calls Tryd.prog 13 #[.string s, .int .i64 (a : Nat)] w fun e w' => OneEnd a e (numL (c :: r)) ∧ Below w.heap.size w w' := by
  have hlen := at_len hL
  have halt : a < s.size := by omega
  have haz : (a : Int) < (s.size : Int) := by omega
  have hb0 := at_byte hL halt
  have HL := Lib.hid hL
  have HLEN := Lib.hid hlen
  have H5 := Lib.hid hs
  clear hL hlen hs
  have H1 := Lib.hid h1
  have H2 := Lib.hid h2
  have C := Lib.hid (fun W => refNum_minus s H5.out a c r HL.out hc W)
  have hcz : ((c.toNat : Nat) : Int) = 45 := by omega
  have CL := Lib.hid (fun W => refLow_any c W)
  have CD := Lib.hid (fun W => refDigit_any c W)
  rw [hcz, H1.out] at CL
  rw [hcz, H2.out] at CD
  clear h1 h2 hc
  cases hn : numL (c :: r) with
  | none =>
    rw [hn] at C
    clear hn
    go_enter Tryd.func13, Tryd.ntmps13
    go_wp2_with fail
    refine (CL.out _).mono ?_
    rintro e w1 ⟨rfl, rfl⟩
    go_wp2_with fail
    refine (CD.out _).mono ?_
    rintro e w1 ⟨rfl, rfl⟩
    go_wp2_with fail
    refine (C.out _).mono ?_
    rintro e w1 ⟨⟨n, z, rfl⟩, rfl⟩
    go_wp2_with fail
    refine bodyPost_ret (v := .tuple #[.agg #[.int .i64 3, .int .i64 (a : Nat), .int .i64 n, .string ⟨#[]⟩], .int .i64 z, .bool false]) (by simp [results, Tryd.results13, go_sem, *]) rfl ⟨?_, ?_⟩
    · exact ⟨3, (a : Nat), n, _, z, rfl⟩
    · exact (Below.refl _ _).alloc (Nat.le_refl _) _
  | some x =>
    rw [hn] at C
    have HX := Lib.hid (numL_is hn)
    clear hn
    go_enter Tryd.func13, Tryd.ntmps13
    go_wp2_with fail
    refine (CL.out _).mono ?_
    rintro e w1 ⟨rfl, rfl⟩
    go_wp2_with fail
    refine (CD.out _).mono ?_
    rintro e w1 ⟨rfl, rfl⟩
    go_wp2_with fail
    refine (C.out _).mono ?_
    rintro e w1 ⟨he, rfl⟩
    have he2 : e = .returned (.tuple #[.int .i64 x.num, .int .i64 ((a + x.size : Nat) : Int), .bool true]) := he
    subst he2
    clear he
    obtain ⟨n, hn⟩ : ∃ n, n = x.num := ⟨_, rfl⟩
    obtain ⟨z, hz⟩ : ∃ z : Nat, z = a + x.size := ⟨_, rfl⟩
    rw [← hn, ← hz]
    have HNZ := Lib.hid (And.intro hn hz)
    clear hn hz
    go_wp2_with fail
    refine bodyPost_ret (v := .tuple #[.agg #[.int .i64 3, .int .i64 (a : Nat), .int .i64 n, .string ⟨#[]⟩], .int .i64 (z : Nat), .bool true]) (by simp [results, Tryd.results13, go_sem, *]) rfl ⟨?_, ?_⟩
    · show _ = _
      rw [HX.out.1, HX.out.2, HNZ.out.1, HNZ.out.2]
    · exact (Below.refl _ _).alloc (Nat.le_refl _) _
set_option maxRecDepth 100000 in
set_option maxHeartbeats 8000000 in
theorem oneNumPlain (s : ByteArray) (hs : s.size ≤ 500) (a : Nat) (c : UInt8) (r : List UInt8) (hL : s.data.toList.drop a = c :: r) (h1 : low c = false) (h2 : dig c = true) (hc : ¬ c.toNat = 45) (w : World) :
    Calls Tryd.prog 13 #[.string s, .int .i64 (a : Nat)] w fun e w' => OneEnd a e (numL (c :: r)) ∧ Below w.heap.size w w' := by
  have hlen := at_len hL
  have halt : a < s.size := by omega
  have haz : (a : Int) < (s.size : Int) := by omega
  have hb0 := at_byte hL halt
  have HL := Lib.hid hL
  have HLEN := Lib.hid hlen
  have H5 := Lib.hid hs
  clear hL hlen hs
  have H1 := Lib.hid h1
  have H2 := Lib.hid h2
  have C := Lib.hid (fun W => refNum_plain s H5.out a c r HL.out hc W)
  have CL := Lib.hid (fun W => refLow_any c W)
  have CD := Lib.hid (fun W => refDigit_any c W)
  rw [H1.out] at CL
  rw [H2.out] at CD
  clear h1 h2 hc
  cases hn : numL (c :: r) with
  | none =>
    rw [hn] at C
    clear hn
    go_enter Tryd.func13, Tryd.ntmps13
    go_wp2_with fail
    refine (CL.out _).mono ?_
    rintro e w1 ⟨rfl, rfl⟩
    go_wp2_with fail
    refine (CD.out _).mono ?_
    rintro e w1 ⟨rfl, rfl⟩
    go_wp2_with fail
    refine (C.out _).mono ?_
    rintro e w1 ⟨⟨n, z, rfl⟩, rfl⟩
    go_wp2_with fail
    refine bodyPost_ret (v := .tuple #[.agg #[.int .i64 3, .int .i64 (a : Nat), .int .i64 n, .string ⟨#[]⟩], .int .i64 z, .bool false]) (by simp [results, Tryd.results13, go_sem, *]) rfl ⟨?_, ?_⟩
    · exact ⟨3, (a : Nat), n, _, z, rfl⟩
    · exact (Below.refl _ _).alloc (Nat.le_refl _) _
  | some x =>
    rw [hn] at C
    have HX := Lib.hid (numL_is hn)
    clear hn
    go_enter Tryd.func13, Tryd.ntmps13
    go_wp2_with fail
    refine (CL.out _).mono ?_
    rintro e w1 ⟨rfl, rfl⟩
    go_wp2_with fail
    refine (CD.out _).mono ?_
    rintro e w1 ⟨rfl, rfl⟩
    go_wp2_with fail
    refine (C.out _).mono ?_
    rintro e w1 ⟨he, rfl⟩
    have he2 : e = .returned (.tuple #[.int .i64 x.num, .int .i64 ((a + x.size : Nat) : Int), .bool true]) := he
    subst he2
    clear he
    obtain ⟨n, hn⟩ : ∃ n, n = x.num := ⟨_, rfl⟩
    obtain ⟨z, hz⟩ : ∃ z : Nat, z = a + x.size := ⟨_, rfl⟩
    rw [← hn, ← hz]
    have HNZ := Lib.hid (And.intro hn hz)
    clear hn hz
    go_wp2_with fail
    refine bodyPost_ret (v := .tuple #[.agg #[.int .i64 3, .int .i64 (a : Nat), .int .i64 n, .string ⟨#[]⟩], .int .i64 (z : Nat), .bool true]) (by simp [results, Tryd.results13, go_sem, *]) rfl ⟨?_, ?_⟩
    · show _ = _
      rw [HX.out.1, HX.out.2, HNZ.out.1, HNZ.out.2]
    · exact (Below.refl _ _).alloc (Nat.le_refl _) _
end Go.Proofs.YtmjlfmoaoobmnaaDoor.Tk
