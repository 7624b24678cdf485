/-
  Contract of sign of package token: the sign that a text begins with, of two bytes, if there is one. Memory that was there is left as it was.
-/
import Derived.Test.YtjffnjiggcfhcaaDoorProg
import Derived.Test.YtjffnjiggcfhcaaDoorMb01
import Derived.WalkKit
import Derived.WalkSpells
import Derived.Lib.Strings
import Derived.Lib.Hide
import Derived.Below
import Derived.Handy
import Derived.KernelRfl
import Derived.Lib.IndexBytes
import Derived.Shelf.Strings.Builder1
import Derived.Shelf.Strings.Builder2
import Derived.Shelf.Strings.OnBuilder
import Derived.Shelf.Small.Strs
import Derived.Shelf.Strconv.Itoa0
import Derived.Shelf.Strconv.Itoa1
import Derived.Shelf.LaysM
import Derived.Shelf.Strconv.Itoa2
import Derived.Shelf.Strconv.Itoa3
import Derived.Shelf.Strconv.Itoa4
import Derived.Shelf.Strconv.ParseIntEmpty
import Derived.Shelf.Strconv.Clone
import Derived.Shelf.Strconv.SyntaxError
import Derived.Shelf.LaysC
import Derived.Shelf.Strconv.ToError
import Derived.Shelf.Strconv.Lower
import Derived.Shelf.Strconv.ParseUint10
import Derived.Shelf.Strconv.ParseUint10Empty
import Derived.Shelf.Strconv.ParseUint10Any
import Derived.Shelf.Strconv.ParseInt10
import Derived.Shelf.Strconv.RangeError
import Derived.Shelf.Strconv.ToErrorRange
import Derived.Shelf.Strconv.ParseUintEmpty
import Derived.Shelf.Strconv.ParseUint10b64
import Derived.Shelf.Strconv.ParseUint10b32
import Derived.Shelf.Strconv.ParseUint10b16
import Derived.Shelf.Strconv.ParseUint10b8
import Derived.Shelf.Strconv.ParseUint10At
import Derived.Shelf.Strconv.ParseInt10At64
import Derived.Shelf.Strconv.ParseInt10At32
import Derived.Shelf.Strconv.ParseInt10At16
import Derived.Shelf.Strconv.ParseInt10At8
import Derived.Shelf.Strconv.ParseInt10All
import Derived.Shelf.Strconv.ParseIntPublic10
import Derived.Shelf.Strconv.ErrVarParseInt
import Derived.Shelf.Strings.Search1
import Derived.Shelf.Strings.Prefix
/-
  Contracts of the smallest functions of package token and of the document's answer: what sort a byte is of, whether a row is a word or a sign, that which is told where there is no token. Memory that was there is left as it was.
-/
namespace Go.Proofs.YtjffnjiggcfhcaaDoor.Tk
open Go.RowKit
set_option linter.unusedVariables false
set_option linter.unusedSimpArgs false

theorem byteI (c : UInt8) (a b : Nat) : (decide (a ≤ c.toNat) && decide (c.toNat ≤ b)) = (decide ((a : Int) ≤ (c.toNat : Nat)) && decide (((c.toNat : Nat) : Int) ≤ (b : Int))) := by
  congr 1 <;> exact decide_eq_decide.2 (by omega)
theorem lowI (c : UInt8) : low c = (decide ((97 : Int) ≤ (c.toNat : Nat)) && decide (((c.toNat : Nat) : Int) ≤ 122)) := byteI c 97 122
theorem digI (c : UInt8) : dig c = (decide ((48 : Int) ≤ (c.toNat : Nat)) && decide (((c.toNat : Nat) : Int) ≤ 57)) := byteI c 48 57
theorem txBI (c : UInt8) : txB c = (decide ((32 : Int) ≤ (c.toNat : Nat)) && decide (((c.toNat : Nat) : Int) ≤ 126)) := byteI c 32 126

theorem letter_any (c : UInt8) (w : World) : Calls Tryd.prog 29 #[.int .u8 (c.toNat : Nat)] w fun e w' => e = .returned (.bool (low c)) ∧ w = w' := by
  go_enter Tryd.func29, Tryd.ntmps29
  go_wp2
  · rename_i h; go_ret; exact ⟨by rw [lowI, decide_eq_true h, Bool.true_and]; rfl, rfl⟩
  · rename_i h; go_ret; exact ⟨by rw [lowI, decide_eq_false (Int.not_le.2 h), Bool.false_and]; rfl, rfl⟩
theorem digit_any (c : UInt8) (w : World) : Calls Tryd.prog 31 #[.int .u8 (c.toNat : Nat)] w fun e w' => e = .returned (.bool (dig c)) ∧ w = w' := by
  go_enter Tryd.func31, Tryd.ntmps31
  go_wp2
  · rename_i h; go_ret; exact ⟨by rw [digI, decide_eq_true h, Bool.true_and]; rfl, rfl⟩
  · rename_i h; go_ret; exact ⟨by rw [digI, decide_eq_false (Int.not_le.2 h), Bool.false_and]; rfl, rfl⟩
theorem textByte_any (c : UInt8) (w : World) : Calls Tryd.prog 54 #[.int .u8 (c.toNat : Nat)] w fun e w' => e = .returned (.bool (txB c)) ∧ w = w' := by
  go_enter Tryd.func54, Tryd.ntmps54
  go_wp2
  · rename_i h; go_ret; exact ⟨by rw [txBI, decide_eq_true h, Bool.true_and]; rfl, rfl⟩
  · rename_i h; go_ret; exact ⟨by rw [txBI, decide_eq_false (Int.not_le.2 h), Bool.false_and]; rfl, rfl⟩
theorem nameByte_any (c : UInt8) (w : World) : Calls Tryd.prog 48 #[.int .u8 (c.toNat : Nat)] w fun e w' => e = .returned (.bool (nmB c)) ∧ w = w' := by
  obtain ⟨b, hb⟩ : ∃ b, low c = b := ⟨_, rfl⟩
  have HN : nmB c = (b || dig c) := by rw [nmB, hb]
  rw [HN]
  have HB := Lib.hid hb
  clear HN
  cases b
  · clear hb
    go_enter Tryd.func48, Tryd.ntmps48
    go_wp2_with fail
    refine (letter_any c _).mono ?_
    rintro e w1 ⟨rfl, rfl⟩
    rw [HB.out]
    go_wp2_with fail
    refine (digit_any c _).mono ?_
    rintro e w1 ⟨rfl, rfl⟩
    go_wp2_with fail
    go_ret
    exact ⟨by simp, rfl⟩
  · clear hb
    go_enter Tryd.func48, Tryd.ntmps48
    go_wp2_with fail
    refine (letter_any c _).mono ?_
    rintro e w1 ⟨rfl, rfl⟩
    rw [HB.out]
    go_wp2_with fail
    go_ret
    exact ⟨by simp, rfl⟩

/-- No token. -/
def noTok : Value := .tuple #[.agg #[.int .i64 0, .int .i64 0, .int .i64 0, .string ⟨#[]⟩], .int .i64 0, .iface 35 (.int .i64 2)]
theorem amiss_any (w : World) : Calls Tryd.prog 49 #[] w fun e w' => e = .returned noTok ∧ Below w.heap.size w w' := by
  go_enter Tryd.func49, Tryd.ntmps49
  go_wp2_with fail
  refine bodyPost_ret (v := noTok) (by simp [results, Tryd.results49, go_sem, noTok]) rfl ⟨rfl, ?_⟩
  exact (Below.refl _ _).alloc (Nat.le_refl _) _

set_option maxHeartbeats 1000000 in
theorem word_any (s : ByteArray) (w : World) : Calls Tryd.prog 50 #[.string s] w fun e w' => e = .returned (.bool (wordB s.data.toList)) ∧ w = w' := by
  rw [← Lib.toList_data]
  go_enter Tryd.func50, Tryd.ntmps50
  go_wp2
  all_goals (go_ret; exact ⟨by simp_all [wordB], rfl⟩)
set_option maxHeartbeats 1000000 in
theorem sign_is (s : ByteArray) (w : World) : Calls Tryd.prog 55 #[.string s] w fun e w' => e = .returned (.bool (signB s.data.toList)) ∧ w = w' := by
  rw [← Lib.toList_data]
  go_enter Tryd.func55, Tryd.ntmps55
  go_wp2
  all_goals (go_ret; exact ⟨by simp_all [signB], rfl⟩)
end Go.Proofs.YtjffnjiggcfhcaaDoor.Tk
/-
  Contract of row of package token, at each of the three functions that it is handed: how many bytes a text begins with that are all of one sort. Memory is left as it was.
-/
namespace Go.Proofs.YtjffnjiggcfhcaaDoor.Tk
open Go.RowKit
set_option linter.unusedVariables false
set_option linter.unusedSimpArgs false

def RowR (p : UInt8 → Bool) (l : List UInt8) (w : World) (vi : Value) (wr : World) : Prop :=
  ∃ k : Nat, k ≤ l.length ∧ vi = .int .i64 k ∧ Hid (∀ (j : Nat) (c : UInt8), j < k → l[j]? = some c → p c = true) ∧ w = wr
theorem row_more {p : UInt8 → Bool} {l : List UInt8} {k : Nat} {c : UInt8} (h : ∀ (j : Nat) (c : UInt8), j < k → l[j]? = some c → p c = true) (hc : l[k]? = some c) (hp : p c = true) : ∀ (j : Nat) (c : UInt8), j < k + 1 → l[j]? = some c → p c = true := by
  intro j d hj hd
  by_cases e : j = k
  · subst e
    rw [hc] at hd
    cases hd
    exact hp
  · exact h j d (by omega) hd


set_option maxHeartbeats 1000000 in
theorem rowName_any (s : ByteArray) (hs : s.size ≤ 1048576) (w : World) : Calls Tryd.prog 47 #[.string s, .func (.func 48) #[] #[]] w fun e w' => e = .returned (.int .i64 (run nmB s.data.toList : Nat)) ∧ w = w' := by
  have hsz := Lib.hid (Lib.size_eq s)
  go_enter Tryd.func47, Tryd.ntmps47
  go_wp2_with fail
  go_loopw [8] (fun vi wr => RowR nmB s.data.toList w vi wr) (fun vi _ => s.size - (intOf vi).toNat)
  case atStart => exact ⟨0, Nat.zero_le _, rfl, Lib.hid fun j c h => absurd h (Nat.not_lt_zero _), rfl⟩
  case round =>
    obtain ⟨k, hk, rfl, hall, rfl⟩ := hrel
    have HK := Lib.hid hk
    by_cases hlt : k < s.size
    · have hlz : (k : Int) < (s.size : Int) := by omega
      obtain ⟨c, hc⟩ : ∃ c, s[k] = c := ⟨_, rfl⟩
      have HC := Lib.hid (show s.data.toList[k]? = some c by rw [← hc]; exact Lib.data_getElem? s k hlt)
      obtain ⟨b, hb⟩ : ∃ b, nmB c = b := ⟨_, rfl⟩
      have HB := Lib.hid hb
      clear hb hk
      go_wp2_with fail
      refine (nameByte_any c _).mono ?_
      rintro e w1 ⟨rfl, rfl⟩
      rw [HB.out]
      cases b
      · go_wp2_with fail
        go_ret
        have := run_eq nmB s.data.toList k HK.out hall.out (fun d hd => by have e := HC.out.symm.trans hd; cases e; exact HB.out)
        exact ⟨by rw [this]; rfl, rfl⟩
      · go_wp2_with fail
        go_roundw
        case rel => exact ⟨k + 1, by have := hsz.out; omega, by go_num, Lib.hid (row_more hall.out HC.out HB.out), rfl⟩
        case measure => simp [intOf]; omega
    · have hlz : ¬ (k : Int) < (s.size : Int) := by omega
      have hkk : k = s.size := by have := hsz.out; omega
      subst hkk
      have HT := Lib.hid (run_eq nmB s.data.toList s.size (by rw [hsz.out]; exact Nat.le_refl _) hall.out (fun d hd => by rw [hsz.out] at hd; simp at hd))
      clear hk
      go_wp2_with fail
      go_ret
      exact ⟨by rw [HT.out]; rfl, rfl⟩

set_option maxHeartbeats 1000000 in
theorem rowDigit_any (s : ByteArray) (hs : s.size ≤ 1048576) (w : World) : Calls Tryd.prog 47 #[.string s, .func (.func 31) #[] #[]] w fun e w' => e = .returned (.int .i64 (run dig s.data.toList : Nat)) ∧ w = w' := by
  have hsz := Lib.hid (Lib.size_eq s)
  go_enter Tryd.func47, Tryd.ntmps47
  go_wp2_with fail
  go_loopw [8] (fun vi wr => RowR dig s.data.toList w vi wr) (fun vi _ => s.size - (intOf vi).toNat)
  case atStart => exact ⟨0, Nat.zero_le _, rfl, Lib.hid fun j c h => absurd h (Nat.not_lt_zero _), rfl⟩
  case round =>
    obtain ⟨k, hk, rfl, hall, rfl⟩ := hrel
    have HK := Lib.hid hk
    by_cases hlt : k < s.size
    · have hlz : (k : Int) < (s.size : Int) := by omega
      obtain ⟨c, hc⟩ : ∃ c, s[k] = c := ⟨_, rfl⟩
      have HC := Lib.hid (show s.data.toList[k]? = some c by rw [← hc]; exact Lib.data_getElem? s k hlt)
      obtain ⟨b, hb⟩ : ∃ b, dig c = b := ⟨_, rfl⟩
      have HB := Lib.hid hb
      clear hb hk
      go_wp2_with fail
      refine (digit_any c _).mono ?_
      rintro e w1 ⟨rfl, rfl⟩
      rw [HB.out]
      cases b
      · go_wp2_with fail
        go_ret
        have := run_eq dig s.data.toList k HK.out hall.out (fun d hd => by have e := HC.out.symm.trans hd; cases e; exact HB.out)
        exact ⟨by rw [this]; rfl, rfl⟩
      · go_wp2_with fail
        go_roundw
        case rel => exact ⟨k + 1, by have := hsz.out; omega, by go_num, Lib.hid (row_more hall.out HC.out HB.out), rfl⟩
        case measure => simp [intOf]; omega
    · have hlz : ¬ (k : Int) < (s.size : Int) := by omega
      have hkk : k = s.size := by have := hsz.out; omega
      subst hkk
      have HT := Lib.hid (run_eq dig s.data.toList s.size (by rw [hsz.out]; exact Nat.le_refl _) hall.out (fun d hd => by rw [hsz.out] at hd; simp at hd))
      clear hk
      go_wp2_with fail
      go_ret
      exact ⟨by rw [HT.out]; rfl, rfl⟩

set_option maxHeartbeats 1000000 in
theorem rowText_any (s : ByteArray) (hs : s.size ≤ 1048576) (w : World) : Calls Tryd.prog 47 #[.string s, .func (.func 54) #[] #[]] w fun e w' => e = .returned (.int .i64 (run txB s.data.toList : Nat)) ∧ w = w' := by
  have hsz := Lib.hid (Lib.size_eq s)
  go_enter Tryd.func47, Tryd.ntmps47
  go_wp2_with fail
  go_loopw [8] (fun vi wr => RowR txB s.data.toList w vi wr) (fun vi _ => s.size - (intOf vi).toNat)
  case atStart => exact ⟨0, Nat.zero_le _, rfl, Lib.hid fun j c h => absurd h (Nat.not_lt_zero _), rfl⟩
  case round =>
    obtain ⟨k, hk, rfl, hall, rfl⟩ := hrel
    have HK := Lib.hid hk
    by_cases hlt : k < s.size
    · have hlz : (k : Int) < (s.size : Int) := by omega
      obtain ⟨c, hc⟩ : ∃ c, s[k] = c := ⟨_, rfl⟩
      have HC := Lib.hid (show s.data.toList[k]? = some c by rw [← hc]; exact Lib.data_getElem? s k hlt)
      obtain ⟨b, hb⟩ : ∃ b, txB c = b := ⟨_, rfl⟩
      have HB := Lib.hid hb
      clear hb hk
      go_wp2_with fail
      refine (textByte_any c _).mono ?_
      rintro e w1 ⟨rfl, rfl⟩
      rw [HB.out]
      cases b
      · go_wp2_with fail
        go_ret
        have := run_eq txB s.data.toList k HK.out hall.out (fun d hd => by have e := HC.out.symm.trans hd; cases e; exact HB.out)
        exact ⟨by rw [this]; rfl, rfl⟩
      · go_wp2_with fail
        go_roundw
        case rel => exact ⟨k + 1, by have := hsz.out; omega, by go_num, Lib.hid (row_more hall.out HC.out HB.out), rfl⟩
        case measure => simp [intOf]; omega
    · have hlz : ¬ (k : Int) < (s.size : Int) := by omega
      have hkk : k = s.size := by have := hsz.out; omega
      subst hkk
      have HT := Lib.hid (run_eq txB s.data.toList s.size (by rw [hsz.out]; exact Nat.le_refl _) hall.out (fun d hd => by rw [hsz.out] at hd; simp at hd))
      clear hk
      go_wp2_with fail
      go_ret
      exact ⟨by rw [HT.out]; rfl, rfl⟩
end Go.Proofs.YtjffnjiggcfhcaaDoor.Tk
/-
  A block of four cells that a call has made; a text's pieces as lists of bytes. No program here.
-/
namespace Go.Proofs.YtjffnjiggcfhcaaDoor.Tk
open Go.RowKit
set_option linter.unusedVariables false

/-- Block b holds these four, and may be written. -/
def Blk (W : World) (b : Nat) (x y z u : Value) : Prop :=
  W.cell? ⟨b, 0, none⟩ = some x ∧ W.cell? ⟨b, 1, none⟩ = some y ∧ W.cell? ⟨b, 2, none⟩ = some z ∧ W.cell? ⟨b, 3, none⟩ = some u ∧ (∀ o, W.frozen? ⟨b, o, none⟩ = false) ∧ b < W.heap.size
theorem Blk.new (w : World) (x y z u : Value) (t : TypeId) : Blk (w.alloc (.cells #[x, y, z, u] t)) w.heap.size x y z u := by
  refine ⟨?_, ?_, ?_, ?_, fun o => ?_, ?_⟩ <;> simp [go_sem]
theorem Blk.later {W V : World} {b : Nat} {x y z u : Value} (h : Blk W b x y z u) (hb : Below W.heap.size W V) : Blk V b x y z u := by
  obtain ⟨h0, h1, h2, h3, hf, hl⟩ := h
  exact ⟨cell_later hb h0, cell_later hb h1, cell_later hb h2, cell_later hb h3, fun o => (World.frozen?_of_block (w := W) (a := ⟨b, o, none⟩) (hb.block b hl)).trans (hf o), Nat.lt_of_lt_of_le hl hb.size⟩
theorem set4 {B b : Nat} {w W : World} (h : Below B w W) (hb : B ≤ b) (x y z u : Value) :
    Below B w ((((W.setCell ⟨b, 0, none⟩ x).setCell ⟨b, 1, none⟩ y).setCell ⟨b, 2, none⟩ z).setCell ⟨b, 3, none⟩ u) :=
  (((h.setCell hb _).setCell hb _).setCell hb _).setCell hb _

theorem take_extract (s : ByteArray) (k : Nat) : s.extract 0 k = ⟨(s.data.toList.take k).toArray⟩ := by
  rw [Lib.extract_eq]
  simp
theorem piece (s : ByteArray) (a b : Nat) : s.extract a b = ⟨((s.data.toList.drop a).take (b - a)).toArray⟩ := Lib.extract_eq s a b
theorem bytes_toList (l : List UInt8) : (⟨l.toArray⟩ : ByteArray).data.toList = l := rfl
theorem take_data (s : ByteArray) (k : Nat) : (s.extract 0 k).data.toList = s.data.toList.take k := by
  rw [Lib.extract_data]
  simp
theorem bytes_size (l : List UInt8) : (⟨l.toArray⟩ : ByteArray).size = l.length := by
  show (l.toArray).size = _
  simp
/-- What is told of the token that a list begins with. -/
def lexV (t : TypeId) : Option Lx → Value
  | none => .tuple #[.agg #[.int .i64 0, .int .i64 0, .int .i64 0, .string ⟨#[]⟩], .int .i64 0, .iface t (.int .i64 2)]
  | some x => .tuple #[.agg #[.int .i64 x.kind, .int .i64 0, .int .i64 x.num, .string ⟨x.str.toArray⟩], .int .i64 (x.size : Nat), .nilIface]
end Go.Proofs.YtjffnjiggcfhcaaDoor.Tk
/-
  Contract of name of package token: the name, or the word, that a text begins with. Memory that was there is left as it was.
-/
namespace Go.Proofs.YtjffnjiggcfhcaaDoor.Tk
open Go.RowKit
set_option linter.unusedVariables false
set_option linter.unusedSimpArgs false

set_option maxHeartbeats 1000000 in
theorem name_any (s : ByteArray) (hs : s.size ≤ 1048576) (w : World) : Calls Tryd.prog 30 #[.string s] w fun e w' => e = .returned (lexV 35 (nameL s.data.toList)) ∧ Below w.heap.size w w' := by
  have C := Lib.hid (fun W => rowName_any s hs W)
  have HS := Lib.hid (Lib.size_eq s)
  obtain ⟨k, hk⟩ : ∃ k, run nmB s.data.toList = k := ⟨_, rfl⟩
  have hkl : (k : Int) ≤ (s.size : Int) := by have := run_le nmB s.data.toList; have := HS.out; omega
  rw [hk] at C
  have K0 := Lib.hid (Blk.new w (.int .i64 0) (.int .i64 0) (.int .i64 0) (.string ⟨#[]⟩) 58)
  have B0 := Lib.hid ((Below.refl w.heap.size w).alloc (Nat.le_refl _) (.cells #[.int .i64 0, .int .i64 0, .int .i64 0, .string ⟨#[]⟩] 58))
  have HK := Lib.hid hk
  clear hk
  by_cases h20 : k ≤ 20
  · have hz : (k : Int) ≤ 20 := by omega
    obtain ⟨b, hb⟩ : ∃ b, wordB (s.extract 0 k).data.toList = b := ⟨_, rfl⟩
    have HB := Lib.hid hb
    clear hb
    have HR := Lib.hid (show nameL s.data.toList = some ⟨if b then 2 else 1, 0, s.data.toList.take k, k⟩ by
      unfold nameL
      rw [HK.out, if_pos h20, ← HB.out, take_data])
    cases b
    all_goals
      go_enter Tryd.func30, Tryd.ntmps30
      go_wp2_with fail
      refine (C.out _).mono ?_
      rintro e w1 ⟨rfl, rfl⟩
      go_wp2_with fail
      refine (word_any _ _).mono ?_
      rintro e w1 ⟨rfl, rfl⟩
      rw [HB.out]
      go_wp2_with fail
      rw [HR.out]
      refine bodyPost_ret (v := lexV 35 _) (by simp [results, Tryd.results30, go_sem, lexV, take_extract]) rfl ⟨rfl, ?_⟩
      exact (Below.refl _ _).alloc (Nat.le_refl _) _
  · have hz : ¬ (k : Int) ≤ 20 := by omega
    have HR := Lib.hid (show nameL s.data.toList = none by
      unfold nameL
      rw [HK.out, if_neg h20])
    go_enter Tryd.func30, Tryd.ntmps30
    go_wp2_with fail
    refine (C.out _).mono ?_
    rintro e w1 ⟨rfl, rfl⟩
    go_wp2_with fail
    refine (amiss_any _).mono ?_
    rintro e w2 ⟨rfl, hb2⟩
    have K2 := K0.out.later hb2
    have B2 := Lib.hid (B0.out.trans (hb2.mono (by simp)))
    obtain ⟨c0, c1, c2, c3, cf, cl⟩ := K2
    clear hb2
    unfold noTok
    go_wp2_with fail
    rw [HR.out]
    refine bodyPost_ret (v := lexV 35 none) (by simp [results, Tryd.results30, go_sem, lexV, *]) rfl ⟨rfl, ?_⟩
    exact set4 B2.out (Nat.le_refl _) _ _ _ _
end Go.Proofs.YtjffnjiggcfhcaaDoor.Tk
/-
  The library's functions that the code calls, each by what it answers (strings_IndexByte, stringslite_Clone, strings_HasPrefix, strconv_ParseInt_10_at64_ok, strconv_ParseInt_10_at64_syntax_var, strconv_ParseInt_10_at64_range_var): laid at this program by the shelf, without conditions of our own.
-/
namespace Go.Proofs
open Go.Shelf
def Tryd.lays137_ren : Go.Shelf.Ren := ⟨fun | 137 => 53 | 217 => 69 | 266 => 87 | n => n, fun | 9 => 9 | 5 => 5 | 3 => 3 | n => n, fun | n => n⟩
theorem Tryd.lays137 : Go.Proofs.Lays.n137 Tryd.prog Tryd.lays137_ren := {
  mixed := by kernel_rfl
  f137 := Tryd.func53.trans (congrArg some (by kernel_rfl))
  f217 := Tryd.func69.trans (congrArg some (by kernel_rfl))
  f266 := Tryd.func87.trans (congrArg some (by kernel_rfl))
  t3 := Tryd.underlying3
  a3 := Tryd.isAgg3
  z3 := Tryd.sizeOf3
  v3 := Tryd.zeroValue3
  t5 := Tryd.underlying5
  a5 := Tryd.isAgg5
  z5 := Tryd.sizeOf5
  v5 := Tryd.zeroValue5
  t9 := Tryd.underlying9
  a9 := Tryd.isAgg9
  z9 := Tryd.sizeOf9
  v9 := Tryd.zeroValue9 }
open Go.RowKit in
theorem Tryd.strings_IndexByte (s : ByteArray) (c : Int) (w : World) :
    Calls Tryd.prog 53 #[.string s, .int .u8 c] w fun e w' => e = .returned (.int .i64 (Lib.indexByte s.data.toList c.toNat.toUInt8)) ∧ w' = w := Any.strings_IndexByte Tryd.lays137 s c w
def Tryd.laysM316_ren : Go.Shelf.Ren := ⟨fun | 316 => 35 | n => n, fun | 9 => 9 | 3 => 3 | 4 => 4 | 37 => 73 | 0 => 0 | 127 => 86 | 5 => 5 | n => n, fun | n => n⟩
theorem Tryd.laysM316 : Go.Proofs.LaysM.n316 Tryd.prog Tryd.laysM316_ren := {
  mixed := by kernel_rfl
  f316 := Tryd.func35.trans (congrArg some (by kernel_rfl))
  t0 := Tryd.underlying0
  a0 := Tryd.isAgg0
  z0 := Tryd.sizeOf0
  v0 := Tryd.zeroValue0
  t3 := Tryd.underlying3
  a3 := Tryd.isAgg3
  z3 := Tryd.sizeOf3
  v3 := Tryd.zeroValue3
  t4 := Tryd.underlying4
  a4 := Tryd.isAgg4
  z4 := Tryd.sizeOf4
  v4 := Tryd.zeroValue4
  t9 := Tryd.underlying9
  a9 := Tryd.isAgg9
  z9 := Tryd.sizeOf9
  v9 := Tryd.zeroValue9
  t37 := Tryd.underlying73
  a37 := Tryd.isAgg73
  z37 := Tryd.sizeOf73
  v37 := Tryd.zeroValue73
  t127 := Tryd.underlying86
  a127 := Tryd.isAgg86
  z127 := Tryd.sizeOf86
  v127 := Tryd.zeroValue86
  t5 := Tryd.underlying5
  a5 := Tryd.isAgg5
  z5 := Tryd.sizeOf5
  v5 := Tryd.zeroValue5
  i0 := by kernel_rfl
  i3 := by kernel_rfl
  i4 := by kernel_rfl
  i5 := by kernel_rfl
  i9 := by kernel_rfl
  i37 := by kernel_rfl
  i127 := by kernel_rfl }
open Go.RowKit in
theorem Tryd.stringslite_Clone (s : ByteArray) (w : World) (hlim : s.size ≤ 281474976710656) :
    Calls Tryd.prog 35 #[.string s] w fun e w' => e = .returned (.string s) ∧ Below w.heap.size w w' := Any.stringslite_Clone Tryd.laysM316 s w hlim
def Tryd.laysC174_ren : Go.Shelf.Ren := ⟨fun | 174 => 52 | 247 => 67 | 245 => 68 | 287 => 82 | 279 => 83 | 280 => 84 | 281 => 85 | 282 => 86 | 321 => 90 | 322 => 91 | 316 => 35 | 171 => 93 | 205 => 92 | 243 => 94 | 246 => 46 | 283 => 62 | 284 => 63 | 285 => 64 | 286 => 65 | 129 => 78 | 317 => 77 | 318 => 79 | 319 => 80 | 320 => 81 | 337 => 88 | 338 => 89 | n => n, fun | 9 => 9 | 3 => 3 | 2 => 2 | 75 => 29 | 85 => 83 | 4 => 4 | 167 => 113 | 5 => 5 | 53 => 91 | 175 => 114 | 46 => 111 | 168 => 116 | 37 => 73 | 0 => 0 | 210 => 122 | 21 => 21 | 127 => 86 | 145 => 128 | 143 => 126 | 171 => 90 | 173 => 94 | 212 => 108 | 51 => 109 | 20 => 20 | 213 => 110 | 232 => 124 | 233 => 125 | 80 => 79 | n => n, fun | 15 => 2 | 16 => 3 | 17 => 0 | 18 => 4 | 19 => 5 | n => n⟩
theorem Tryd.laysC174 : Go.Proofs.LaysC.n174 Tryd.prog Tryd.laysC174_ren := {
  mixed := by kernel_rfl
  f129 := Tryd.func78.trans (congrArg some (by kernel_rfl))
  f171 := Tryd.func93.trans (congrArg some (by kernel_rfl))
  f174 := Tryd.func52.trans (congrArg some (by kernel_rfl))
  f205 := Tryd.func92.trans (congrArg some (by kernel_rfl))
  f243 := Tryd.func94.trans (congrArg some (by kernel_rfl))
  f245 := Tryd.func68.trans (congrArg some (by kernel_rfl))
  f246 := Tryd.func46.trans (congrArg some (by kernel_rfl))
  f247 := Tryd.func67.trans (congrArg some (by kernel_rfl))
  f279 := Tryd.func83.trans (congrArg some (by kernel_rfl))
  f280 := Tryd.func84.trans (congrArg some (by kernel_rfl))
  f281 := Tryd.func85.trans (congrArg some (by kernel_rfl))
  f282 := Tryd.func86.trans (congrArg some (by kernel_rfl))
  f283 := Tryd.func62.trans (congrArg some (by kernel_rfl))
  f284 := Tryd.func63.trans (congrArg some (by kernel_rfl))
  f285 := Tryd.func64.trans (congrArg some (by kernel_rfl))
  f286 := Tryd.func65.trans (congrArg some (by kernel_rfl))
  f287 := Tryd.func82.trans (congrArg some (by kernel_rfl))
  f316 := Tryd.func35.trans (congrArg some (by kernel_rfl))
  f317 := Tryd.func77.trans (congrArg some (by kernel_rfl))
  f318 := Tryd.func79.trans (congrArg some (by kernel_rfl))
  f319 := Tryd.func80.trans (congrArg some (by kernel_rfl))
  f320 := Tryd.func81.trans (congrArg some (by kernel_rfl))
  f321 := Tryd.func90.trans (congrArg some (by kernel_rfl))
  f322 := Tryd.func91.trans (congrArg some (by kernel_rfl))
  f337 := Tryd.func88.trans (congrArg some (by kernel_rfl))
  f338 := Tryd.func89.trans (congrArg some (by kernel_rfl))
  t0 := Tryd.underlying0
  a0 := Tryd.isAgg0
  z0 := Tryd.sizeOf0
  v0 := Tryd.zeroValue0
  t2 := Tryd.underlying2
  a2 := Tryd.isAgg2
  z2 := Tryd.sizeOf2
  v2 := Tryd.zeroValue2
  t3 := Tryd.underlying3
  a3 := Tryd.isAgg3
  z3 := Tryd.sizeOf3
  v3 := Tryd.zeroValue3
  t4 := Tryd.underlying4
  a4 := Tryd.isAgg4
  z4 := Tryd.sizeOf4
  v4 := Tryd.zeroValue4
  t5 := Tryd.underlying5
  a5 := Tryd.isAgg5
  z5 := Tryd.sizeOf5
  v5 := Tryd.zeroValue5
  t9 := Tryd.underlying9
  a9 := Tryd.isAgg9
  z9 := Tryd.sizeOf9
  v9 := Tryd.zeroValue9
  t20 := Tryd.underlying20
  a20 := Tryd.isAgg20
  z20 := Tryd.sizeOf20
  v20 := Tryd.zeroValue20
  t21 := Tryd.underlying21
  a21 := Tryd.isAgg21
  z21 := Tryd.sizeOf21
  v21 := Tryd.zeroValue21
  t37 := Tryd.underlying73
  a37 := Tryd.isAgg73
  z37 := Tryd.sizeOf73
  v37 := Tryd.zeroValue73
  t46 := Tryd.underlying111
  a46 := Tryd.isAgg111
  z46 := Tryd.sizeOf111
  v46 := Tryd.zeroValue111
  t51 := Tryd.underlying109
  a51 := Tryd.isAgg109
  z51 := Tryd.sizeOf109
  v51 := Tryd.zeroValue109
  t53 := Tryd.underlying91
  a53 := Tryd.isAgg91
  z53 := Tryd.sizeOf91
  v53 := Tryd.zeroValue91
  t75 := Tryd.underlying29
  a75 := Tryd.isAgg29
  z75 := Tryd.sizeOf29
  v75 := Tryd.zeroValue29
  t85 := Tryd.underlying83
  a85 := Tryd.isAgg83
  z85 := Tryd.sizeOf83
  v85 := Tryd.zeroValue83
  t127 := Tryd.underlying86
  a127 := Tryd.isAgg86
  z127 := Tryd.sizeOf86
  v127 := Tryd.zeroValue86
  t143 := Tryd.underlying126
  a143 := Tryd.isAgg126
  z143 := Tryd.sizeOf126
  v143 := Tryd.zeroValue126
  t145 := Tryd.underlying128
  a145 := Tryd.isAgg128
  z145 := Tryd.sizeOf128
  v145 := Tryd.zeroValue128
  t167 := Tryd.underlying113
  a167 := Tryd.isAgg113
  z167 := Tryd.sizeOf113
  v167 := Tryd.zeroValue113
  t168 := Tryd.underlying116
  a168 := Tryd.isAgg116
  z168 := Tryd.sizeOf116
  v168 := Tryd.zeroValue116
  t171 := Tryd.underlying90
  a171 := Tryd.isAgg90
  z171 := Tryd.sizeOf90
  v171 := Tryd.zeroValue90
  t173 := Tryd.underlying94
  a173 := Tryd.isAgg94
  z173 := Tryd.sizeOf94
  v173 := Tryd.zeroValue94
  t175 := Tryd.underlying114
  a175 := Tryd.isAgg114
  z175 := Tryd.sizeOf114
  v175 := Tryd.zeroValue114
  t210 := Tryd.underlying122
  a210 := Tryd.isAgg122
  z210 := Tryd.sizeOf122
  v210 := Tryd.zeroValue122
  t212 := Tryd.underlying108
  a212 := Tryd.isAgg108
  z212 := Tryd.sizeOf108
  v212 := Tryd.zeroValue108
  t213 := Tryd.underlying110
  a213 := Tryd.isAgg110
  z213 := Tryd.sizeOf110
  t232 := Tryd.underlying124
  a232 := Tryd.isAgg124
  z232 := Tryd.sizeOf124
  v232 := Tryd.zeroValue124
  t233 := Tryd.underlying125
  a233 := Tryd.isAgg125
  z233 := Tryd.sizeOf125
  v233 := Tryd.zeroValue125
  g15 := by kernel_rfl
  g16 := by kernel_rfl
  g17 := by kernel_rfl
  g18 := by kernel_rfl
  g19 := by kernel_rfl
  t80 := Tryd.underlying79
  a80 := Tryd.isAgg79
  z80 := Tryd.sizeOf79
  v80 := Tryd.zeroValue79
  i0 := by kernel_rfl
  i2 := by kernel_rfl
  i3 := by kernel_rfl
  i4 := by kernel_rfl
  i5 := by kernel_rfl
  i9 := by kernel_rfl
  i20 := by kernel_rfl
  i21 := by kernel_rfl
  i37 := by kernel_rfl
  i46 := by kernel_rfl
  i51 := by kernel_rfl
  i53 := by kernel_rfl
  i75 := by kernel_rfl
  i80 := by kernel_rfl
  i85 := by kernel_rfl
  i127 := by kernel_rfl
  i143 := by kernel_rfl
  i145 := by kernel_rfl
  i167 := by kernel_rfl
  i168 := by kernel_rfl
  i171 := by kernel_rfl
  i173 := by kernel_rfl
  i175 := by kernel_rfl
  i210 := by kernel_rfl
  i212 := by kernel_rfl
  i232 := by kernel_rfl
  i233 := by kernel_rfl
  m15 := by kernel_rfl
  m16 := by kernel_rfl
  m17 := by kernel_rfl
  m18 := by kernel_rfl
  m19 := by kernel_rfl
  c0 := by kernel_rfl
  c2 := by kernel_rfl
  c3 := by kernel_rfl
  c4 := by kernel_rfl
  c5 := by kernel_rfl
  c9 := by kernel_rfl
  c20 := by kernel_rfl
  c21 := by kernel_rfl
  c37 := by kernel_rfl
  c46 := by kernel_rfl
  c51 := by kernel_rfl
  c53 := by kernel_rfl
  c75 := by kernel_rfl
  c80 := by kernel_rfl
  c85 := by kernel_rfl
  c127 := by kernel_rfl
  c143 := by kernel_rfl
  c145 := by kernel_rfl
  c167 := by kernel_rfl
  c168 := by kernel_rfl
  c171 := by kernel_rfl
  c173 := by kernel_rfl
  c175 := by kernel_rfl
  c210 := by kernel_rfl
  c212 := by kernel_rfl
  c213 := by kernel_rfl
  c232 := by kernel_rfl
  c233 := by kernel_rfl }
open Go.RowKit in
theorem Tryd.strconv_ParseInt_10_at64_ok (s : ByteArray) (hmax : s.size ≤ 9223372036854775806) (v : Int) (h : Lib.parseIntB 64 s.data.toList = .ok v) (w : World) :
    Calls Tryd.prog 52 #[.string s, .int .i64 10, .int .i64 64] w fun e w' => e = .returned (.tuple #[.int .i64 v, .nilIface]) ∧ (w' = w ∨ ∃ t, w' = Lib.bytesWorld w 5 t) := Any.strconv_ParseInt_10_at64_ok Tryd.laysC174 s hmax v h w
open Go.RowKit in
theorem Tryd.strconv_ParseInt_10_at64_syntax_var (s : ByteArray) (hlim : s.size ≤ 281474976710656) (h : Lib.parseIntB 64 s.data.toList = Lib.NumEnd.syntax) (tp : TypeId) (p : Value) (w : World) (hvar : w.var? Tryd.prog "strconv.ErrSyntax" = some #[.iface tp p]) :
    Calls Tryd.prog 52 #[.string s, .int .i64 10, .int .i64 64] w fun e w' => ∃ N, e = .returned (.tuple #[.int .i64 (0), .iface 116 (.pointer (some ⟨N, 0, none⟩))]) ∧ w.heap.size ≤ N ∧ w'.heap[N]? = some (.cells #[.string ⟨#[80, 97, 114, 115, 101, 73, 110, 116]⟩, .string s, .iface tp p] 122 (0, 0)) ∧ Below w.heap.size w w' := Any.strconv_ParseInt_10_at64_syntax_var Tryd.laysC174 s hlim h tp p w hvar
open Go.RowKit in
theorem Tryd.strconv_ParseInt_10_at64_range_var (s : ByteArray) (hlim : s.size ≤ 281474976710656) (h : Lib.parseIntB 64 s.data.toList = .range) (tp : TypeId) (p : Value) (w : World) (hvar : w.var? Tryd.prog "strconv.ErrRange" = some #[.iface tp p]) :
    Calls Tryd.prog 52 #[.string s, .int .i64 10, .int .i64 64] w fun e w' => ∃ N, e = .returned (.tuple #[.int .i64 (Lib.intSat 64 s.data.toList), .iface 116 (.pointer (some ⟨N, 0, none⟩))]) ∧ w.heap.size ≤ N ∧ w'.heap[N]? = some (.cells #[.string ⟨#[80, 97, 114, 115, 101, 73, 110, 116]⟩, .string s, .iface tp p] 122 (0, 0)) ∧ Below w.heap.size w w' := Any.strconv_ParseInt_10_at64_range_var Tryd.laysC174 s hlim h tp p w hvar
def Tryd.lays99_ren : Go.Shelf.Ren := ⟨fun | 99 => 51 | 206 => 66 | n => n, fun | 9 => 9 | 4 => 4 | 3 => 3 | n => n, fun | n => n⟩
theorem Tryd.lays99 : Go.Proofs.Lays.n99 Tryd.prog Tryd.lays99_ren := {
  mixed := by kernel_rfl
  f99 := Tryd.func51.trans (congrArg some (by kernel_rfl))
  f206 := Tryd.func66.trans (congrArg some (by kernel_rfl))
  t3 := Tryd.underlying3
  a3 := Tryd.isAgg3
  z3 := Tryd.sizeOf3
  v3 := Tryd.zeroValue3
  t4 := Tryd.underlying4
  a4 := Tryd.isAgg4
  z4 := Tryd.sizeOf4
  v4 := Tryd.zeroValue4
  t9 := Tryd.underlying9
  a9 := Tryd.isAgg9
  z9 := Tryd.sizeOf9
  v9 := Tryd.zeroValue9 }
open Go.RowKit Go.Lib in
theorem Tryd.strings_HasPrefix (s p : ByteArray) (w : World) :
    Calls Tryd.prog 51 #[.string s, .string p] w fun e w' => e = .returned (.bool (Lib.hasPrefix s.data.toList p.data.toList)) ∧ w' = w := Any.strings_HasPrefix Tryd.lays99 s p w
end Go.Proofs
/-
  Contract of text of package token: the text that a list of bytes begins with, by a ". Memory that was there is left as it was.
-/
namespace Go.Proofs.YtjffnjiggcfhcaaDoor.Tk
open Go.RowKit
set_option linter.unusedVariables false
set_option linter.unusedSimpArgs false

theorem index_is : ∀ (r : List UInt8), (Lib.indexByte r 34 = -1 ∧ ∀ (j : Nat) (c : UInt8), r[j]? = some c → c ≠ 34) ∨
    ∃ k : Nat, Lib.indexByte r 34 = (k : Int) ∧ r[k]? = some 34 ∧ ∀ (j : Nat) (c : UInt8), j < k → r[j]? = some c → c ≠ 34
  | [] => Or.inl ⟨rfl, fun j c h => by simp at h⟩
  | d :: r => by
    by_cases hd : d = 34
    · subst hd
      exact Or.inr ⟨0, rfl, rfl, fun j c h => absurd h (Nat.not_lt_zero _)⟩
    · have hb : (d == 34) = false := by simpa using hd
      rcases index_is r with ⟨e, h⟩ | ⟨k, e, hk, h⟩
      · refine Or.inl ⟨by rw [Lib.indexByte, hb, e]; rfl, fun j c hc => ?_⟩
        match j, hc with
        | 0, hc => simp at hc; subst hc; exact hd
        | j + 1, hc => exact h j c (by simpa using hc)
      · refine Or.inr ⟨k + 1, ?_, by simpa using hk, fun j c hj hc => ?_⟩
        · rw [Lib.indexByte, hb, e]
          have : ((k : Int) == -1) = false := by simp
          simp [this]
        · match j, hc with
          | 0, hc => simp at hc; subst hc; exact hd
          | j + 1, hc => exact h j c (by omega) (by simpa using hc)
theorem inB34 : inB 34 = false := by decide
theorem text_yes {r : List UInt8} {k : Nat} (hk : r[k]? = some 34) (hno : ∀ (j : Nat) (c : UInt8), j < k → r[j]? = some c → c ≠ 34) (h200 : k ≤ 200) (hrow : k ≤ run txB (r.take k)) :
    textL r = some ⟨4, 0, r.take k, k + 2⟩ := by
  have hkl := (List.getElem?_eq_some_iff.1 hk).1
  have hm : run inB r = k := by
    refine run_eq inB r k (by omega) (fun j c hj hc => ?_) (fun c hc => ?_)
    · rw [run_take] at hrow
      have h1 := run_all txB r j c (by omega) hc
      have h2 := hno j c hj hc
      have h3 : ¬ c.toNat = 34 := fun e => h2 (UInt8.toNat_inj.1 e)
      simp [inB, h1, h3]
    · rw [hk] at hc
      cases hc
      exact inB34
  unfold textL
  rw [hm, if_pos ⟨h200, hk⟩]
theorem text_at {r : List UInt8} {k : Nat} (hk : r[k]? = some 34) (hno : ∀ (j : Nat) (c : UInt8), j < k → r[j]? = some c → c ≠ 34) (he : r[run inB r]? = some 34) : run inB r = k := by
  rcases Nat.lt_trichotomy (run inB r) k with h | h | h
  · exact absurd rfl (hno _ _ h he)
  · exact h
  · have := run_all inB r k 34 h hk
    rw [inB34] at this
    cases this
theorem text_far {r : List UInt8} {k : Nat} (hk : r[k]? = some 34) (hno : ∀ (j : Nat) (c : UInt8), j < k → r[j]? = some c → c ≠ 34) (h200 : 200 < k) : textL r = none := by
  unfold textL
  rw [if_neg]
  rintro ⟨h1, h2⟩
  have := text_at hk hno h2
  omega
theorem text_row {r : List UInt8} {k : Nat} (hk : r[k]? = some 34) (hno : ∀ (j : Nat) (c : UInt8), j < k → r[j]? = some c → c ≠ 34) (hrow : run txB (r.take k) < k) : textL r = none := by
  have hkl := (List.getElem?_eq_some_iff.1 hk).1
  unfold textL
  rw [if_neg]
  rintro ⟨h1, h2⟩
  have hm := text_at hk hno h2
  rw [run_take] at hrow
  have hlt : run txB r < r.length := by omega
  have a1 := run_end txB r r[run txB r] (by simp [hlt])
  have a2 := run_all inB r (run txB r) r[run txB r] (by omega) (by simp [hlt])
  simp [inB, a1] at a2
theorem text_none {r : List UInt8} (hno : ∀ (j : Nat) (c : UInt8), r[j]? = some c → c ≠ 34) : textL r = none := by
  unfold textL
  rw [if_neg]
  rintro ⟨h1, h2⟩
  exact absurd rfl (hno _ _ h2)

set_option maxHeartbeats 1000000 in
theorem text_any (s : ByteArray) (hs : s.size ≤ 1048576) (c : UInt8) (r : List UInt8) (hL : s.data.toList = c :: r) (w : World) : Calls Tryd.prog 33 #[.string s] w fun e w' => e = .returned (lexV 35 (textL r)) ∧ Below w.heap.size w w' := by
  have HL := Lib.hid hL
  have hsl : s.size = r.length + 1 := by rw [Lib.size_eq, hL]; rfl
  have h1z : (1 : Int) ≤ (s.size : Int) := by omega
  have HSL := Lib.hid hsl
  have HT := Lib.hid (show (s.extract 1 s.size).data.toList = r by rw [Lib.extract_to_end, HL.out]; rfl)
  have K0 := Lib.hid (Blk.new w (.int .i64 0) (.int .i64 0) (.int .i64 0) (.string ⟨#[]⟩) 58)
  have B0 := Lib.hid ((Below.refl w.heap.size w).alloc (Nat.le_refl _) (.cells #[.int .i64 0, .int .i64 0, .int .i64 0, .string ⟨#[]⟩] 58))
  have C := Lib.hid (fun W => Tryd.strings_IndexByte (s.extract 1 s.size) 34 W)
  rw [HT.out, show ((34 : Int).toNat.toUInt8) = (34 : UInt8) from rfl] at C
  clear hL hsl
  rcases index_is r with ⟨e, h⟩ | ⟨k, e, hk, h⟩
  · rw [e] at C
    have HR := Lib.hid (text_none h)
    clear e h
    go_enter Tryd.func33, Tryd.ntmps33
    go_wp2_with fail
    refine (C.out _).mono ?_
    rintro e w1 ⟨rfl, rfl⟩
    go_wp2_with fail
    refine (amiss_any _).mono ?_
    rintro e w2 ⟨rfl, hb2⟩
    have B2 := Lib.hid (B0.out.trans (hb2.mono (by simp)))
    obtain ⟨c0, c1, c2, c3, cf, cl⟩ := K0.out.later hb2
    clear hb2
    unfold noTok
    go_wp2_with fail
    rw [HR.out]
    refine bodyPost_ret (v := lexV 35 none) (by simp [results, Tryd.results33, go_sem, lexV, *]) rfl ⟨rfl, ?_⟩
    exact set4 B2.out (Nat.le_refl _) _ _ _ _
  · rw [e] at C
    have hkl := (List.getElem?_eq_some_iff.1 hk).1
    have hk0 : ¬ (k : Int) < 0 := by omega
    have E := Lib.hid (And.intro hk h)
    clear e hk h
    by_cases h200 : k ≤ 200
    · have hz : ¬ (200 : Int) < (k : Int) := by omega
      have hz2 : (k : Int) ≤ 200 := by omega
      have hk2 : (1 : Int) + (k : Int) ≤ (s.size : Int) := by have := HSL.out; omega
      have e1 : ((1 : Int) + (k : Int)).toNat = k + 1 := by omega
      have HW := Lib.hid (show (s.extract 1 (k + 1)).data.toList = r.take k by rw [Lib.extract_data, HL.out]; simp)
      have C2 := Lib.hid (fun W => rowText_any (s.extract 1 (k + 1)) (by simp only [ByteArray.size_extract]; omega) W)
      rw [HW.out] at C2
      obtain ⟨m, hm⟩ : ∃ m, run txB (r.take k) = m := ⟨_, rfl⟩
      rw [hm] at C2
      by_cases hmk : m < k
      · have hmz : (m : Int) < (k : Int) := by omega
        have HR := Lib.hid (text_row E.out.1 E.out.2 (by rw [hm]; exact hmk))
        clear hm h200 hmk
        go_enter Tryd.func33, Tryd.ntmps33
        go_wp2_with fail
        refine (C.out _).mono ?_
        rintro e w1 ⟨rfl, rfl⟩
        go_wp2_with fail
        refine (C2.out _).mono ?_
        rintro e w1 ⟨rfl, rfl⟩
        go_wp2_with fail
        refine (amiss_any _).mono ?_
        rintro e w2 ⟨rfl, hb2⟩
        have B2 := Lib.hid (B0.out.trans (hb2.mono (by simp)))
        obtain ⟨c0, c1, c2, c3, cf, cl⟩ := K0.out.later hb2
        clear hb2
        unfold noTok
        go_wp2_with fail
        rw [HR.out]
        refine bodyPost_ret (v := lexV 35 none) (by simp [results, Tryd.results33, go_sem, lexV, *]) rfl ⟨rfl, ?_⟩
        exact set4 B2.out (Nat.le_refl _) _ _ _ _
      · have hmz : ¬ (m : Int) < (k : Int) := by omega
        have HR := Lib.hid (text_yes E.out.1 E.out.2 h200 (by rw [hm]; omega))
        have HP := Lib.hid (show s.extract 1 (k + 1) = ⟨(r.take k).toArray⟩ by rw [piece, HL.out]; simp)
        clear hm h200 hmk
        go_enter Tryd.func33, Tryd.ntmps33
        go_wp2_with fail
        refine (C.out _).mono ?_
        rintro e w1 ⟨rfl, rfl⟩
        go_wp2_with fail
        refine (C2.out _).mono ?_
        rintro e w1 ⟨rfl, rfl⟩
        go_wp2_with fail
        rw [HR.out]
        refine bodyPost_ret (v := lexV 35 _) (by simp [results, Tryd.results33, go_sem, lexV, HP.out]) rfl ⟨rfl, ?_⟩
        exact (Below.refl _ _).alloc (Nat.le_refl _) _
    · have hz : (200 : Int) < (k : Int) := by omega
      have hz2 : ¬ (k : Int) ≤ 200 := by omega
      have HR := Lib.hid (text_far E.out.1 E.out.2 (by omega))
      clear h200
      go_enter Tryd.func33, Tryd.ntmps33
      go_wp2_with fail
      refine (C.out _).mono ?_
      rintro e w1 ⟨rfl, rfl⟩
      go_wp2_with fail
      refine (amiss_any _).mono ?_
      rintro e w2 ⟨rfl, hb2⟩
      have B2 := Lib.hid (B0.out.trans (hb2.mono (by simp)))
      obtain ⟨c0, c1, c2, c3, cf, cl⟩ := K0.out.later hb2
      clear hb2
      unfold noTok
      go_wp2_with fail
      rw [HR.out]
      refine bodyPost_ret (v := lexV 35 none) (by simp [results, Tryd.results33, go_sem, lexV, *]) rfl ⟨rfl, ?_⟩
      exact set4 B2.out (Nat.le_refl _) _ _ _ _
end Go.Proofs.YtjffnjiggcfhcaaDoor.Tk
namespace Go.Proofs.YtjffnjiggcfhcaaDoor.Tk
open Go.RowKit
set_option linter.unusedVariables false
set_option linter.unusedSimpArgs false

theorem sign_yes {l : List UInt8} {z : Nat} (h1 : 1 ≤ z) (h2 : z ≤ 2) (hl : z ≤ l.length) (hno : ∀ y, z < y → y ≤ 2 → y ≤ l.length → signB (l.take y) = false) (hb : signB (l.take z) = true) :
    signL l = some ⟨5, 0, l.take z, z⟩ := by
  unfold signL
  by_cases e : z = 2
  · subst e
    rw [if_pos ⟨hl, hb⟩]
  · have e1 : z = 1 := by omega
    subst e1
    rw [if_neg, if_pos hb]
    rintro ⟨a, b⟩
    rw [hno 2 (by omega) (by omega) a] at b
    cases b
theorem sign_none {l : List UInt8} (h0 : 1 ≤ l.length) (hno : ∀ y, 0 < y → y ≤ 2 → y ≤ l.length → signB (l.take y) = false) : signL l = none := by
  unfold signL
  rw [if_neg, if_neg]
  · rw [hno 1 (by omega) (by omega) h0]; simp
  · rintro ⟨a, b⟩
    rw [hno 2 (by omega) (by omega) a] at b
    cases b
def SignR (l : List UInt8) (w : World) (vi : Value) (wr : World) : Prop :=
  ∃ z : Nat, z ≤ 2 ∧ z ≤ l.length ∧ vi = .int .i64 z ∧ Hid (∀ y, z < y → y ≤ 2 → y ≤ l.length → signB (l.take y) = false) ∧ w = wr
theorem run_min2 (P : Program) (ts : Array TypeId) (t : TypeId) (n m : Nat) (hm : m ≤ 2) (h : m = 2 ∧ 2 ≤ n ∨ m = n ∧ n < 2) (W : World) : (Builtin.min_ ts t #[.int .i64 2, .int .i64 (n : Int)]).run P W = .ok (.int .i64 (m : Int)) W := by
  rw [run_min_int2 W ts t .i64 .i64 2 (n : Int)]
  rcases h with ⟨rfl, h⟩ | ⟨rfl, h⟩
  · rw [if_neg (by omega)]; rfl
  · rw [if_pos (by omega)]

set_option maxHeartbeats 1000000 in
theorem sign_any (s : ByteArray) (h0 : 1 ≤ s.size) (w : World) : Calls Tryd.prog 34 #[.string s] w fun e w' => e = .returned (lexV 35 (signL s.data.toList)) ∧ Below w.heap.size w w' := by
  have HS := Lib.hid (Lib.size_eq s)
  have K0 := Lib.hid (Blk.new w (.int .i64 0) (.int .i64 0) (.int .i64 0) (.string ⟨#[]⟩) 58)
  have B0 := Lib.hid ((Below.refl w.heap.size w).alloc (Nat.le_refl _) (.cells #[.int .i64 0, .int .i64 0, .int .i64 0, .string ⟨#[]⟩] 58))
  obtain ⟨m, hm2, hm⟩ : ∃ m : Nat, m ≤ 2 ∧ (m = 2 ∧ 2 ≤ s.size ∨ m = s.size ∧ s.size < 2) := by
    by_cases h : 2 ≤ s.size
    · exact ⟨2, by omega, Or.inl ⟨rfl, h⟩⟩
    · exact ⟨s.size, by omega, Or.inr ⟨rfl, by omega⟩⟩
  have hmn := fun ts t W => run_min2 Tryd.prog ts t s.size m hm2 hm W
  have HM := Lib.hid (And.intro hm2 hm)
  have H0 := Lib.hid h0
  clear hm2 hm h0
  go_enter Tryd.func34, Tryd.ntmps34
  go_wp2_with fail
  obtain ⟨v, hv⟩ : ∃ v, v = w.alloc (.cells #[.int .i64 0, .int .i64 0, .int .i64 0, .string ⟨#[]⟩] 58) := ⟨_, rfl⟩
  rw [← hv]
  rw [← hv] at K0 B0
  clear hmn hv
  go_loopw [5] (fun vi wr => SignR s.data.toList v vi wr) (fun vi _ => (intOf vi).toNat)
  case atStart => exact ⟨m, HM.out.1, by have := HM.out; have := HS.out; omega, rfl, Lib.hid fun y h1 h2 h3 => absurd h1 (by have := HM.out; have := HS.out; omega), rfl⟩
  case round =>
    obtain ⟨z, hz2, hzl, rfl, hno, rfl⟩ := hrel
    by_cases hz : z = 0
    · subst hz
      have HR := Lib.hid (sign_none (by have := HS.out; have := H0.out; omega) (fun y a b c => hno.out y a b c))
      go_wp2_with fail
      refine (amiss_any _).mono ?_
      rintro e w2 ⟨rfl, hb2⟩
      have B2 := Lib.hid (B0.out.trans (hb2.mono B0.out.size))
      obtain ⟨c0, c1, c2, c3, cf, cl⟩ := K0.out.later hb2
      clear hb2
      unfold noTok
      go_wp2_with fail
      rw [HR.out]
      refine bodyPost_ret (v := lexV 35 none) (by simp [results, Tryd.results34, go_sem, lexV, *]) rfl ⟨rfl, ?_⟩
      exact set4 B2.out (Nat.le_refl _) _ _ _ _
    · have hzz : (0 : Int) < (z : Int) := by omega
      have hzs : (z : Int) ≤ (s.size : Int) := by have := HS.out; omega
      obtain ⟨b, hb⟩ : ∃ b, signB (s.extract 0 z).data.toList = b := ⟨_, rfl⟩
      have HB := Lib.hid hb
      have HZ := Lib.hid (And.intro hz2 hzl)
      clear hb hz2 hzl
      have hw : wrap64 ((z : Int) - 1) = ((z - 1 : Nat) : Int) := by have := HZ.out; unfold wrap64; omega
      obtain ⟨c0, c1, c2, c3, cf, cl⟩ := K0.out
      go_wp2_with fail
      refine (sign_is _ _).mono ?_
      rintro e w1 ⟨rfl, rfl⟩
      rw [HB.out]
      cases b
      · go_wp2_with fail
        go_roundw
        case rel => exact ⟨z - 1, by have := HZ.out; omega, by have := HZ.out; omega, congrArg (Value.int .i64) hw, Lib.hid fun y a b c => by
          by_cases e : y = z
          · subst e; rw [← take_data]; exact HB.out
          · exact hno.out y (by omega) b c, rfl⟩
        case measure => simp [intOf]; omega
      · have HR := Lib.hid (sign_yes (by omega) HZ.out.1 HZ.out.2 hno.out (by rw [← take_data]; exact HB.out))
        go_wp2_with fail
        rw [HR.out]
        refine bodyPost_ret (v := lexV 35 _) (by simp [results, Tryd.results34, go_sem, lexV, take_extract, *]) rfl ⟨rfl, ?_⟩
        exact set4 B0.out (Nat.le_refl _) _ _ _ _
end Go.Proofs.YtjffnjiggcfhcaaDoor.Tk
