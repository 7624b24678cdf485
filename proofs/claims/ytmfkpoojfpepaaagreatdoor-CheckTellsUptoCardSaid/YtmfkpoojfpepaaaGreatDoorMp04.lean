/-
  Contract of number of package token: the number that a text begins with, by a digit or a -. Memory that was there is left as it was; the package variables ErrSyntax and ErrRange of strconv hold interface values.
-/
import Derived.Test.YtmfkpoojfpepaaaGreatDoorMp01
import Derived.WalkKit
import Derived.WalkSpells
import Derived.Below
import Derived.Lib.Strings
import Derived.Lib.IndexBytes
import Derived.Lib.Hide
import Derived.Test.YtmfkpoojfpepaaaGreatDoorMp03
import Derived.Shelf.Small.Strs
import Derived.Shelf.Strconv.ParseIntEmpty
import Derived.Shelf.LaysM
import Derived.Shelf.Strconv.Clone
import Derived.Shelf.Strconv.SyntaxError
import Derived.Shelf.LaysC
import Derived.Shelf.Strconv.ToError
import Derived.Shelf.Strconv.Lower
import Derived.Shelf.Strconv.ParseUint10
import Derived.Shelf.Strconv.ParseUint10Empty
import Derived.Shelf.Strconv.ParseUint10Any
import Derived.Shelf.Strconv.ParseInt10
import Derived.Shelf.Strconv.RangeError
import Derived.Shelf.Strconv.ToErrorRange
import Derived.Shelf.Strconv.ParseUintEmpty
import Derived.Shelf.Strconv.ParseUint10b64
import Derived.Shelf.Strconv.ParseUint10b32
import Derived.Shelf.Strconv.ParseUint10b16
import Derived.Shelf.Strconv.ParseUint10b8
import Derived.Shelf.Strconv.ParseUint10At
import Derived.Shelf.Strconv.ParseInt10At64
import Derived.Shelf.Strconv.ParseInt10At32
import Derived.Shelf.Strconv.ParseInt10At16
import Derived.Shelf.Strconv.ParseInt10At8
import Derived.Shelf.Strconv.ParseInt10All
import Derived.Shelf.Strconv.ParseIntPublic10
import Derived.Shelf.Strconv.ErrVarParseInt
import Derived.Shelf.Strings.Search1
import Derived.Shelf.Strings.Prefix
import Derived.Test.YtmfkpoojfpepaaaGreatDoorProg
import Derived.WalkSmall
/-
  A block of four cells that a call has made; a text's pieces as lists of bytes. No program here.
-/
namespace Go.Proofs.YtmfkpoojfpepaaaGreatDoor.Tk
open Go.RowKit
set_option linter.unusedVariables false

/-- Block b holds these four, and may be written. -/
def Blk (W : World) (b : Nat) (x y z u : Value) : Prop :=
  W.cell? ⟨b, 0, none⟩ = some x ∧ W.cell? ⟨b, 1, none⟩ = some y ∧ W.cell? ⟨b, 2, none⟩ = some z ∧ W.cell? ⟨b, 3, none⟩ = some u ∧ (∀ o, W.frozen? ⟨b, o, none⟩ = false) ∧ b < W.heap.size
theorem Blk.new (w : World) (x y z u : Value) (t : TypeId) : Blk (w.alloc (.cells #[x, y, z, u] t)) w.heap.size x y z u := by
  refine ⟨?_, ?_, ?_, ?_, fun o => ?_, ?_⟩ <;> simp [go_sem]
theorem Blk.later {W V : World} {b : Nat} {x y z u : Value} (h : Blk W b x y z u) (hb : Below W.heap.size W V) : Blk V b x y z u := by
  obtain ⟨h0, h1, h2, h3, hf, hl⟩ := h
  exact ⟨cell_later hb h0, cell_later hb h1, cell_later hb h2, cell_later hb h3, fun o => (World.frozen?_of_block (w := W) (a := ⟨b, o, none⟩) (hb.block b hl)).trans (hf o), Nat.lt_of_lt_of_le hl hb.size⟩
theorem set4 {B b : Nat} {w W : World} (h : Below B w W) (hb : B ≤ b) (x y z u : Value) :
    Below B w ((((W.setCell ⟨b, 0, none⟩ x).setCell ⟨b, 1, none⟩ y).setCell ⟨b, 2, none⟩ z).setCell ⟨b, 3, none⟩ u) :=
  (((h.setCell hb _).setCell hb _).setCell hb _).setCell hb _

theorem take_extract (s : ByteArray) (k : Nat) : s.extract 0 k = ⟨(s.data.toList.take k).toArray⟩ := by
  rw [Lib.extract_eq]
  simp
theorem piece (s : ByteArray) (a b : Nat) : s.extract a b = ⟨((s.data.toList.drop a).take (b - a)).toArray⟩ := Lib.extract_eq s a b
theorem bytes_toList (l : List UInt8) : (⟨l.toArray⟩ : ByteArray).data.toList = l := rfl
theorem take_data (s : ByteArray) (k : Nat) : (s.extract 0 k).data.toList = s.data.toList.take k := by
  rw [Lib.extract_data]
  simp
theorem bytes_size (l : List UInt8) : (⟨l.toArray⟩ : ByteArray).size = l.length := by
  show (l.toArray).size = _
  simp
/-- What is told of the token that a list begins with. -/
def lexV (t : TypeId) : Option Lx → Value
  | none => .tuple #[.agg #[.int .i64 0, .int .i64 0, .int .i64 0, .string ⟨#[]⟩], .int .i64 0, .iface t (.int .i64 2)]
  | some x => .tuple #[.agg #[.int .i64 x.kind, .int .i64 0, .int .i64 x.num, .string ⟨x.str.toArray⟩], .int .i64 (x.size : Nat), .nilIface]
end Go.Proofs.YtmfkpoojfpepaaaGreatDoor.Tk
/-
  Contract of name of package token: the name, or the word, that a text begins with. Memory that was there is left as it was.
-/
namespace Go.Proofs.YtmfkpoojfpepaaaGreatDoor.Tk
open Go.RowKit
set_option linter.unusedVariables false
set_option linter.unusedSimpArgs false

set_option maxHeartbeats 1000000 in
theorem name_any (s : ByteArray) (hs : s.size ≤ 1048576) (w : World) : Calls Tryz.prog 91 #[.string s] w fun e w' => e = .returned (lexV 44 (nameL s.data.toList)) ∧ Below w.heap.size w w' := by
  have C := Lib.hid (fun W => rowName_any s hs W)
  have HS := Lib.hid (Lib.size_eq s)
  obtain ⟨k, hk⟩ : ∃ k, run nmB s.data.toList = k := ⟨_, rfl⟩
  have hkl : (k : Int) ≤ (s.size : Int) := by have := run_le nmB s.data.toList; have := HS.out; omega
  rw [hk] at C
  have K0 := Lib.hid (Blk.new w (.int .i64 0) (.int .i64 0) (.int .i64 0) (.string ⟨#[]⟩) 110)
  have B0 := Lib.hid ((Below.refl w.heap.size w).alloc (Nat.le_refl _) (.cells #[.int .i64 0, .int .i64 0, .int .i64 0, .string ⟨#[]⟩] 110))
  have HK := Lib.hid hk
  clear hk
  by_cases h20 : k ≤ 20
  · have hz : (k : Int) ≤ 20 := by omega
    obtain ⟨b, hb⟩ : ∃ b, wordB (s.extract 0 k).data.toList = b := ⟨_, rfl⟩
    have HB := Lib.hid hb
    clear hb
    have HR := Lib.hid (show nameL s.data.toList = some ⟨if b then 2 else 1, 0, s.data.toList.take k, k⟩ by
      unfold nameL
      rw [HK.out, if_pos h20, ← HB.out, take_data])
    cases b
    all_goals
      go_enter Tryz.func91, Tryz.ntmps91
      go_wp2_with fail
      refine (C.out _).mono ?_
      rintro e w1 ⟨rfl, rfl⟩
      go_wp2_with fail
      refine (word_any _ _).mono ?_
      rintro e w1 ⟨rfl, rfl⟩
      rw [HB.out]
      go_wp2_with fail
      rw [HR.out]
      refine bodyPost_ret (v := lexV 44 _) (by simp [results, Tryz.results91, go_sem, lexV, take_extract]) rfl ⟨rfl, ?_⟩
      exact (Below.refl _ _).alloc (Nat.le_refl _) _
  · have hz : ¬ (k : Int) ≤ 20 := by omega
    have HR := Lib.hid (show nameL s.data.toList = none by
      unfold nameL
      rw [HK.out, if_neg h20])
    go_enter Tryz.func91, Tryz.ntmps91
    go_wp2_with fail
    refine (C.out _).mono ?_
    rintro e w1 ⟨rfl, rfl⟩
    go_wp2_with fail
    refine (amiss_any _).mono ?_
    rintro e w2 ⟨rfl, hb2⟩
    have K2 := K0.out.later hb2
    have B2 := Lib.hid (B0.out.trans (hb2.mono (by simp)))
    obtain ⟨c0, c1, c2, c3, cf, cl⟩ := K2
    clear hb2
    unfold noTok
    go_wp2_with fail
    rw [HR.out]
    refine bodyPost_ret (v := lexV 44 none) (by simp [results, Tryz.results91, go_sem, lexV, *]) rfl ⟨rfl, ?_⟩
    exact set4 B2.out (Nat.le_refl _) _ _ _ _
end Go.Proofs.YtmfkpoojfpepaaaGreatDoor.Tk
/-
  The library's functions that the code calls, each by what it answers (strings_IndexByte, stringslite_Clone, strings_HasPrefix, strconv_ParseInt_10_at64_ok, strconv_ParseInt_10_at64_syntax_var, strconv_ParseInt_10_at64_range_var): laid at this program by the shelf, without conditions of our own.
-/
namespace Go.Proofs
open Go.Shelf
def Tryz.lays137_ren : Go.Shelf.Ren := ⟨fun | 137 => 102 | 217 => 108 | 266 => 114 | n => n, fun | 9 => 9 | 5 => 5 | 3 => 3 | n => n, fun | n => n⟩
theorem Tryz.lays137 : Go.Proofs.Lays.n137 Tryz.prog Tryz.lays137_ren := {
  mixed := by kernel_rfl
  f137 := Tryz.func102.trans (congrArg some (by kernel_rfl))
  f217 := Tryz.func108.trans (congrArg some (by kernel_rfl))
  f266 := Tryz.func114.trans (congrArg some (by kernel_rfl))
  t3 := Tryz.underlying3
  a3 := Tryz.isAgg3
  z3 := Tryz.sizeOf3
  v3 := Tryz.zeroValue3
  t5 := Tryz.underlying5
  a5 := Tryz.isAgg5
  z5 := Tryz.sizeOf5
  v5 := Tryz.zeroValue5
  t9 := Tryz.underlying9
  a9 := Tryz.isAgg9
  z9 := Tryz.sizeOf9
  v9 := Tryz.zeroValue9 }
open Go.RowKit in
theorem Tryz.strings_IndexByte (s : ByteArray) (c : Int) (w : World) :
    Calls Tryz.prog 102 #[.string s, .int .u8 c] w fun e w' => e = .returned (.int .i64 (Lib.indexByte s.data.toList c.toNat.toUInt8)) ∧ w' = w := Any.strings_IndexByte Tryz.lays137 s c w
def Tryz.laysM316_ren : Go.Shelf.Ren := ⟨fun | 316 => 41 | n => n, fun | 9 => 9 | 3 => 3 | 4 => 4 | 37 => 77 | 0 => 0 | 127 => 78 | 5 => 5 | n => n, fun | n => n⟩
theorem Tryz.laysM316 : Go.Proofs.LaysM.n316 Tryz.prog Tryz.laysM316_ren := {
  mixed := by kernel_rfl
  f316 := Tryz.func41.trans (congrArg some (by kernel_rfl))
  t0 := Tryz.underlying0
  a0 := Tryz.isAgg0
  z0 := Tryz.sizeOf0
  v0 := Tryz.zeroValue0
  t3 := Tryz.underlying3
  a3 := Tryz.isAgg3
  z3 := Tryz.sizeOf3
  v3 := Tryz.zeroValue3
  t4 := Tryz.underlying4
  a4 := Tryz.isAgg4
  z4 := Tryz.sizeOf4
  v4 := Tryz.zeroValue4
  t9 := Tryz.underlying9
  a9 := Tryz.isAgg9
  z9 := Tryz.sizeOf9
  v9 := Tryz.zeroValue9
  t37 := Tryz.underlying77
  a37 := Tryz.isAgg77
  z37 := Tryz.sizeOf77
  v37 := Tryz.zeroValue77
  t127 := Tryz.underlying78
  a127 := Tryz.isAgg78
  z127 := Tryz.sizeOf78
  v127 := Tryz.zeroValue78
  t5 := Tryz.underlying5
  a5 := Tryz.isAgg5
  z5 := Tryz.sizeOf5
  v5 := Tryz.zeroValue5
  i0 := by kernel_rfl
  i3 := by kernel_rfl
  i4 := by kernel_rfl
  i5 := by kernel_rfl
  i9 := by kernel_rfl
  i37 := by kernel_rfl
  i127 := by kernel_rfl }
open Go.RowKit in
theorem Tryz.stringslite_Clone (s : ByteArray) (w : World) (hlim : s.size ≤ 281474976710656) :
    Calls Tryz.prog 41 #[.string s] w fun e w' => e = .returned (.string s) ∧ Below w.heap.size w w' := Any.stringslite_Clone Tryz.laysM316 s w hlim
def Tryz.laysC174_ren : Go.Shelf.Ren := ⟨fun | 174 => 101 | 247 => 106 | 245 => 107 | 287 => 109 | 279 => 110 | 280 => 111 | 281 => 112 | 282 => 113 | 321 => 115 | 322 => 116 | 316 => 41 | 171 => 118 | 205 => 117 | 243 => 119 | 246 => 120 | 283 => 121 | 284 => 122 | 285 => 123 | 286 => 124 | 129 => 69 | 317 => 125 | 318 => 126 | 319 => 127 | 320 => 128 | 337 => 129 | 338 => 130 | n => n, fun | 9 => 9 | 3 => 3 | 2 => 2 | 75 => 34 | 85 => 115 | 4 => 4 | 167 => 119 | 5 => 5 | 53 => 95 | 175 => 120 | 46 => 76 | 168 => 122 | 37 => 77 | 0 => 0 | 210 => 127 | 21 => 21 | 127 => 78 | 145 => 132 | 143 => 130 | 171 => 134 | 173 => 136 | 212 => 140 | 51 => 93 | 20 => 20 | 213 => 141 | 232 => 142 | 233 => 143 | 80 => 144 | n => n, fun | 15 => 0 | 16 => 1 | 17 => 3 | 18 => 4 | 19 => 5 | n => n⟩
theorem Tryz.laysC174 : Go.Proofs.LaysC.n174 Tryz.prog Tryz.laysC174_ren := {
  mixed := by kernel_rfl
  f129 := Tryz.func69.trans (congrArg some (by kernel_rfl))
  f171 := Tryz.func118.trans (congrArg some (by kernel_rfl))
  f174 := Tryz.func101.trans (congrArg some (by kernel_rfl))
  f205 := Tryz.func117.trans (congrArg some (by kernel_rfl))
  f243 := Tryz.func119.trans (congrArg some (by kernel_rfl))
  f245 := Tryz.func107.trans (congrArg some (by kernel_rfl))
  f246 := Tryz.func120.trans (congrArg some (by kernel_rfl))
  f247 := Tryz.func106.trans (congrArg some (by kernel_rfl))
  f279 := Tryz.func110.trans (congrArg some (by kernel_rfl))
  f280 := Tryz.func111.trans (congrArg some (by kernel_rfl))
  f281 := Tryz.func112.trans (congrArg some (by kernel_rfl))
  f282 := Tryz.func113.trans (congrArg some (by kernel_rfl))
  f283 := Tryz.func121.trans (congrArg some (by kernel_rfl))
  f284 := Tryz.func122.trans (congrArg some (by kernel_rfl))
  f285 := Tryz.func123.trans (congrArg some (by kernel_rfl))
  f286 := Tryz.func124.trans (congrArg some (by kernel_rfl))
  f287 := Tryz.func109.trans (congrArg some (by kernel_rfl))
  f316 := Tryz.func41.trans (congrArg some (by kernel_rfl))
  f317 := Tryz.func125.trans (congrArg some (by kernel_rfl))
  f318 := Tryz.func126.trans (congrArg some (by kernel_rfl))
  f319 := Tryz.func127.trans (congrArg some (by kernel_rfl))
  f320 := Tryz.func128.trans (congrArg some (by kernel_rfl))
  f321 := Tryz.func115.trans (congrArg some (by kernel_rfl))
  f322 := Tryz.func116.trans (congrArg some (by kernel_rfl))
  f337 := Tryz.func129.trans (congrArg some (by kernel_rfl))
  f338 := Tryz.func130.trans (congrArg some (by kernel_rfl))
  t0 := Tryz.underlying0
  a0 := Tryz.isAgg0
  z0 := Tryz.sizeOf0
  v0 := Tryz.zeroValue0
  t2 := Tryz.underlying2
  a2 := Tryz.isAgg2
  z2 := Tryz.sizeOf2
  v2 := Tryz.zeroValue2
  t3 := Tryz.underlying3
  a3 := Tryz.isAgg3
  z3 := Tryz.sizeOf3
  v3 := Tryz.zeroValue3
  t4 := Tryz.underlying4
  a4 := Tryz.isAgg4
  z4 := Tryz.sizeOf4
  v4 := Tryz.zeroValue4
  t5 := Tryz.underlying5
  a5 := Tryz.isAgg5
  z5 := Tryz.sizeOf5
  v5 := Tryz.zeroValue5
  t9 := Tryz.underlying9
  a9 := Tryz.isAgg9
  z9 := Tryz.sizeOf9
  v9 := Tryz.zeroValue9
  t20 := Tryz.underlying20
  a20 := Tryz.isAgg20
  z20 := Tryz.sizeOf20
  v20 := Tryz.zeroValue20
  t21 := Tryz.underlying21
  a21 := Tryz.isAgg21
  z21 := Tryz.sizeOf21
  v21 := Tryz.zeroValue21
  t37 := Tryz.underlying77
  a37 := Tryz.isAgg77
  z37 := Tryz.sizeOf77
  v37 := Tryz.zeroValue77
  t46 := Tryz.underlying76
  a46 := Tryz.isAgg76
  z46 := Tryz.sizeOf76
  v46 := Tryz.zeroValue76
  t51 := Tryz.underlying93
  a51 := Tryz.isAgg93
  z51 := Tryz.sizeOf93
  v51 := Tryz.zeroValue93
  t53 := Tryz.underlying95
  a53 := Tryz.isAgg95
  z53 := Tryz.sizeOf95
  v53 := Tryz.zeroValue95
  t75 := Tryz.underlying34
  a75 := Tryz.isAgg34
  z75 := Tryz.sizeOf34
  v75 := Tryz.zeroValue34
  t85 := Tryz.underlying115
  a85 := Tryz.isAgg115
  z85 := Tryz.sizeOf115
  v85 := Tryz.zeroValue115
  t127 := Tryz.underlying78
  a127 := Tryz.isAgg78
  z127 := Tryz.sizeOf78
  v127 := Tryz.zeroValue78
  t143 := Tryz.underlying130
  a143 := Tryz.isAgg130
  z143 := Tryz.sizeOf130
  v143 := Tryz.zeroValue130
  t145 := Tryz.underlying132
  a145 := Tryz.isAgg132
  z145 := Tryz.sizeOf132
  v145 := Tryz.zeroValue132
  t167 := Tryz.underlying119
  a167 := Tryz.isAgg119
  z167 := Tryz.sizeOf119
  v167 := Tryz.zeroValue119
  t168 := Tryz.underlying122
  a168 := Tryz.isAgg122
  z168 := Tryz.sizeOf122
  v168 := Tryz.zeroValue122
  t171 := Tryz.underlying134
  a171 := Tryz.isAgg134
  z171 := Tryz.sizeOf134
  v171 := Tryz.zeroValue134
  t173 := Tryz.underlying136
  a173 := Tryz.isAgg136
  z173 := Tryz.sizeOf136
  v173 := Tryz.zeroValue136
  t175 := Tryz.underlying120
  a175 := Tryz.isAgg120
  z175 := Tryz.sizeOf120
  v175 := Tryz.zeroValue120
  t210 := Tryz.underlying127
  a210 := Tryz.isAgg127
  z210 := Tryz.sizeOf127
  v210 := Tryz.zeroValue127
  t212 := Tryz.underlying140
  a212 := Tryz.isAgg140
  z212 := Tryz.sizeOf140
  v212 := Tryz.zeroValue140
  t213 := Tryz.underlying141
  a213 := Tryz.isAgg141
  z213 := Tryz.sizeOf141
  t232 := Tryz.underlying142
  a232 := Tryz.isAgg142
  z232 := Tryz.sizeOf142
  v232 := Tryz.zeroValue142
  t233 := Tryz.underlying143
  a233 := Tryz.isAgg143
  z233 := Tryz.sizeOf143
  v233 := Tryz.zeroValue143
  g15 := by kernel_rfl
  g16 := by kernel_rfl
  g17 := by kernel_rfl
  g18 := by kernel_rfl
  g19 := by kernel_rfl
  t80 := Tryz.underlying144
  a80 := Tryz.isAgg144
  z80 := Tryz.sizeOf144
  v80 := Tryz.zeroValue144
  i0 := by kernel_rfl
  i2 := by kernel_rfl
  i3 := by kernel_rfl
  i4 := by kernel_rfl
  i5 := by kernel_rfl
  i9 := by kernel_rfl
  i20 := by kernel_rfl
  i21 := by kernel_rfl
  i37 := by kernel_rfl
  i46 := by kernel_rfl
  i51 := by kernel_rfl
  i53 := by kernel_rfl
  i75 := by kernel_rfl
  i80 := by kernel_rfl
  i85 := by kernel_rfl
  i127 := by kernel_rfl
  i143 := by kernel_rfl
  i145 := by kernel_rfl
  i167 := by kernel_rfl
  i168 := by kernel_rfl
  i171 := by kernel_rfl
  i173 := by kernel_rfl
  i175 := by kernel_rfl
  i210 := by kernel_rfl
  i212 := by kernel_rfl
  i232 := by kernel_rfl
  i233 := by kernel_rfl
  m15 := by kernel_rfl
  m16 := by kernel_rfl
  m17 := by kernel_rfl
  m18 := by kernel_rfl
  m19 := by kernel_rfl
  c0 := by kernel_rfl
  c2 := by kernel_rfl
  c3 := by kernel_rfl
  c4 := by kernel_rfl
  c5 := by kernel_rfl
  c9 := by kernel_rfl
  c20 := by kernel_rfl
  c21 := by kernel_rfl
  c37 := by kernel_rfl
  c46 := by kernel_rfl
  c51 := by kernel_rfl
  c53 := by kernel_rfl
  c75 := by kernel_rfl
  c80 := by kernel_rfl
  c85 := by kernel_rfl
  c127 := by kernel_rfl
  c143 := by kernel_rfl
  c145 := by kernel_rfl
  c167 := by kernel_rfl
  c168 := by kernel_rfl
  c171 := by kernel_rfl
  c173 := by kernel_rfl
  c175 := by kernel_rfl
  c210 := by kernel_rfl
  c212 := by kernel_rfl
  c213 := by kernel_rfl
  c232 := by kernel_rfl
  c233 := by kernel_rfl }
open Go.RowKit in
theorem Tryz.strconv_ParseInt_10_at64_ok (s : ByteArray) (hmax : s.size ≤ 9223372036854775806) (v : Int) (h : Lib.parseIntB 64 s.data.toList = .ok v) (w : World) :
    Calls Tryz.prog 101 #[.string s, .int .i64 10, .int .i64 64] w fun e w' => e = .returned (.tuple #[.int .i64 v, .nilIface]) ∧ (w' = w ∨ ∃ t, w' = Lib.bytesWorld w 5 t) := Any.strconv_ParseInt_10_at64_ok Tryz.laysC174 s hmax v h w
open Go.RowKit in
theorem Tryz.strconv_ParseInt_10_at64_syntax_var (s : ByteArray) (hlim : s.size ≤ 281474976710656) (h : Lib.parseIntB 64 s.data.toList = Lib.NumEnd.syntax) (tp : TypeId) (p : Value) (w : World) (hvar : w.var? Tryz.prog "strconv.ErrSyntax" = some #[.iface tp p]) :
    Calls Tryz.prog 101 #[.string s, .int .i64 10, .int .i64 64] w fun e w' => ∃ N, e = .returned (.tuple #[.int .i64 (0), .iface 122 (.pointer (some ⟨N, 0, none⟩))]) ∧ w.heap.size ≤ N ∧ w'.heap[N]? = some (.cells #[.string ⟨#[80, 97, 114, 115, 101, 73, 110, 116]⟩, .string s, .iface tp p] 127 (0, 0)) ∧ Below w.heap.size w w' := Any.strconv_ParseInt_10_at64_syntax_var Tryz.laysC174 s hlim h tp p w hvar
open Go.RowKit in
theorem Tryz.strconv_ParseInt_10_at64_range_var (s : ByteArray) (hlim : s.size ≤ 281474976710656) (h : Lib.parseIntB 64 s.data.toList = .range) (tp : TypeId) (p : Value) (w : World) (hvar : w.var? Tryz.prog "strconv.ErrRange" = some #[.iface tp p]) :
    Calls Tryz.prog 101 #[.string s, .int .i64 10, .int .i64 64] w fun e w' => ∃ N, e = .returned (.tuple #[.int .i64 (Lib.intSat 64 s.data.toList), .iface 122 (.pointer (some ⟨N, 0, none⟩))]) ∧ w.heap.size ≤ N ∧ w'.heap[N]? = some (.cells #[.string ⟨#[80, 97, 114, 115, 101, 73, 110, 116]⟩, .string s, .iface tp p] 127 (0, 0)) ∧ Below w.heap.size w w' := Any.strconv_ParseInt_10_at64_range_var Tryz.laysC174 s hlim h tp p w hvar
def Tryz.lays99_ren : Go.Shelf.Ren := ⟨fun | 99 => 100 | 206 => 105 | n => n, fun | 9 => 9 | 4 => 4 | 3 => 3 | n => n, fun | n => n⟩
theorem Tryz.lays99 : Go.Proofs.Lays.n99 Tryz.prog Tryz.lays99_ren := {
  mixed := by kernel_rfl
  f99 := Tryz.func100.trans (congrArg some (by kernel_rfl))
  f206 := Tryz.func105.trans (congrArg some (by kernel_rfl))
  t3 := Tryz.underlying3
  a3 := Tryz.isAgg3
  z3 := Tryz.sizeOf3
  v3 := Tryz.zeroValue3
  t4 := Tryz.underlying4
  a4 := Tryz.isAgg4
  z4 := Tryz.sizeOf4
  v4 := Tryz.zeroValue4
  t9 := Tryz.underlying9
  a9 := Tryz.isAgg9
  z9 := Tryz.sizeOf9
  v9 := Tryz.zeroValue9 }
open Go.RowKit Go.Lib in
theorem Tryz.strings_HasPrefix (s p : ByteArray) (w : World) :
    Calls Tryz.prog 100 #[.string s, .string p] w fun e w' => e = .returned (.bool (Lib.hasPrefix s.data.toList p.data.toList)) ∧ w' = w := Any.strings_HasPrefix Tryz.lays99 s p w
end Go.Proofs
/-
  Contract of text of package token: the text that a list of bytes begins with, by a ". Memory that was there is left as it was.
-/
namespace Go.Proofs.YtmfkpoojfpepaaaGreatDoor.Tk
open Go.RowKit
set_option linter.unusedVariables false
set_option linter.unusedSimpArgs false

theorem index_is : ∀ (r : List UInt8), (Lib.indexByte r 34 = -1 ∧ ∀ (j : Nat) (c : UInt8), r[j]? = some c → c ≠ 34) ∨
    ∃ k : Nat, Lib.indexByte r 34 = (k : Int) ∧ r[k]? = some 34 ∧ ∀ (j : Nat) (c : UInt8), j < k → r[j]? = some c → c ≠ 34
  | [] => Or.inl ⟨rfl, fun j c h => by simp at h⟩
  | d :: r => by
    by_cases hd : d = 34
    · subst hd
      exact Or.inr ⟨0, rfl, rfl, fun j c h => absurd h (Nat.not_lt_zero _)⟩
    · have hb : (d == 34) = false := by simpa using hd
      rcases index_is r with ⟨e, h⟩ | ⟨k, e, hk, h⟩
      · refine Or.inl ⟨by rw [Lib.indexByte, hb, e]; rfl, fun j c hc => ?_⟩
        match j, hc with
        | 0, hc => simp at hc; subst hc; exact hd
        | j + 1, hc => exact h j c (by simpa using hc)
      · refine Or.inr ⟨k + 1, ?_, by simpa using hk, fun j c hj hc => ?_⟩
        · rw [Lib.indexByte, hb, e]
          have : ((k : Int) == -1) = false := by simp
          simp [this]
        · match j, hc with
          | 0, hc => simp at hc; subst hc; exact hd
          | j + 1, hc => exact h j c (by omega) (by simpa using hc)
theorem inB34 : inB 34 = false := by decide
theorem text_yes {r : List UInt8} {k : Nat} (hk : r[k]? = some 34) (hno : ∀ (j : Nat) (c : UInt8), j < k → r[j]? = some c → c ≠ 34) (h200 : k ≤ 200) (hrow : k ≤ run txB (r.take k)) :
    textL r = some ⟨4, 0, r.take k, k + 2⟩ := by
  have hkl := (List.getElem?_eq_some_iff.1 hk).1
  have hm : run inB r = k := by
    refine run_eq inB r k (by omega) (fun j c hj hc => ?_) (fun c hc => ?_)
    · rw [run_take] at hrow
      have h1 := run_all txB r j c (by omega) hc
      have h2 := hno j c hj hc
      have h3 : ¬ c.toNat = 34 := fun e => h2 (UInt8.toNat_inj.1 e)
      simp [inB, h1, h3]
    · rw [hk] at hc
      cases hc
      exact inB34
  unfold textL
  rw [hm, if_pos ⟨h200, hk⟩]
theorem text_at {r : List UInt8} {k : Nat} (hk : r[k]? = some 34) (hno : ∀ (j : Nat) (c : UInt8), j < k → r[j]? = some c → c ≠ 34) (he : r[run inB r]? = some 34) : run inB r = k := by
  rcases Nat.lt_trichotomy (run inB r) k with h | h | h
  · exact absurd rfl (hno _ _ h he)
  · exact h
  · have := run_all inB r k 34 h hk
    rw [inB34] at this
    cases this
theorem text_far {r : List UInt8} {k : Nat} (hk : r[k]? = some 34) (hno : ∀ (j : Nat) (c : UInt8), j < k → r[j]? = some c → c ≠ 34) (h200 : 200 < k) : textL r = none := by
  unfold textL
  rw [if_neg]
  rintro ⟨h1, h2⟩
  have := text_at hk hno h2
  omega
theorem text_row {r : List UInt8} {k : Nat} (hk : r[k]? = some 34) (hno : ∀ (j : Nat) (c : UInt8), j < k → r[j]? = some c → c ≠ 34) (hrow : run txB (r.take k) < k) : textL r = none := by
  have hkl := (List.getElem?_eq_some_iff.1 hk).1
  unfold textL
  rw [if_neg]
  rintro ⟨h1, h2⟩
  have hm := text_at hk hno h2
  rw [run_take] at hrow
  have hlt : run txB r < r.length := by omega
  have a1 := run_end txB r r[run txB r] (by simp [hlt])
  have a2 := run_all inB r (run txB r) r[run txB r] (by omega) (by simp [hlt])
  simp [inB, a1] at a2
theorem text_none {r : List UInt8} (hno : ∀ (j : Nat) (c : UInt8), r[j]? = some c → c ≠ 34) : textL r = none := by
  unfold textL
  rw [if_neg]
  rintro ⟨h1, h2⟩
  exact absurd rfl (hno _ _ h2)

set_option maxHeartbeats 1000000 in
theorem text_any (s : ByteArray) (hs : s.size ≤ 1048576) (c : UInt8) (r : List UInt8) (hL : s.data.toList = c :: r) (w : World) : Calls Tryz.prog 94 #[.string s] w fun e w' => e = .returned (lexV 44 (textL r)) ∧ Below w.heap.size w w' := by
  have HL := Lib.hid hL
  have hsl : s.size = r.length + 1 := by rw [Lib.size_eq, hL]; rfl
  have h1z : (1 : Int) ≤ (s.size : Int) := by omega
  have HSL := Lib.hid hsl
  have HT := Lib.hid (show (s.extract 1 s.size).data.toList = r by rw [Lib.extract_to_end, HL.out]; rfl)
  have K0 := Lib.hid (Blk.new w (.int .i64 0) (.int .i64 0) (.int .i64 0) (.string ⟨#[]⟩) 110)
  have B0 := Lib.hid ((Below.refl w.heap.size w).alloc (Nat.le_refl _) (.cells #[.int .i64 0, .int .i64 0, .int .i64 0, .string ⟨#[]⟩] 110))
  have C := Lib.hid (fun W => Tryz.strings_IndexByte (s.extract 1 s.size) 34 W)
  rw [HT.out, show ((34 : Int).toNat.toUInt8) = (34 : UInt8) from rfl] at C
  clear hL hsl
  rcases index_is r with ⟨e, h⟩ | ⟨k, e, hk, h⟩
  · rw [e] at C
    have HR := Lib.hid (text_none h)
    clear e h
    go_enter Tryz.func94, Tryz.ntmps94
    go_wp2_with fail
    refine (C.out _).mono ?_
    rintro e w1 ⟨rfl, rfl⟩
    go_wp2_with fail
    refine (amiss_any _).mono ?_
    rintro e w2 ⟨rfl, hb2⟩
    have B2 := Lib.hid (B0.out.trans (hb2.mono (by simp)))
    obtain ⟨c0, c1, c2, c3, cf, cl⟩ := K0.out.later hb2
    clear hb2
    unfold noTok
    go_wp2_with fail
    rw [HR.out]
    refine bodyPost_ret (v := lexV 44 none) (by simp [results, Tryz.results94, go_sem, lexV, *]) rfl ⟨rfl, ?_⟩
    exact set4 B2.out (Nat.le_refl _) _ _ _ _
  · rw [e] at C
    have hkl := (List.getElem?_eq_some_iff.1 hk).1
    have hk0 : ¬ (k : Int) < 0 := by omega
    have E := Lib.hid (And.intro hk h)
    clear e hk h
    by_cases h200 : k ≤ 200
    · have hz : ¬ (200 : Int) < (k : Int) := by omega
      have hz2 : (k : Int) ≤ 200 := by omega
      have hk2 : (1 : Int) + (k : Int) ≤ (s.size : Int) := by have := HSL.out; omega
      have e1 : ((1 : Int) + (k : Int)).toNat = k + 1 := by omega
      have HW := Lib.hid (show (s.extract 1 (k + 1)).data.toList = r.take k by rw [Lib.extract_data, HL.out]; simp)
      have C2 := Lib.hid (fun W => rowText_any (s.extract 1 (k + 1)) (by simp only [ByteArray.size_extract]; omega) W)
      rw [HW.out] at C2
      obtain ⟨m, hm⟩ : ∃ m, run txB (r.take k) = m := ⟨_, rfl⟩
      rw [hm] at C2
      by_cases hmk : m < k
      · have hmz : (m : Int) < (k : Int) := by omega
        have HR := Lib.hid (text_row E.out.1 E.out.2 (by rw [hm]; exact hmk))
        clear hm h200 hmk
        go_enter Tryz.func94, Tryz.ntmps94
        go_wp2_with fail
        refine (C.out _).mono ?_
        rintro e w1 ⟨rfl, rfl⟩
        go_wp2_with fail
        refine (C2.out _).mono ?_
        rintro e w1 ⟨rfl, rfl⟩
        go_wp2_with fail
        refine (amiss_any _).mono ?_
        rintro e w2 ⟨rfl, hb2⟩
        have B2 := Lib.hid (B0.out.trans (hb2.mono (by simp)))
        obtain ⟨c0, c1, c2, c3, cf, cl⟩ := K0.out.later hb2
        clear hb2
        unfold noTok
        go_wp2_with fail
        rw [HR.out]
        refine bodyPost_ret (v := lexV 44 none) (by simp [results, Tryz.results94, go_sem, lexV, *]) rfl ⟨rfl, ?_⟩
        exact set4 B2.out (Nat.le_refl _) _ _ _ _
      · have hmz : ¬ (m : Int) < (k : Int) := by omega
        have HR := Lib.hid (text_yes E.out.1 E.out.2 h200 (by rw [hm]; omega))
        have HP := Lib.hid (show s.extract 1 (k + 1) = ⟨(r.take k).toArray⟩ by rw [piece, HL.out]; simp)
        clear hm h200 hmk
        go_enter Tryz.func94, Tryz.ntmps94
        go_wp2_with fail
        refine (C.out _).mono ?_
        rintro e w1 ⟨rfl, rfl⟩
        go_wp2_with fail
        refine (C2.out _).mono ?_
        rintro e w1 ⟨rfl, rfl⟩
        go_wp2_with fail
        rw [HR.out]
        refine bodyPost_ret (v := lexV 44 _) (by simp [results, Tryz.results94, go_sem, lexV, HP.out]) rfl ⟨rfl, ?_⟩
        exact (Below.refl _ _).alloc (Nat.le_refl _) _
    · have hz : (200 : Int) < (k : Int) := by omega
      have hz2 : ¬ (k : Int) ≤ 200 := by omega
      have HR := Lib.hid (text_far E.out.1 E.out.2 (by omega))
      clear h200
      go_enter Tryz.func94, Tryz.ntmps94
      go_wp2_with fail
      refine (C.out _).mono ?_
      rintro e w1 ⟨rfl, rfl⟩
      go_wp2_with fail
      refine (amiss_any _).mono ?_
      rintro e w2 ⟨rfl, hb2⟩
      have B2 := Lib.hid (B0.out.trans (hb2.mono (by simp)))
      obtain ⟨c0, c1, c2, c3, cf, cl⟩ := K0.out.later hb2
      clear hb2
      unfold noTok
      go_wp2_with fail
      rw [HR.out]
      refine bodyPost_ret (v := lexV 44 none) (by simp [results, Tryz.results94, go_sem, lexV, *]) rfl ⟨rfl, ?_⟩
      exact set4 B2.out (Nat.le_refl _) _ _ _ _
end Go.Proofs.YtmfkpoojfpepaaaGreatDoor.Tk
/-
  Contract of sign of package token: the sign that a text begins with, of two bytes, if there is one. Memory that was there is left as it was.
-/
namespace Go.Proofs.YtmfkpoojfpepaaaGreatDoor.Tk
open Go.RowKit
set_option linter.unusedVariables false
set_option linter.unusedSimpArgs false

theorem sign_yes {l : List UInt8} {z : Nat} (h1 : 1 ≤ z) (h2 : z ≤ 2) (hl : z ≤ l.length) (hno : ∀ y, z < y → y ≤ 2 → y ≤ l.length → signB (l.take y) = false) (hb : signB (l.take z) = true) :
    signL l = some ⟨5, 0, l.take z, z⟩ := by
  unfold signL
  by_cases e : z = 2
  · subst e
    rw [if_pos ⟨hl, hb⟩]
  · have e1 : z = 1 := by omega
    subst e1
    rw [if_neg, if_pos hb]
    rintro ⟨a, b⟩
    rw [hno 2 (by omega) (by omega) a] at b
    cases b
theorem sign_none {l : List UInt8} (h0 : 1 ≤ l.length) (hno : ∀ y, 0 < y → y ≤ 2 → y ≤ l.length → signB (l.take y) = false) : signL l = none := by
  unfold signL
  rw [if_neg, if_neg]
  · rw [hno 1 (by omega) (by omega) h0]; simp
  · rintro ⟨a, b⟩
    rw [hno 2 (by omega) (by omega) a] at b
    cases b
def SignR (l : List UInt8) (w : World) (vi : Value) (wr : World) : Prop :=
  ∃ z : Nat, z ≤ 2 ∧ z ≤ l.length ∧ vi = .int .i64 z ∧ Hid (∀ y, z < y → y ≤ 2 → y ≤ l.length → signB (l.take y) = false) ∧ w = wr
theorem run_min2 (P : Program) (ts : Array TypeId) (t : TypeId) (n m : Nat) (hm : m ≤ 2) (h : m = 2 ∧ 2 ≤ n ∨ m = n ∧ n < 2) (W : World) : (Builtin.min_ ts t #[.int .i64 2, .int .i64 (n : Int)]).run P W = .ok (.int .i64 (m : Int)) W := by
  rw [run_min_int2 W ts t .i64 .i64 2 (n : Int)]
  rcases h with ⟨rfl, h⟩ | ⟨rfl, h⟩
  · rw [if_neg (by omega)]; rfl
  · rw [if_pos (by omega)]

set_option maxHeartbeats 1000000 in
theorem sign_any (s : ByteArray) (h0 : 1 ≤ s.size) (w : World) : Calls Tryz.prog 95 #[.string s] w fun e w' => e = .returned (lexV 44 (signL s.data.toList)) ∧ Below w.heap.size w w' := by
  have HS := Lib.hid (Lib.size_eq s)
  have K0 := Lib.hid (Blk.new w (.int .i64 0) (.int .i64 0) (.int .i64 0) (.string ⟨#[]⟩) 110)
  have B0 := Lib.hid ((Below.refl w.heap.size w).alloc (Nat.le_refl _) (.cells #[.int .i64 0, .int .i64 0, .int .i64 0, .string ⟨#[]⟩] 110))
  obtain ⟨m, hm2, hm⟩ : ∃ m : Nat, m ≤ 2 ∧ (m = 2 ∧ 2 ≤ s.size ∨ m = s.size ∧ s.size < 2) := by
    by_cases h : 2 ≤ s.size
    · exact ⟨2, by omega, Or.inl ⟨rfl, h⟩⟩
    · exact ⟨s.size, by omega, Or.inr ⟨rfl, by omega⟩⟩
  have hmn := fun ts t W => run_min2 Tryz.prog ts t s.size m hm2 hm W
  have HM := Lib.hid (And.intro hm2 hm)
  have H0 := Lib.hid h0
  clear hm2 hm h0
  go_enter Tryz.func95, Tryz.ntmps95
  go_wp2_with fail
  obtain ⟨v, hv⟩ : ∃ v, v = w.alloc (.cells #[.int .i64 0, .int .i64 0, .int .i64 0, .string ⟨#[]⟩] 110) := ⟨_, rfl⟩
  rw [← hv]
  rw [← hv] at K0 B0
  clear hmn hv
  go_loopw [5] (fun vi wr => SignR s.data.toList v vi wr) (fun vi _ => (intOf vi).toNat)
  case atStart => exact ⟨m, HM.out.1, by have := HM.out; have := HS.out; omega, rfl, Lib.hid fun y h1 h2 h3 => absurd h1 (by have := HM.out; have := HS.out; omega), rfl⟩
  case round =>
    obtain ⟨z, hz2, hzl, rfl, hno, rfl⟩ := hrel
    by_cases hz : z = 0
    · subst hz
      have HR := Lib.hid (sign_none (by have := HS.out; have := H0.out; omega) (fun y a b c => hno.out y a b c))
      go_wp2_with fail
      refine (amiss_any _).mono ?_
      rintro e w2 ⟨rfl, hb2⟩
      have B2 := Lib.hid (B0.out.trans (hb2.mono B0.out.size))
      obtain ⟨c0, c1, c2, c3, cf, cl⟩ := K0.out.later hb2
      clear hb2
      unfold noTok
      go_wp2_with fail
      rw [HR.out]
      refine bodyPost_ret (v := lexV 44 none) (by simp [results, Tryz.results95, go_sem, lexV, *]) rfl ⟨rfl, ?_⟩
      exact set4 B2.out (Nat.le_refl _) _ _ _ _
    · have hzz : (0 : Int) < (z : Int) := by omega
      have hzs : (z : Int) ≤ (s.size : Int) := by have := HS.out; omega
      obtain ⟨b, hb⟩ : ∃ b, signB (s.extract 0 z).data.toList = b := ⟨_, rfl⟩
      have HB := Lib.hid hb
      have HZ := Lib.hid (And.intro hz2 hzl)
      clear hb hz2 hzl
      have hw : wrap64 ((z : Int) - 1) = ((z - 1 : Nat) : Int) := by have := HZ.out; unfold wrap64; omega
      obtain ⟨c0, c1, c2, c3, cf, cl⟩ := K0.out
      go_wp2_with fail
      refine (sign_is _ _).mono ?_
      rintro e w1 ⟨rfl, rfl⟩
      rw [HB.out]
      cases b
      · go_wp2_with fail
        go_roundw
        case rel => exact ⟨z - 1, by have := HZ.out; omega, by have := HZ.out; omega, congrArg (Value.int .i64) hw, Lib.hid fun y a b c => by
          by_cases e : y = z
          · subst e; rw [← take_data]; exact HB.out
          · exact hno.out y (by omega) b c, rfl⟩
        case measure => simp [intOf]; omega
      · have HR := Lib.hid (sign_yes (by omega) HZ.out.1 HZ.out.2 hno.out (by rw [← take_data]; exact HB.out))
        go_wp2_with fail
        rw [HR.out]
        refine bodyPost_ret (v := lexV 44 _) (by simp [results, Tryz.results95, go_sem, lexV, take_extract, *]) rfl ⟨rfl, ?_⟩
        exact set4 B0.out (Nat.le_refl _) _ _ _ _
end Go.Proofs.YtmfkpoojfpepaaaGreatDoor.Tk
namespace Go.Proofs.YtmfkpoojfpepaaaGreatDoor.Tk
open Go.RowKit
set_option linter.unusedVariables false
set_option linter.unusedSimpArgs false

/-- strconv's two errors are there. -/
def LaidE (w : World) : Prop := ∃ (tp tq : TypeId) (p q : Value), w.var? Tryz.prog "strconv.ErrSyntax" = some #[.iface tp p] ∧ w.var? Tryz.prog "strconv.ErrRange" = some #[.iface tq q]
theorem gSyn : Tryz.prog.globalNamed "strconv.ErrSyntax" = some 0 := by kernel_rfl
theorem gRng : Tryz.prog.globalNamed "strconv.ErrRange" = some 1 := by kernel_rfl
theorem LaidE.later {w V : World} (h : LaidE w) (hb : Below w.heap.size w V) : LaidE V := by
  obtain ⟨tp, tq, p, q, h1, h2⟩ := h
  have l1 : 0 < w.heap.size := by
    have := World.var?_cell gSyn h1 0
    exact World.block_lt_of_cell? _ _ (this.trans (by rfl : (#[Value.iface tp p] : Array Value)[0]? = some (.iface tp p)))
  have l2 : 1 < w.heap.size := by
    have := World.var?_cell gRng h2 0
    exact World.block_lt_of_cell? _ _ (this.trans (by rfl : (#[Value.iface tq q] : Array Value)[0]? = some (.iface tq q)))
  exact ⟨tp, tq, p, q, var?_below hb gSyn l1 h1, var?_below hb gRng l2 h2⟩
/-- What strconv.ParseInt answers, and that it leaves alone what was there. -/
theorem parse_any (s : ByteArray) (hs : s.size ≤ 1048576) (w : World) (hE : LaidE w) : Calls Tryz.prog 101 #[.string s, .int .i64 10, .int .i64 64] w fun e w' =>
    (∃ v, Lib.parseIntB 64 s.data.toList = .ok v ∧ e = .returned (.tuple #[.int .i64 v, .nilIface]) ∨ (∀ u, Lib.parseIntB 64 s.data.toList ≠ .ok u) ∧ ∃ (n : Int) (T : TypeId) (x : Value), e = .returned (.tuple #[.int .i64 n, .iface T x])) ∧ Below w.heap.size w w' := by
  obtain ⟨tp, tq, p, q, h1, h2⟩ := hE
  by_cases hv : ∃ v, Lib.parseIntB 64 s.data.toList = Lib.NumEnd.ok v
  · obtain ⟨v, h⟩ := hv
    refine (Tryz.strconv_ParseInt_10_at64_ok s (by omega) v h w).mono ?_
    rintro e w' ⟨rfl, hw⟩
    refine ⟨⟨v, Or.inl ⟨h, rfl⟩⟩, ?_⟩
    rcases hw with rfl | ⟨t, rfl⟩
    · exact Below.refl _ _
    · exact Lib.bytesWorld_below ..
  · have hn : ∀ u, Lib.parseIntB 64 s.data.toList ≠ Lib.NumEnd.ok u := fun u hu => hv ⟨u, hu⟩
    by_cases hs2 : Lib.parseIntB 64 s.data.toList = Lib.NumEnd.syntax
    · refine (Tryz.strconv_ParseInt_10_at64_syntax_var s (by omega) hs2 tp p w h1).mono ?_
      rintro e w' ⟨N, rfl, _, _, hb⟩
      exact ⟨⟨0, Or.inr ⟨hn, _, _, _, rfl⟩⟩, hb⟩
    · have h : Lib.parseIntB 64 s.data.toList = Lib.NumEnd.range := by
        revert hn hs2
        cases Lib.parseIntB 64 s.data.toList
        · intro hn _
          exact absurd rfl (hn _)
        · intro _ h
          exact absurd rfl h
        · intro _ _
          rfl
      refine (Tryz.strconv_ParseInt_10_at64_range_var s (by omega) h tq q w h2).mono ?_
      rintro e w' ⟨N, rfl, _, _, hb⟩
      exact ⟨⟨0, Or.inr ⟨hn, _, _, _, rfl⟩⟩, hb⟩

theorem digs_all (l : List UInt8) : ∀ c ∈ digs l, dig c = true := take_run_all dig l
theorem pre48 (l : List UInt8) : Lib.hasPrefix l [48] = decide (l.head? = some 48) := by
  cases l with
  | nil => rfl
  | cons c r =>
    rw [Bool.eq_iff_iff, decide_eq_true_iff]
    show ((48 == c) && true) = true ↔ some c = some 48
    rw [Bool.and_true, beq_iff_eq, Option.some_inj]
    exact eq_comm
theorem numL_minus {c : UInt8} {r : List UInt8} (hc : c.toNat = 45) : numL (c :: r) = if digs r = [] ∨ (digs r).head? = some 48 ∨ 9223372036854775808 < decV (digs r) then none else some ⟨3, -(decV (digs r) : Int), [], (digs r).length + 1⟩ := by
  rw [numL_cons, if_pos (by rw [hc]; rfl)]
theorem numL_plain {c : UInt8} {r : List UInt8} (hc : ¬ c.toNat = 45) : numL (c :: r) = if digs (c :: r) = [] ∨ (1 < (digs (c :: r)).length ∧ (digs (c :: r)).head? = some 48) ∨ 9223372036854775808 ≤ decV (digs (c :: r)) then none else some ⟨3, decV (digs (c :: r)), [], (digs (c :: r)).length⟩ := by
  rw [numL_cons, if_neg (fun h => hc (eq_of_beq h))]
theorem num_minus0 {c : UInt8} {r : List UInt8} (hc : c.toNat = 45) (h : (digs r).head? = some 48) : numL (c :: r) = none := by
  rw [numL_minus hc, if_pos (Or.inr (Or.inl h))]
theorem num_minus {c : UInt8} {r : List UInt8} (hc : c.toNat = 45) (h : ¬ (digs r).head? = some 48) :
    (∀ v, Lib.parseIntB 64 ((45 : UInt8) :: digs r) = .ok v → numL (c :: r) = some ⟨3, v, [], (digs r).length + 1⟩) ∧ ((∀ u, Lib.parseIntB 64 ((45 : UInt8) :: digs r) ≠ .ok u) → numL (c :: r) = none) := by
  rw [numL_minus hc, parse_minus (digs_all r)]
  by_cases h0 : digs r = []
  · rw [if_pos h0, if_pos (Or.inl h0)]
    exact ⟨fun v e => (by cases e), fun _ => rfl⟩
  · rw [if_neg h0]
    by_cases h1 : 9223372036854775808 < decV (digs r)
    · rw [if_pos h1, if_pos (Or.inr (Or.inr h1))]
      exact ⟨fun v e => (by cases e), fun _ => rfl⟩
    · rw [if_neg h1, if_neg (by rintro (a | a | a) <;> contradiction)]
      exact ⟨fun v e => (by cases e; rfl), fun e => absurd rfl (e _)⟩
theorem num_plain0 {c : UInt8} {r : List UInt8} (hc : ¬ c.toNat = 45) (h : (digs (c :: r)).head? = some 48) (h1 : 1 < (digs (c :: r)).length) : numL (c :: r) = none := by
  rw [numL_plain hc, if_pos (Or.inr (Or.inl ⟨h1, h⟩))]
theorem num_plain {c : UInt8} {r : List UInt8} (hc : ¬ c.toNat = 45) (h : ¬ ((digs (c :: r)).head? = some 48 ∧ 1 < (digs (c :: r)).length)) :
    (∀ v, Lib.parseIntB 64 (digs (c :: r)) = .ok v → numL (c :: r) = some ⟨3, v, [], (digs (c :: r)).length⟩) ∧ ((∀ u, Lib.parseIntB 64 (digs (c :: r)) ≠ .ok u) → numL (c :: r) = none) := by
  rw [numL_plain hc]
  by_cases h0 : digs (c :: r) = []
  · rw [if_pos (Or.inl h0), h0]
    exact ⟨fun v e => (by cases e), fun _ => rfl⟩
  · rw [parse_plain (digs_all _) h0]
    by_cases h1 : 9223372036854775808 ≤ decV (digs (c :: r))
    · rw [if_pos h1, if_pos (Or.inr (Or.inr h1))]
      exact ⟨fun v e => (by cases e), fun _ => rfl⟩
    · rw [if_neg h1, if_neg]
      · exact ⟨fun v e => (by cases e; rfl), fun e => absurd rfl (e _)⟩
      · rintro (a | a | a)
        · exact h0 a
        · exact h ⟨a.2, a.1⟩
        · exact h1 a

set_option maxHeartbeats 2000000 in
theorem number_minus (s : ByteArray) (hs : s.size ≤ 1048576) (c : UInt8) (r : List UInt8) (hL : s.data.toList = c :: r) (hc : c.toNat = 45) (w : World) (hE : LaidE w) :
    Calls Tryz.prog 93 #[.string s] w fun e w' => e = .returned (lexV 44 (numL s.data.toList)) ∧ Below w.heap.size w w' := by
  have HL := Lib.hid hL
  have hsl : s.size = r.length + 1 := by rw [Lib.size_eq, hL]; rfl
  have h1z : (1 : Int) ≤ (s.size : Int) := by omega
  have h0s : 0 < s.size := by omega
  have h0z : (0 : Int) < (s.size : Int) := by omega
  have HSL := Lib.hid hsl
  have hb0 : s[0] = c := by
    have := Lib.data_getElem? s 0 h0s
    rw [hL] at this
    simpa using this.symm
  have hb1 : ((s[0].toNat : Nat) : Int) = 45 := by rw [hb0, hc]; rfl
  have HT := Lib.hid (show (s.extract 1 s.size).data.toList = r by rw [Lib.extract_to_end, HL.out]; rfl)
  have HC := Lib.hid hc
  have K0 := Lib.hid (Blk.new w (.int .i64 0) (.int .i64 0) (.int .i64 0) (.string ⟨#[]⟩) 110)
  have B0 := Lib.hid ((Below.refl w.heap.size w).alloc (Nat.le_refl _) (.cells #[.int .i64 0, .int .i64 0, .int .i64 0, .string ⟨#[]⟩] 110))
  have E0 := Lib.hid (hE.later B0.out)
  have C := Lib.hid (fun W => rowDigit_any (s.extract 1 s.size) (by simp only [ByteArray.size_extract]; omega) W)
  rw [HT.out] at C
  obtain ⟨d, hd⟩ : ∃ d, run dig r = d := ⟨_, rfl⟩
  have hdl : (1 : Int) + (d : Int) ≤ (s.size : Int) := by have := run_le dig r; omega
  have HD := Lib.hid hd
  rw [hd] at C
  have e1 : ((1 : Int) + (d : Int)).toNat = d + 1 := by omega
  have HDR := Lib.hid (show digs r = r.take d by unfold digs; rw [hd])
  have HDL := Lib.hid (show (digs r).length = d by rw [digs_len, hd])
  have HP := Lib.hid (show (s.extract 1 (d + 1)).data.toList = digs r by rw [Lib.extract_data, HL.out, HDR.out]; simp)
  have HA := Lib.hid (show (s.extract 0 (d + 1)).data.toList = 45 :: digs r by rw [take_data, HL.out, HDR.out, List.take_succ_cons]; congr 1; exact UInt8.toNat_inj.1 HC.out)
  have C2 := Lib.hid (fun W => Tryz.strings_HasPrefix (s.extract 1 (d + 1)) ⟨#[48]⟩ W)
  rw [HP.out, show (⟨#[48]⟩ : ByteArray).data.toList = [48] from rfl, pre48] at C2
  have C3 := Lib.hid (fun W (hW : LaidE W) => parse_any (s.extract 0 (d + 1)) (by simp only [ByteArray.size_extract]; omega) W hW)
  rw [HA.out] at C3
  clear hd hL hsl hc hE hb0
  by_cases hh : (digs r).head? = some 48
  · rw [decide_eq_true hh] at C2
    have HR := Lib.hid (num_minus0 HC.out hh)
    have hd0 : (1 : Int) < (1 : Int) + (d : Int) := by
      have := HDL.out
      cases he : digs r with
      | nil => rw [he] at hh; simp at hh
      | cons x l => rw [he] at this; simp at this; omega
    clear hh
    go_enter Tryz.func93, Tryz.ntmps93
    go_wp2_with fail
    refine (C.out _).mono ?_
    rintro e w1 ⟨rfl, rfl⟩
    go_wp2_with fail
    refine (C2.out _).mono ?_
    rintro e w1 ⟨rfl, rfl⟩
    go_wp2_with fail
    refine (amiss_any _).mono ?_
    rintro e w2 ⟨rfl, hb2⟩
    have B2 := Lib.hid (B0.out.trans (hb2.mono (by simp)))
    obtain ⟨c0, c1, c2, c3, cf, cl⟩ := K0.out.later hb2
    clear hb2
    unfold noTok
    go_wp2_with fail
    rw [HL.out, HR.out]
    refine bodyPost_ret (v := lexV 44 none) (by simp [results, Tryz.results93, go_sem, lexV, *]) rfl ⟨rfl, ?_⟩
    exact set4 B2.out (Nat.le_refl _) _ _ _ _
  · rw [decide_eq_false hh] at C2
    have HR := Lib.hid (num_minus HC.out hh)
    rw [HDL.out] at HR
    clear hh
    go_enter Tryz.func93, Tryz.ntmps93
    go_wp2_with fail
    refine (C.out _).mono ?_
    rintro e w1 ⟨rfl, rfl⟩
    go_wp2_with fail
    refine (C2.out _).mono ?_
    rintro e w1 ⟨rfl, rfl⟩
    go_wp2_with fail
    refine (C3.out _ E0.out).mono ?_
    rintro e w2 ⟨⟨v, hv⟩, hb2⟩
    have B2 := Lib.hid (B0.out.trans (hb2.mono (by simp)))
    have K2 := Lib.hid (K0.out.later hb2)
    clear hb2
    rcases hv with ⟨hv, rfl⟩ | ⟨hv, n, T, x, rfl⟩
    · have HV := Lib.hid (HR.out.1 v hv)
      clear hv
      obtain ⟨c0, c1, c2, c3, cf, cl⟩ := K2.out
      go_wp2_with fail
      rw [HL.out, HV.out]
      refine bodyPost_ret (v := lexV 44 _) (by simp [results, Tryz.results93, go_sem, lexV, *]; omega) rfl ⟨rfl, ?_⟩
      exact set4 B2.out (Nat.le_refl _) _ _ _ _
    · have HV := Lib.hid (HR.out.2 hv)
      clear hv
      go_wp2_with fail
      refine (amiss_any _).mono ?_
      rintro e w3 ⟨rfl, hb3⟩
      have B3 := Lib.hid (B2.out.trans (hb3.mono B2.out.size))
      obtain ⟨c0, c1, c2, c3, cf, cl⟩ := K2.out.later hb3
      clear hb3
      unfold noTok
      go_wp2_with fail
      rw [HL.out, HV.out]
      refine bodyPost_ret (v := lexV 44 none) (by simp [results, Tryz.results93, go_sem, lexV, *]) rfl ⟨rfl, ?_⟩
      exact set4 B3.out (Nat.le_refl _) _ _ _ _

set_option maxHeartbeats 2000000 in
theorem number_plain (s : ByteArray) (hs : s.size ≤ 1048576) (c : UInt8) (r : List UInt8) (hL : s.data.toList = c :: r) (hc : ¬ c.toNat = 45) (w : World) (hE : LaidE w) :
    Calls Tryz.prog 93 #[.string s] w fun e w' => e = .returned (lexV 44 (numL s.data.toList)) ∧ Below w.heap.size w w' := by
  have HL := Lib.hid hL
  have hsl : s.size = r.length + 1 := by rw [Lib.size_eq, hL]; rfl
  have h0s : 0 < s.size := by omega
  have h0z : (0 : Int) < (s.size : Int) := by omega
  have HSL := Lib.hid hsl
  have hb0 : s[0] = c := by
    have := Lib.data_getElem? s 0 h0s
    rw [hL] at this
    simpa using this.symm
  have hb1 : ¬ ((s[0].toNat : Nat) : Int) = 45 := by rw [hb0]; omega
  have HC := Lib.hid hc
  have K0 := Lib.hid (Blk.new w (.int .i64 0) (.int .i64 0) (.int .i64 0) (.string ⟨#[]⟩) 110)
  have B0 := Lib.hid ((Below.refl w.heap.size w).alloc (Nat.le_refl _) (.cells #[.int .i64 0, .int .i64 0, .int .i64 0, .string ⟨#[]⟩] 110))
  have E0 := Lib.hid (hE.later B0.out)
  have C := Lib.hid (fun W => rowDigit_any s hs W)
  rw [HL.out] at C
  obtain ⟨d, hd⟩ : ∃ d, run dig (c :: r) = d := ⟨_, rfl⟩
  have hdl : (d : Int) ≤ (s.size : Int) := by have := run_le dig (c :: r); simp only [List.length_cons] at this; omega
  have HD := Lib.hid hd
  rw [hd] at C
  have HDR := Lib.hid (show digs (c :: r) = (c :: r).take d by unfold digs; rw [hd])
  have HDL := Lib.hid (show (digs (c :: r)).length = d by rw [digs_len, hd])
  have HP := Lib.hid (show (s.extract 0 d).data.toList = digs (c :: r) by rw [take_data, HL.out, HDR.out])
  have C2 := Lib.hid (fun W => Tryz.strings_HasPrefix (s.extract 0 d) ⟨#[48]⟩ W)
  rw [HP.out, show (⟨#[48]⟩ : ByteArray).data.toList = [48] from rfl, pre48] at C2
  have C3 := Lib.hid (fun W (hW : LaidE W) => parse_any (s.extract 0 d) (by simp only [ByteArray.size_extract]; omega) W hW)
  rw [HP.out] at C3
  clear hd hL hsl hc hE hb0
  by_cases hh : (digs (c :: r)).head? = some 48
  · rw [decide_eq_true hh] at C2
    by_cases h1 : 1 < d
    · have h1z : (1 : Int) < (d : Int) := by omega
      have HR := Lib.hid (num_plain0 HC.out hh (by rw [HDL.out]; exact h1))
      clear hh h1
      go_enter Tryz.func93, Tryz.ntmps93
      go_wp2_with fail
      refine (C.out _).mono ?_
      rintro e w1 ⟨rfl, rfl⟩
      go_wp2_with fail
      refine (C2.out _).mono ?_
      rintro e w1 ⟨rfl, rfl⟩
      go_wp2_with fail
      refine (amiss_any _).mono ?_
      rintro e w2 ⟨rfl, hb2⟩
      have B2 := Lib.hid (B0.out.trans (hb2.mono (by simp)))
      obtain ⟨c0, c1, c2, c3, cf, cl⟩ := K0.out.later hb2
      clear hb2
      unfold noTok
      go_wp2_with fail
      rw [HL.out, HR.out]
      refine bodyPost_ret (v := lexV 44 none) (by simp [results, Tryz.results93, go_sem, lexV, *]) rfl ⟨rfl, ?_⟩
      exact set4 B2.out (Nat.le_refl _) _ _ _ _
    · have h1z : ¬ (1 : Int) < (d : Int) := by omega
      have HR := Lib.hid (num_plain HC.out (fun x => h1 (by rw [← HDL.out]; exact x.2)))
      rw [HDL.out] at HR
      clear hh h1
      go_enter Tryz.func93, Tryz.ntmps93
      go_wp2_with fail
      refine (C.out _).mono ?_
      rintro e w1 ⟨rfl, rfl⟩
      go_wp2_with fail
      refine (C2.out _).mono ?_
      rintro e w1 ⟨rfl, rfl⟩
      go_wp2_with fail
      refine (C3.out _ E0.out).mono ?_
      rintro e w2 ⟨⟨v, hv⟩, hb2⟩
      have B2 := Lib.hid (B0.out.trans (hb2.mono (by simp)))
      have K2 := Lib.hid (K0.out.later hb2)
      clear hb2
      rcases hv with ⟨hv, rfl⟩ | ⟨hv, n, T, x, rfl⟩
      · have HV := Lib.hid (HR.out.1 v hv)
        clear hv
        obtain ⟨c0, c1, c2, c3, cf, cl⟩ := K2.out
        go_wp2_with fail
        rw [HL.out, HV.out]
        refine bodyPost_ret (v := lexV 44 _) (by simp [results, Tryz.results93, go_sem, lexV, *]) rfl ⟨rfl, ?_⟩
        exact set4 B2.out (Nat.le_refl _) _ _ _ _
      · have HV := Lib.hid (HR.out.2 hv)
        clear hv
        go_wp2_with fail
        refine (amiss_any _).mono ?_
        rintro e w3 ⟨rfl, hb3⟩
        have B3 := Lib.hid (B2.out.trans (hb3.mono B2.out.size))
        obtain ⟨c0, c1, c2, c3, cf, cl⟩ := K2.out.later hb3
        clear hb3
        unfold noTok
        go_wp2_with fail
        rw [HL.out, HV.out]
        refine bodyPost_ret (v := lexV 44 none) (by simp [results, Tryz.results93, go_sem, lexV, *]) rfl ⟨rfl, ?_⟩
        exact set4 B3.out (Nat.le_refl _) _ _ _ _
  · rw [decide_eq_false hh] at C2
    have HR := Lib.hid (num_plain HC.out (fun x => hh x.1))
    rw [HDL.out] at HR
    clear hh
    go_enter Tryz.func93, Tryz.ntmps93
    go_wp2_with fail
    refine (C.out _).mono ?_
    rintro e w1 ⟨rfl, rfl⟩
    go_wp2_with fail
    refine (C2.out _).mono ?_
    rintro e w1 ⟨rfl, rfl⟩
    go_wp2_with fail
    refine (C3.out _ E0.out).mono ?_
    rintro e w2 ⟨⟨v, hv⟩, hb2⟩
    have B2 := Lib.hid (B0.out.trans (hb2.mono (by simp)))
    have K2 := Lib.hid (K0.out.later hb2)
    clear hb2
    rcases hv with ⟨hv, rfl⟩ | ⟨hv, n, T, x, rfl⟩
    · have HV := Lib.hid (HR.out.1 v hv)
      clear hv
      obtain ⟨c0, c1, c2, c3, cf, cl⟩ := K2.out
      go_wp2_with fail
      rw [HL.out, HV.out]
      refine bodyPost_ret (v := lexV 44 _) (by simp [results, Tryz.results93, go_sem, lexV, *]) rfl ⟨rfl, ?_⟩
      exact set4 B2.out (Nat.le_refl _) _ _ _ _
    · have HV := Lib.hid (HR.out.2 hv)
      clear hv
      go_wp2_with fail
      refine (amiss_any _).mono ?_
      rintro e w3 ⟨rfl, hb3⟩
      have B3 := Lib.hid (B2.out.trans (hb3.mono B2.out.size))
      obtain ⟨c0, c1, c2, c3, cf, cl⟩ := K2.out.later hb3
      clear hb3
      unfold noTok
      go_wp2_with fail
      rw [HL.out, HV.out]
      refine bodyPost_ret (v := lexV 44 none) (by simp [results, Tryz.results93, go_sem, lexV, *]) rfl ⟨rfl, ?_⟩
      exact set4 B3.out (Nat.le_refl _) _ _ _ _
end Go.Proofs.YtmfkpoojfpepaaaGreatDoor.Tk
