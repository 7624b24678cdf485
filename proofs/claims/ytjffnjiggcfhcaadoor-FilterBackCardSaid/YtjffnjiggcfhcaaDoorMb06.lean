/-
  What token.Cut answers at any text, in one; contracts of isName of package filter and of Name of the document's answer: is a text a name? Memory that was there is left as it was.
-/
import Derived.Test.YtjffnjiggcfhcaaDoorMb05
import Derived.LaidEql
import Derived.Test.YtjffnjiggcfhcaaDoorMb04
import Derived.Deep.RegionHeldLaw
import Derived.Test.YtjffnjiggcfhcaaDoorMb03
/-
  Contract of token.Cut: all tokens of a text, in a slice of the call's own, or why it has none. Memory that was there is left as it was.
-/
namespace Go.Proofs.YtjffnjiggcfhcaaDoor.Tk
open Go.RowKit
set_option linter.unusedVariables false
set_option linter.unusedSimpArgs false

theorem neq_lex_nil (w : World) : (binOp .neq 29 (.iface 35 (.int .i64 2)) .nilIface).run Tryd.prog w = .ok (.bool true) w := by kernel_rfl
theorem neq_nil_nil (w : World) : (binOp .neq 29 .nilIface .nilIface).run Tryd.prog w = .ok (.bool false) w := by kernel_rfl
theorem infoTok : (Tryd.prog.info? 58).map (fun i => (i.zero, i.size, i.bytes)) = some (some (.agg #[.int .i64 0, .int .i64 0, .int .i64 0, .string ⟨#[]⟩]), 4, 40) := by kernel_rfl

theorem clone_any (s : ByteArray) (hs : s.size ≤ 1048576) (w : World) : Calls Tryd.prog 22 #[.string s] w fun e w' => e = .returned (.string s) ∧ Below w.heap.size w w' := by
  go_enter Tryd.func22, Tryd.ntmps22
  go_wp2_with fail
  refine (Tryd.stringslite_Clone s _ (by omega)).mono ?_
  rintro e w1 ⟨rfl, hb⟩
  go_wp2_with fail
  go_ret
  exact ⟨rfl, hb⟩
theorem cut_large (s : ByteArray) (hs : 500 < s.size) (w : World) : Calls Tryd.prog 12 #[.string s] w fun e w' => e = .returned (.tuple #[.slice none 0 0, .iface 35 (.int .i64 5)]) ∧ w = w' := by
  have hz : (500 : Int) < (s.size : Int) := by omega
  go_enter Tryd.func12, Tryd.ntmps12
  go_wp2_with fail
  exact bodyPost_ret (v := .tuple #[.slice none 0 0, .iface 35 (.int .i64 5)]) (by simp [results, Tryd.results12, go_sem]) rfl ⟨rfl, rfl⟩

set_option maxRecDepth 100000 in
set_option maxHeartbeats 4000000 in
theorem cut_any (s : ByteArray) (hs : s.size ≤ 500) (w : World) (hE : LaidE w) :
    Calls Tryd.prog 12 #[.string s] w fun e w' => CutEnd w w' 58 (.iface 35 (.int .i64 2)) .nilIface e (cutAt 0 s.data.toList) ∧ Below w.heap.size w w' := by
  have q1 := neq_lex_nil
  have q2 := neq_nil_nil
  have hz : ¬ (500 : Int) < (s.size : Int) := by omega
  have HS := Lib.hid (Lib.size_eq s)
  have H5 := Lib.hid hs
  have HE := Lib.hid hE
  obtain ⟨i0, hi, hz0, hz1, hz2⟩ := info_cut infoTok
  clear hs hE
  go_enter Tryd.func12, Tryd.ntmps12
  go_wp2_with fail
  go_loopw [5, 4] (fun va vl wr => CutR w 58 s.data.toList va vl wr) (fun va _ _ => s.size - nOf va)
  case atStart => exact ⟨0, [], rfl, Nat.zero_le _, Lib.hid (by simp), Nat.le_refl _, World.ownsRow_nil _ _ _ _, Below.refl _ _⟩
  case round =>
    obtain ⟨a, ts, rfl, ha, hC, ht, hO, hB⟩ := hrel
    have HA := Lib.hid ha
    have HT := Lib.hid ht
    have HO := Lib.hid hO
    have HB := Lib.hid hB
    clear ha ht hO hB
    by_cases hlt : a < s.size
    · have hlz : (a : Int) < (s.size : Int) := by omega
      have hlz2 : (a : Int) ≤ (s.size : Int) := by omega
      obtain ⟨c, hc⟩ : ∃ c, s[a] = c := ⟨_, rfl⟩
      obtain ⟨r, hr⟩ : ∃ r, s.data.toList.drop a = c :: r := by
        have h1 := Lib.data_getElem? s a hlt
        rw [hc] at h1
        obtain ⟨h2, h3⟩ := List.getElem?_eq_some_iff.1 h1
        exact ⟨_, by rw [List.drop_eq_getElem_cons h2, h3]⟩
      have HR := Lib.hid hr
      clear hr
      by_cases h32 : c.toNat = 32
      · have h32z : ((c.toNat : Nat) : Int) = 32 := by omega
        have HN := Lib.hid (cut_space hC.out HR.out h32)
        clear h32
        go_wp2_with fail
        go_roundw
        case rel => exact ⟨a + 1, ts, by go_num, by have := HS.out; omega, HN, by have := HT.out; omega, HO.out, HB.out⟩
        case measure => simp [nOf]; omega
      · have h32z : ¬ ((c.toNat : Nat) : Int) = 32 := by omega
        have HQ := Lib.hid (show (s.extract a s.size).data.toList = c :: r by rw [Lib.extract_to_end, HR.out])
        have CF := Lib.hid (fun W (hW : LaidE W) => first_any (s.extract a s.size) (by have := H5.out; simp only [ByteArray.size_extract]; omega) c r HQ.out W hW)
        have EW := Lib.hid (HE.out.later HB.out)
        have H32 := Lib.hid h32
        clear h32
        cases hx : lex (c :: r) with
        | none =>
          rw [hx] at CF
          have HN := Lib.hid (cut_bad hC.out HR.out H32.out hx)
          clear hx
          simp only [lexV] at CF
          go_wp2_with fail
          refine (CF.out _ EW.out).mono ?_
          rintro e w1 ⟨rfl, hb1⟩
          have B1 := Lib.hid (HB.out.trans (hb1.mono HB.out.size))
          clear hb1
          go_wp2_with fail
          refine bodyPost_ret (v := .tuple #[.slice none 0 0, .iface 35 (.int .i64 2)]) (by simp [results, Tryd.results12, go_sem]) rfl ⟨?_, ?_⟩
          · rw [HN.out]; exact rfl
          · exact B1.out.alloc B1.out.size _
        | some x =>
          rw [hx] at CF
          have HN := Lib.hid (cut_step hC.out HR.out H32.out hx)
          have HX := Lib.hid (lex_str hx)
          clear hx
          simp only [lexV] at CF
          go_wp2_with fail
          refine (CF.out _ EW.out).mono ?_
          rintro e w1 ⟨rfl, hb1⟩
          have B1 := Lib.hid (HB.out.trans (hb1.mono HB.out.size))
          have O1 := Lib.hid (own4_later HO.out hb1)
          obtain ⟨k, hk⟩ : ∃ k, k = x.kind := ⟨_, rfl⟩
          obtain ⟨n, hn⟩ : ∃ n, n = x.num := ⟨_, rfl⟩
          obtain ⟨str, hstr⟩ : ∃ str : ByteArray, str = ⟨x.str.toArray⟩ := ⟨_, rfl⟩
          obtain ⟨z, hz⟩ : ∃ z, z = x.size := ⟨_, rfl⟩
          rw [← hk, ← hn, ← hstr, ← hz]
          have HZ := Lib.hid (show a + z ≤ 500 by have := HN.out.1; have := HS.out; have := H5.out; omega)
          have hw : wrap64 ((a : Int) + (z : Int)) = ((a + z : Nat) : Int) := by have := HZ.out; unfold wrap64; omega
          have hwz : (a : Int) + (z : Int) = ((a + z : Nat) : Int) := by omega
          have HW := Lib.hid (And.intro hw hwz)
          have HSTR := Lib.hid (show str.size ≤ 1048576 by rw [hstr, bytes_size]; exact str_bound HQ.out H5.out HX.out)
          have HTOK := Lib.hid (show cellT ⟨x.kind, a, x.num, x.str⟩ = [.int .i64 k, .int .i64 (a : Nat), .int .i64 n, .string str] by rw [hk, hn, hstr]; rfl)
          have HZ2 := Lib.hid hz
          clear hb1 hk hn hstr hz hw hwz
          go_wp2_with fail
          refine (clone_any str HSTR.out _).mono ?_
          rintro e w2 ⟨rfl, hb2⟩
          have B2 := Lib.hid ((B1.out.alloc B1.out.size (.cells #[.int .i64 k, .int .i64 (a : Nat), .int .i64 n, .string str] 58)).trans (hb2.mono (by have := B1.out.size; simp; omega)))
          have G2 := Lib.hid ((((Below.refl w1.heap.size w1).alloc (Nat.le_refl _) (.cells #[.int .i64 k, .int .i64 (a : Nat), .int .i64 n, .string str] 58)).trans (hb2.mono (by simp))).setCell (p := ⟨w1.heap.size, 3, none⟩) (Nat.le_refl _) (.string str))
          obtain ⟨c0, c1, c2, c3, cf, cl⟩ := (Blk.new w1 (.int .i64 k) (.int .i64 (a : Nat)) (.int .i64 n) (.string str) 58).later hb2
          have OW := Lib.hid ((own4_later O1.out G2.out).alloc (.cells #[.int .i64 k, .int .i64 (a : Nat), .int .i64 n, .string str] 58))
          have BW := Lib.hid ((B2.out.setCell (p := ⟨w1.heap.size, 3, none⟩) B1.out.size (.string str)).alloc (by have := B2.out.size; simpa using this) (.cells #[.int .i64 k, .int .i64 (a : Nat), .int .i64 n, .string str] 58))
          have NW := Lib.hid (news4 (w2.setCell ⟨w1.heap.size, 3, none⟩ (.string str)) (.int .i64 k) (.int .i64 (a : Nat)) (.int .i64 n) (.string str) 58)
          rw [show (w2.setCell ⟨w1.heap.size, 3, none⟩ (.string str)).heap.size = w2.heap.size by simp] at NW
          obtain ⟨m, hm⟩ : ∃ m, m = ts.length := ⟨_, rfl⟩
          rw [← hm] at OW
          have HM := Lib.hid hm
          have HMB := Lib.hid (show m + 1 ≤ 501 by have := HT.out; have := HZ.out; omega)
          clear hb2 hm
          go_wp2_with (first | (at_builtin; refine wpList_append_own_at _ rfl _ _ 39 rfl w.heap.size 58 i0 (.agg #[.int .i64 0, .int .i64 0, .int .i64 0, .string ⟨#[]⟩]) 4 40 Tryd.underlying39 hi hz0 hz1 hz2 rfl (by decide) _ _ _ rfl OW.out ⟨w2.heap.size, 0, none⟩ 1 1 [.int .i64 k, .int .i64 (a : Nat), .int .i64 n, .string str] rfl rfl NW.out (one4 k _ n str) (by have := HMB.out; unfold maxLen; omega) (by have := HMB.out; omega) BW.out.size ?_))
          intro v1 w3 hown hgrow _ _
          have HBn := Lib.hid (own4_below BW.out OW.out hgrow)
          have HOn := Lib.hid (show w3.ownsRow w.heap.size 58 4 v1 (ts ++ [(⟨x.kind, a, x.num, x.str⟩ : Tok)]).length (cellsT (ts ++ [(⟨x.kind, a, x.num, x.str⟩ : Tok)])) by
            rw [cellsT_app, HTOK.out, List.length_append, ← HM.out]; exact hown)
          clear hgrow hown
          go_wp2
          go_roundw
          case rel => first | exact ⟨a + z, ts ++ [(⟨x.kind, a, x.num, x.str⟩ : Tok)], by first | exact congrArg (Value.int .i64) HW.out.1 | exact congrArg (Value.int .i64) HW.out.2, by rw [HZ2.out]; exact HN.out.1, by rw [HZ2.out]; exact HN.out.2.2, by have := HT.out; have := HN.out.2.1; rw [← HZ2.out] at this; simp; omega, HOn.out, HBn.out⟩ | ((repeat apply Exists.intro); exact ⟨⟨a + z, ts ++ [(⟨x.kind, a, x.num, x.str⟩ : Tok)], by first | exact congrArg (Value.int .i64) HW.out.1 | exact congrArg (Value.int .i64) HW.out.2, by rw [HZ2.out]; exact HN.out.1, by rw [HZ2.out]; exact HN.out.2.2, by have := HT.out; have := HN.out.2.1; rw [← HZ2.out] at this; simp; omega, HOn.out, HBn.out⟩, rfl⟩)
          case measure =>
            have h9 := HN.out.2.1
            rw [← HZ2.out] at h9
            have h8 := HW.out.1
            simp [nOf, h8]
            omega
    · have hlz : ¬ (a : Int) < (s.size : Int) := by omega
      have HN := Lib.hid (cut_all hC.out (by have := HS.out; have := HA.out; omega))
      go_wp2_with fail
      refine bodyPost_ret (v := .tuple #[_, .nilIface]) (by simp [results, Tryd.results12, go_sem]; rfl) rfl ⟨?_, HB.out⟩
      rw [HN.out]
      exact ⟨_, rfl, HO.out⟩
end Go.Proofs.YtjffnjiggcfhcaaDoor.Tk
/-
  A slice that holds tokens, to be read. No program here.
-/
namespace Go.Proofs.YtjffnjiggcfhcaaDoor.Tk
open Go.RowKit
set_option linter.unusedVariables false

theorem cut_few : ∀ (n a : Nat) (l : List UInt8) (ts : List Tok), l.length ≤ n → cutAt a l = some ts → ts.length ≤ l.length
  | n, a, [], ts, _, h => by
    rw [cutAt_nil] at h
    cases h
    simp
  | 0, a, c :: r, ts, hn, _ => by simp at hn
  | n + 1, a, c :: r, ts, hn, h => by
    simp only [List.length_cons] at hn
    by_cases hc : c.toNat = 32
    · rw [cutAt_space hc] at h
      have := cut_few n (a + 1) r ts (by omega) h
      simp only [List.length_cons]
      omega
    · cases hx : lex (c :: r) with
      | none => rw [cutAt_none hc a r hx] at h; cases h
      | some x =>
        have hz := lex_size hx
        rw [cutAt_some hc a r hx] at h
        obtain ⟨us, hu, rfl⟩ := Option.map_eq_some_iff.1 h
        have hl : ((c :: r).drop x.size).length = (c :: r).length - x.size := by simp
        have := cut_few n (a + x.size) _ us (by rw [hl]; simp only [List.length_cons]; omega) hu
        simp only [List.length_cons] at hl ⊢ this
        omega
/-- v is a slice that holds ts; its block was there below z. -/
def TksAt (W : World) (z : Nat) (a : Option Addr) (ts : List Tok) : Prop :=
  z ≤ W.heap.size ∧ (0 < ts.length → ∃ g, a = some ⟨g, 0, none⟩ ∧ g < z ∧ ∀ (k : Nat) (h : k < ts.length), W.cell? ⟨g, k * 4, none⟩ = some (.int .i64 ts[k].kind) ∧ W.cell? ⟨g, k * 4 + 1, none⟩ = some (.int .i64 (ts[k].pos : Nat)) ∧
    W.cell? ⟨g, k * 4 + 2, none⟩ = some (.int .i64 ts[k].num) ∧ W.cell? ⟨g, k * 4 + 3, none⟩ = some (.string ⟨ts[k].str.toArray⟩))
theorem TksAt.later {W V : World} {z : Nat} {a : Option Addr} {ts : List Tok} (h : TksAt W z a ts) (hB : Below z W V) : TksAt V z a ts := by
  refine ⟨Nat.le_trans h.1 hB.size, fun h0 => ?_⟩
  obtain ⟨g, e, hg, hc⟩ := h.2 h0
  refine ⟨g, e, hg, fun k hk => ?_⟩
  obtain ⟨c0, c1, c2, c3⟩ := hc k hk
  exact ⟨(hB.cell (p := ⟨g, _, none⟩) hg).trans c0, (hB.cell (p := ⟨g, _, none⟩) hg).trans c1, (hB.cell (p := ⟨g, _, none⟩) hg).trans c2, (hB.cell (p := ⟨g, _, none⟩) hg).trans c3⟩
theorem TksAt.wide {W : World} {z z' : Nat} {a : Option Addr} {ts : List Tok} (h : TksAt W z a ts) (h1 : z ≤ z') (h2 : z' ≤ W.heap.size) : TksAt W z' a ts := by
  refine ⟨h2, fun h0 => ?_⟩
  obtain ⟨g, e, hg, hc⟩ := h.2 h0
  exact ⟨g, e, by omega, hc⟩
theorem s_same {p q r t b : Prop} (h : p ∧ q ∧ r ∧ t ∧ b) : b := h.2.2.2.2
theorem own_tks {W : World} {base : Nat} {t : TypeId} {v : Value} {ts : List Tok} (h : W.ownsRow base t 4 v ts.length (cellsT ts)) : ∃ a cap, v = .slice a ts.length cap ∧ TksAt W W.heap.size a ts := by
  have h2 := h
  rcases h.2 with ⟨rfl, e⟩ | ⟨g, cap, cur, rfl, _, hh, _⟩
  · refine ⟨none, 0, by rw [e], Nat.le_refl _, fun h0 => by omega⟩
  · refine ⟨_, cap, rfl, Nat.le_refl _, fun _ => ⟨g, rfl, (Array.getElem?_eq_some_iff.1 hh).1, fun k hk => ?_⟩⟩
    have d := fun (j : Nat) (hj : j < 4) => (h2.cellAt (k * 4 + j) (by omega)).trans (cellsT_get ts k hk j hj)
    exact ⟨by have q := d 0 (by omega); revert q; simp [cellT], by have q := d 1 (by omega); revert q; simp [cellT], by have q := d 2 (by omega); revert q; simp [cellT], by have q := d 3 (by omega); revert q; simp [cellT]⟩
end Go.Proofs.YtjffnjiggcfhcaaDoor.Tk
/-
  A text from a place on, byte by byte; what is told of the token at a place. No program here.
-/
namespace Go.Proofs.YtjffnjiggcfhcaaDoor.Tk
open Go.RowKit
set_option linter.unusedVariables false

theorem at_len {s : ByteArray} {a : Nat} {c : UInt8} {r : List UInt8} (hL : s.data.toList.drop a = c :: r) : a + (r.length + 1) = s.size := by
  have : (s.data.toList.drop a).length = (c :: r).length := by rw [hL]
  rw [List.length_drop, ← Lib.size_eq] at this
  simp only [List.length_cons] at this
  omega
theorem byte_at {s : ByteArray} {f p k : Nat} {D : List UInt8} (hD : s.data.toList.drop f = D) (hp : p = f + k) (h : p < s.size) : D[k]? = some s[p] := by
  rw [← hD, List.getElem?_drop, ← hp]
  exact Lib.data_getElem? s p h
theorem at_byte {s : ByteArray} {a : Nat} {c : UInt8} {r : List UInt8} (hL : s.data.toList.drop a = c :: r) (h : a < s.size) : s[a] = c := by
  have := byte_at hL (show a = a + 0 from rfl) h
  simpa using this.symm
theorem piece_at {s : ByteArray} {f p k : Nat} {D : List UInt8} (hD : s.data.toList.drop f = D) (hp : p = f + k) : s.extract f p = ⟨(D.take k).toArray⟩ := by
  rw [piece, hD, hp]
  congr 3
  omega
theorem piece_list {s : ByteArray} {f p k : Nat} {D : List UInt8} (hD : s.data.toList.drop f = D) (hp : p = f + k) : (s.extract f p).toList = D.take k := by
  rw [piece_at hD hp, Lib.toList_data]
theorem grown {p : UInt8 → Bool} {l : List UInt8} {k : Nat} {c : UInt8} (h : ∀ (j : Nat) (c : UInt8), j < k → l[j]? = some c → p c = true) (hc : l[k]? = some c) (hp : p c = true) : ∀ (j : Nat) (c : UInt8), j < k + 1 → l[j]? = some c → p c = true := by
  intro j d hj hd
  by_cases e : j = k
  · subst e
    rw [hc] at hd
    cases hd
    exact hp
  · exact h j d (by omega) hd
def natOf : Value → Nat | .int _ n => n.toNat | _ => 0
/-- Between the rounds: so far k bytes of D, which begins at f, are all of one sort. -/
def OneR (P : UInt8 → Bool) (D : List UInt8) (f : Nat) (v : World) (va : Value) (wr : World) : Prop :=
  ∃ p k : Nat, va = .int .i64 (p : Nat) ∧ Hid (p = f + k ∧ k ≤ D.length) ∧ Hid (∀ (j : Nat) (c : UInt8), j < k → D[j]? = some c → P c = true) ∧ v = wr
/-- What is told of the token at a. -/
def OneEnd (a : Nat) (e : Ending) : Option Lx → Prop
  | none => ∃ (k p n : Int) (str : ByteArray) (z : Int), e = .returned (.tuple #[.agg #[.int .i64 k, .int .i64 p, .int .i64 n, .string str], .int .i64 z, .bool false])
  | some x => e = .returned (.tuple #[.agg #[.int .i64 x.kind, .int .i64 (a : Nat), .int .i64 x.num, .string ⟨x.str.toArray⟩], .int .i64 ((a + x.size : Nat) : Int), .bool true])
/-- What is told of a number at a. -/
def NumEnd (a : Nat) (e : Ending) : Option Lx → Prop
  | none => ∃ n z : Int, e = .returned (.tuple #[.int .i64 n, .int .i64 z, .bool false])
  | some x => e = .returned (.tuple #[.int .i64 x.num, .int .i64 ((a + x.size : Nat) : Int), .bool true])
theorem wrap_small (n : Nat) (h : n ≤ 1000000) : wrap64 (n : Int) = (n : Int) := by unfold wrap64; omega
theorem wrap_succ (n : Nat) (h : n ≤ 1000000) : wrap64 ((n : Int) + 1) = ((n + 1 : Nat) : Int) := by unfold wrap64; omega
theorem wrap_sub {p f k : Nat} (h : p = f + k) (hk : k ≤ 1000000) : wrap64 ((p : Int) - (f : Int)) = (k : Int) := by unfold wrap64; omega
theorem sub_is {p f k : Nat} (h : p = f + k) : (p : Int) - (f : Int) = (k : Int) := by omega
theorem beq_no {p f : Nat} (h : p ≠ f) : ((p : Int) == (f : Int)) = false := by rw [beq_eq_false_iff_ne]; omega
theorem beq_yes {p f : Nat} (h : p = f) : ((p : Int) == (f : Int)) = true := by rw [h]; simp
theorem i64_small (n : Nat) (h : n ≤ 1000000) : IntKind.i64.wrap (n : Int) = (n : Int) := IntWalk.i64_in _ (by omega)
theorem i64_succ (n : Nat) (h : n ≤ 1000000) : IntKind.i64.wrap ((n : Int) + 1) = (n : Int) + 1 := IntWalk.i64_in _ (by omega)
theorem num_x2 {d : UInt8} {d1 : Int} (h : 48 ≤ d.toNat ∧ d.toNat ≤ 57) (e : d1 = ((d.toNat : Nat) : Int) - 48) : IntKind.u8.wrap (((d.toNat : Nat) : Int) - 48) = d1 := by rw [IntKind.wrap_u8]; omega
theorem num_x3 {d : UInt8} {d1 : Int} (h : 48 ≤ d.toNat ∧ d.toNat ≤ 57) (e : d1 = ((d.toNat : Nat) : Int) - 48) : IntKind.u64.wrap d1 = d1 := by rw [IntKind.wrap_u64]; omega
theorem num_x4 {d : UInt8} {d1 p1 : Int} {q1 nn : Nat} (h : 48 ≤ d.toNat ∧ d.toNat ≤ 57) (e : d1 = ((d.toNat : Nat) : Int) - 48) (ep : p1 = (10 * (nn : Int)) % 18446744073709551616) (eq : q1 = (10 * nn + (d.toNat - 48)) % 18446744073709551616) :
    IntKind.u64.wrap (p1 + d1) = (q1 : Int) := by rw [IntKind.wrap_u64, eq, ep, e]; omega
theorem num_case (nn : Nat) (d : Nat) : 922337203685477580 < nn ∨ (nn = 922337203685477580 ∧ 56 < d) ∨ (nn = 922337203685477580 ∧ ¬ 56 < d) ∨ nn < 922337203685477580 := by omega
theorem int_gt {n m : Nat} (h : n < m) : (n : Int) < (m : Int) := by omega
theorem int_ngt {n m : Nat} (h : ¬ n < m) : ¬ (n : Int) < (m : Int) := by omega
theorem neg_facts {nn : Nat} {m1 : Int} (h1 : 1 ≤ nn) (h2 : nn ≤ 9223372036854775808) (e : m1 = (nn : Int) - 1) :
    IntKind.u64.wrap ((nn : Int) - 1) = m1 ∧ IntKind.i64.wrap m1 = m1 ∧ wrap64 m1 = m1 ∧ wrap64 (-m1) = -m1 ∧ wrap64 (-m1 - 1) = -(nn : Int) :=
  ⟨by rw [IntKind.wrap_u64]; omega, IntWalk.i64_in _ (by omega), by unfold wrap64; omega, by unfold wrap64; omega, by unfold wrap64; omega⟩
theorem pos_facts {nn : Nat} (h : nn < 9223372036854775808) : IntKind.i64.wrap (nn : Int) = (nn : Int) ∧ wrap64 (nn : Int) = (nn : Int) := ⟨IntWalk.i64_in _ (by omega), by unfold wrap64; omega⟩
theorem low_not {c : UInt8} (h : low c = true) : dig c = false := by
  simp only [low, dig, Bool.and_eq_true, decide_eq_true_eq, Bool.and_eq_false_iff, decide_eq_false_iff_not] at h ⊢
  omega
end Go.Proofs.YtjffnjiggcfhcaaDoor.Tk
/-
  Contract of the document's answer one, where a name begins. Memory that was there is left as it was.
-/
namespace Go.Proofs.YtjffnjiggcfhcaaDoor.Tk
open Go.RowKit
set_option linter.unusedVariables false
set_option linter.unusedSimpArgs false

end Go.Proofs.YtjffnjiggcfhcaaDoor.Tk
/-
  Contract of the document's answer one, where a text begins. Memory that was there is left as it was.
-/
namespace Go.Proofs.YtjffnjiggcfhcaaDoor.Tk
open Go.RowKit
set_option linter.unusedVariables false
set_option linter.unusedSimpArgs false

theorem inB_iff (d : UInt8) : inB d = (decide (32 ≤ d.toNat) && decide (d.toNat ≤ 126) && !(d.toNat == 34)) := rfl
end Go.Proofs.YtjffnjiggcfhcaaDoor.Tk
/-
  Contract of the document's answer one, where a sign begins, or nothing. Memory that was there is left as it was.
-/
namespace Go.Proofs.YtjffnjiggcfhcaaDoor.Tk
open Go.RowKit
set_option linter.unusedVariables false
set_option linter.unusedSimpArgs false

end Go.Proofs.YtjffnjiggcfhcaaDoor.Tk
/-
  Contract of the document's answer number: the number at a place of a text, and where it ends. Memory is left as it was.
-/
namespace Go.Proofs.YtjffnjiggcfhcaaDoor.Tk
open Go.RowKit
set_option linter.unusedVariables false
set_option linter.unusedSimpArgs false

/-- What has been read so far: its value, or that it is beyond 2^63. -/
def NumI (D : List UInt8) (k nn : Nat) (bb : Bool) : Prop := bb = decide (9223372036854775808 < decV (D.take k)) ∧ (bb = false → nn = decV (D.take k))
theorem NumI.start (D : List UInt8) : NumI D 0 0 false := ⟨rfl, fun _ => rfl⟩
theorem NumI.next {D : List UInt8} {k nn : Nat} {bb : Bool} {d : UInt8} (h : NumI D k nn bb) (hd : D[k]? = some d) (hg : dig d = true) :
    NumI D (k + 1) ((10 * nn + (d.toNat - 48)) % 18446744073709551616) (bb || decide (922337203685477580 < nn) || (decide (nn = 922337203685477580) && decide (56 < d.toNat))) := by
  simp only [dig, Bool.and_eq_true, decide_eq_true_eq] at hg
  have e : D.take (k + 1) = D.take k ++ [d] := by rw [List.take_add_one, hd]; rfl
  unfold NumI
  rw [e, decV_snoc]
  obtain ⟨h1, h2⟩ := h
  cases bb with
  | true =>
    have h3 := of_decide_eq_true h1.symm
    refine ⟨?_, fun h => by simp at h⟩
    have h5 : 9223372036854775808 < decV (D.take k) * 10 + (d.toNat - 48) := by omega
    rw [decide_eq_true h5]
    simp
  | false =>
    have h3 := of_decide_eq_false h1.symm
    have h4 := h2 rfl
    rw [← h4] at h3 ⊢
    refine ⟨?_, fun h => ?_⟩
    · rw [Bool.false_or, Bool.eq_iff_iff]
      simp only [Bool.or_eq_true, Bool.and_eq_true, decide_eq_true_eq]
      omega
    · simp only [Bool.false_or, Bool.or_eq_false_iff, Bool.and_eq_false_iff, decide_eq_false_iff_not] at h
      omega
/-- Between the rounds: so far k digits of D, which begins at f, have been read. -/
def NumR (D : List UInt8) (f : Nat) (w : World) (va vn vb : Value) (wr : World) : Prop :=
  ∃ (p k nn : Nat) (bb : Bool), va = .int .i64 (p : Nat) ∧ vn = .int .u64 (nn : Nat) ∧ vb = .bool bb ∧ Hid (p = f + k ∧ k ≤ D.length ∧ nn < 18446744073709551616) ∧
    Hid (∀ (j : Nat) (c : UInt8), j < k → D[j]? = some c → dig c = true) ∧ Hid (NumI D k nn bb) ∧ w = wr
theorem all_more {p : UInt8 → Bool} {l : List UInt8} {k : Nat} {c : UInt8} (h : ∀ (j : Nat) (c : UInt8), j < k → l[j]? = some c → p c = true) (hc : l[k]? = some c) (hp : p c = true) : ∀ (j : Nat) (c : UInt8), j < k + 1 → l[j]? = some c → p c = true := by
  intro j d hj hd
  by_cases e : j = k
  · subst e
    rw [hc] at hd
    cases hd
    exact hp
  · exact h j d (by omega) hd
/-- What the rows of digits come to. -/
theorem dec_one {l : List UInt8} {d : UInt8} (h0 : l.head? = some d) (h1 : l.length = 1) : decV l = d.toNat - 48 := by
  match l, h0, h1 with
  | [x], h0, _ =>
    simp at h0
    subst h0
    unfold decV
    rw [decA_cons, decA_nil]
    omega
theorem dec_pos {l : List UInt8} {d : UInt8} (h0 : l.head? = some d) (hd : 49 ≤ d.toNat) : 1 ≤ decV l := by
  match l, h0 with
  | x :: r, h0 =>
    simp at h0
    subst h0
    unfold decV
    rw [decA_cons]
    exact Nat.le_trans (by omega) (decA_ge r _)
theorem digs_mem {l : List UInt8} {d : UInt8} (h : (digs l).head? = some d) : dig d = true := take_run_all dig l d (List.mem_of_mem_head? h)

end Go.Proofs.YtjffnjiggcfhcaaDoor.Tk
/-
  Contract of the document's answer number behind a -: the number at a place of a text, and where it ends. Memory is left as it was.
-/
namespace Go.Proofs.YtjffnjiggcfhcaaDoor.Tk
open Go.RowKit
set_option linter.unusedVariables false
set_option linter.unusedSimpArgs false

end Go.Proofs.YtjffnjiggcfhcaaDoor.Tk
/-
  Contract of the document's answer one, where a number begins. Memory that was there is left as it was.
-/
namespace Go.Proofs.YtjffnjiggcfhcaaDoor.Tk
open Go.RowKit
set_option linter.unusedVariables false
set_option linter.unusedSimpArgs false

theorem numL_is {l : List UInt8} {x : Lx} (h : numL l = some x) : x.kind = 3 ∧ x.str = [] := by
  match l, h with
  | c :: r, h =>
    rw [numL_cons] at h
    split at h
    · split at h
      · cases h
      · have e := (Option.some.inj h).symm
        subst e
        exact ⟨rfl, rfl⟩
    · split at h
      · cases h
      · have e := (Option.some.inj h).symm
        subst e
        exact ⟨rfl, rfl⟩
end Go.Proofs.YtjffnjiggcfhcaaDoor.Tk
/-
  Contract of the document's answer one: the token at a place of a text, where it ends, and whether it is well. Memory that was there is left as it was.
-/
namespace Go.Proofs.YtjffnjiggcfhcaaDoor.Tk
open Go.RowKit
set_option linter.unusedVariables false

end Go.Proofs.YtjffnjiggcfhcaaDoor.Tk
namespace Go.Proofs.YtjffnjiggcfhcaaDoor.Fl
open Go.RowKit Go.Proofs.YtjffnjiggcfhcaaDoor.Tk
set_option linter.unusedVariables false
set_option linter.unusedSimpArgs false

theorem name_short {l : List UInt8} (h : nameB l = true) : l.length ≤ 20 ∧ 1 ≤ l.length := by
  have hx := name_lex h
  refine ⟨?_, (lex_size hx).1⟩
  match l, h, hx with
  | c :: r, h, hx =>
    rw [lex_cons] at hx
    split at hx
    · unfold nameL at hx
      split at hx
      · rename_i hr
        have e := Option.some.inj hx
        have e2 := congrArg Lx.size e
        simp only at e2
        omega
      · cases hx
    · split at hx
      · rw [numL_cons] at hx
        split at hx
        · split at hx
          · cases hx
          · have e := congrArg Lx.kind (Option.some.inj hx)
            simp only at e
            omega
        · split at hx
          · cases hx
          · have e := congrArg Lx.kind (Option.some.inj hx)
            simp only at e
            omega
      · split at hx
        · unfold textL at hx
          split at hx
          · have e := congrArg Lx.kind (Option.some.inj hx)
            simp only at e
            omega
          · cases hx
        · unfold signL at hx
          split at hx
          · have e := congrArg Lx.kind (Option.some.inj hx)
            simp only at e
            omega
          · split at hx
            · have e := congrArg Lx.kind (Option.some.inj hx)
              simp only at e
              omega
            · cases hx
/-- Is it the one token, a name, which is all of l? -/
def oneNm (l : List UInt8) : Option (List Tok) → Bool
  | some [t] => t.kind == 1 && t.str == l
  | _ => false
theorem name_cut (l : List UInt8) : nameB l = oneNm l (cutAt 0 l) := by
  cases h : nameB l with
  | true =>
    obtain ⟨ks, e, hc⟩ := cuts_of (name_lex h) rfl 0 [] stp_nil
    rw [List.append_nil, cutAt_nil] at hc
    rw [hc]
    have hl : ks.length = 1 := by
      have := congrArg List.length e
      simpa using this
    match ks, hl, e with
    | [t], _, e =>
      simp only [List.map_cons, List.map_nil, List.cons.injEq, and_true, core] at e
      have e1 := congrArg Tc.kind e
      have e2 := congrArg Tc.str e
      simp only at e1 e2
      simp [oneNm, e1, e2]
  | false =>
    symm
    cases hc : cutAt 0 l with
    | none => rfl
    | some ts =>
      match ts, hc with
      | [], _ => rfl
      | _ :: _ :: _, _ => rfl
      | [t], hc =>
        have hg := (cut_good l.length 0 l [t] (Nat.le_refl _) hc).1 (core t) (by simp)
        simp only [oneNm, Bool.and_eq_false_iff, beq_eq_false_iff_ne]
        by_cases hk : t.kind = 1
        · right
          intro hs
          have := hg.1 hk
          rw [show (core t).str = t.str from rfl, hs, h] at this
          cases this
        · exact Or.inl hk
theorem eqE (n : Int) (w : World) : (binOp .eql 29 (.iface 35 (.int .i64 n)) .nilIface).run Tryd.prog w = .ok (.bool false) w := by kernel_rfl
theorem eqN (w : World) : (binOp .eql 29 .nilIface .nilIface).run Tryd.prog w = .ok (.bool true) w := by kernel_rfl
theorem neqE (n : Int) (w : World) : (binOp .neq 29 (.iface 35 (.int .i64 n)) .nilIface).run Tryd.prog w = .ok (.bool true) w := by kernel_rfl
theorem neqN (w : World) : (binOp .neq 29 .nilIface .nilIface).run Tryd.prog w = .ok (.bool false) w := by kernel_rfl
/-- What token.Cut tells of any text. -/
def CutAny (s : ByteArray) (w' : World) (e : Ending) : Prop :=
  (∃ n : Int, e = .returned (.tuple #[.slice none 0 0, .iface 35 (.int .i64 n)]) ∧ (500 < s.size ∧ n = 5 ∨ s.size ≤ 500 ∧ n = 2 ∧ cutAt 0 s.data.toList = none)) ∨
  (∃ ts a cap, e = .returned (.tuple #[.slice a ts.length cap, .nilIface]) ∧ s.size ≤ 500 ∧ cutAt 0 s.data.toList = some ts ∧ TksAt w' w'.heap.size a ts ∧ ts.length ≤ cap)
theorem cut_all_any (s : ByteArray) (w : World) (hE : LaidE w) : Calls Tryd.prog 12 #[.string s] w fun e w' => CutAny s w' e ∧ Below w.heap.size w w' := by
  by_cases h5 : s.size ≤ 500
  · refine (cut_any s h5 w hE).mono ?_
    rintro e w1 ⟨hc, hb⟩
    refine ⟨?_, hb⟩
    cases hC : cutAt 0 s.data.toList with
    | none =>
      rw [hC] at hc
      exact Or.inl ⟨2, hc, Or.inr ⟨h5, rfl, hC⟩⟩
    | some ts =>
      rw [hC] at hc
      obtain ⟨u, rfl, ho⟩ := hc
      have hcap : ∀ a cap, u = .slice a ts.length cap → ts.length ≤ cap := by
        rintro a cap rfl
        rcases ho.2 with ⟨h1, h2⟩ | ⟨g, cp, cur, h1, _, _, h3, _⟩
        · injection h1 with _ e2 e3
          omega
        · injection h1 with _ e2 e3
          omega
      obtain ⟨a, cap, rfl, ht⟩ := own_tks ho
      exact Or.inr ⟨ts, a, cap, rfl, h5, hC, ht, hcap a cap rfl⟩
  · refine (cut_large s (by omega) w).mono ?_
    rintro e w1 ⟨rfl, rfl⟩
    exact ⟨Or.inl ⟨5, rfl, Or.inl ⟨by omega, rfl⟩⟩, Below.refl _ _⟩
theorem bytes_eq (s : ByteArray) (l : List UInt8) : ((⟨l.toArray⟩ : ByteArray) = s) ↔ l = s.data.toList := by
  obtain ⟨d⟩ := s
  obtain ⟨m⟩ := d
  simp
set_option maxHeartbeats 1000000 in
set_option maxRecDepth 100000 in
theorem isName_any (s : ByteArray) (w : World) (hE : LaidE w) : Calls Tryd.prog 57 #[.string s] w fun e w' => e = .returned (.bool (nameB s.data.toList)) ∧ Below w.heap.size w w' := by
  have q1 := eqE 5
  have q2 := eqE 2
  have q3 := eqN
  obtain ⟨res, hres⟩ : ∃ b, nameB s.data.toList = b := ⟨_, rfl⟩
  rw [hres]
  have HR := Lib.hid hres
  have HC := Lib.hid (cut_all_any s w hE)
  clear hres hE
  go_enter Tryd.func57, Tryd.ntmps57
  go_wp2_with fail
  refine HC.out.mono ?_
  rintro e w1 ⟨hc, hb⟩
  have HB := Lib.hid hb
  clear hb
  rcases hc with ⟨n, rfl, hn⟩ | ⟨ts, a, cap, rfl, h5, hC, ht, _⟩
  · have hf : res = false := by
      rw [← HR.out]
      rcases hn with ⟨h1, _⟩ | ⟨_, _, h1⟩
      · cases h : nameB s.data.toList with
        | false => rfl
        | true => have := (name_short h).1; have h2 := Lib.size_eq s; omega
      · rw [name_cut, h1]; rfl
    have hn2 : n = 5 ∨ n = 2 := by omega
    subst hf
    clear hn
    rcases hn2 with rfl | rfl
    · go_wp2_with fail
      go_ret
      exact ⟨rfl, HB.out⟩
    · go_wp2_with fail
      go_ret
      exact ⟨rfl, HB.out⟩
  · have HT := Lib.hid ht
    have HN := Lib.hid (show res = oneNm s.data.toList (some ts) by rw [← HR.out, name_cut, hC])
    clear hC ht h5
    by_cases hl : ts.length = 1
    · obtain ⟨t, rfl⟩ : ∃ t, ts = [t] := by
        match ts, hl with
        | [t], _ => exact ⟨t, rfl⟩
      obtain ⟨g, rfl, hg, hcell⟩ := HT.out.2 (by simp)
      obtain ⟨c0, c1, c2, c3⟩ := hcell 0 (by simp)
      simp only [List.getElem_cons_zero, Nat.zero_mul, Nat.zero_add] at c0 c3
      obtain ⟨k, hk⟩ : ∃ k, k = t.kind := ⟨_, rfl⟩
      obtain ⟨str, hstr⟩ : ∃ x : ByteArray, x = ⟨t.str.toArray⟩ := ⟨_, rfl⟩
      rw [← hk] at c0
      rw [← hstr] at c3
      have HN2 := Lib.hid (show res = (decide (k = 1) && (str.toList == s.toList)) by
        rw [HN.out, hk, hstr, Lib.toList_data, Lib.toList_data]
        by_cases h1 : t.kind = 1 <;> simp [oneNm, h1])
      clear hk hstr hcell c1 c2 hl
      by_cases h1 : k = 1
      · have HF := Lib.hid (show res = (str.toList == s.toList) by rw [HN2.out, decide_eq_true h1, Bool.true_and])
        go_wp2_with fail
        go_ret
        exact ⟨by rw [HF.out]; rfl, HB.out⟩
      · have HF := Lib.hid (show res = false by rw [HN2.out, decide_eq_false h1]; rfl)
        go_wp2_with fail
        go_ret
        exact ⟨by rw [HF.out]; rfl, HB.out⟩
    · have HF := Lib.hid (show res = false by
        rw [HN.out]
        match ts, hl with
        | [], _ => rfl
        | _ :: _ :: _, _ => rfl
        | [t], h => exact absurd rfl h)
      have hlz : ¬ (ts.length : Int) = 1 := by omega
      go_wp2_with fail
      go_ret
      exact ⟨by rw [HF.out]; rfl, HB.out⟩
end Go.Proofs.YtjffnjiggcfhcaaDoor.Fl
