/-
  Contract of token.Cut: all tokens of a text, in a slice of the call's own, or why it has none. Memory that was there is left as it was.
-/
import Derived.Test.YtmjlfmoaoobmnaaDoorTkFirst
import Derived.Test.YtmjlfmoaoobmnaaDoorTkCells
import Derived.LaidEql
namespace Go.Proofs.YtmjlfmoaoobmnaaDoor.Tk
open Go.RowKit
set_option linter.unusedVariables false
set_option linter.unusedSimpArgs false

theorem neq_lex_nil (w : World) : (binOp .neq 25 (.iface 37 (.int .i64 2)) .nilIface).run Tryd.prog w = .ok (.bool true) w := by kernel_rfl
theorem neq_nil_nil (w : World) : (binOp .neq 25 .nilIface .nilIface).run Tryd.prog w = .ok (.bool false) w := by kernel_rfl
theorem infoTok : (Tryd.prog.info? 36).map (fun i => (i.zero, i.size, i.bytes)) = some (some (.agg #[.int .i64 0, .int .i64 0, .int .i64 0, .string ⟨#[]⟩]), 4, 40) := by kernel_rfl

theorem clone_any (s : ByteArray) (hs : s.size ≤ 1048576) (w : World) : Calls Tryd.prog 12 #[.string s] w fun e w' => e = .returned (.string s) ∧ Below w.heap.size w w' := by
  go_enter Tryd.func12, Tryd.ntmps12
  go_wp2_with fail
  refine (Tryd.stringslite_Clone s _ (by omega)).mono ?_
  rintro e w1 ⟨rfl, hb⟩
  go_wp2_with fail
  go_ret
  exact ⟨rfl, hb⟩
theorem cut_large (s : ByteArray) (hs : 500 < s.size) (w : World) : Calls Tryd.prog 6 #[.string s] w fun e w' => e = .returned (.tuple #[.slice none 0 0, .iface 37 (.int .i64 5)]) ∧ w = w' := by
  have hz : (500 : Int) < (s.size : Int) := by omega
  go_enter Tryd.func6, Tryd.ntmps6
  go_wp2_with fail
  exact bodyPost_ret (v := .tuple #[.slice none 0 0, .iface 37 (.int .i64 5)]) (by simp [results, Tryd.results6, go_sem]) rfl ⟨rfl, rfl⟩

set_option maxHeartbeats 4000000 in
theorem cut_any (s : ByteArray) (hs : s.size ≤ 500) (w : World) (hE : LaidE w) :
    Calls Tryd.prog 6 #[.string s] w fun e w' => CutEnd w w' 36 (.iface 37 (.int .i64 2)) .nilIface e (cutAt 0 s.data.toList) ∧ Below w.heap.size w w' := by
  have q1 := neq_lex_nil
  have q2 := neq_nil_nil
  have hz : ¬ (500 : Int) < (s.size : Int) := by omega
  have HS := Lib.hid (Lib.size_eq s)
  have H5 := Lib.hid hs
  have HE := Lib.hid hE
  obtain ⟨i0, hi, hz0, hz1, hz2⟩ := info_cut infoTok
  clear hs hE
  go_enter Tryd.func6, Tryd.ntmps6
  go_wp2_with fail
  go_loopw [5, 4] (fun va vl wr => CutR w 36 s.data.toList va vl wr) (fun va _ _ => s.size - nOf va)
  case atStart => exact ⟨0, [], rfl, Nat.zero_le _, Lib.hid (by simp), Nat.le_refl _, World.ownsRow_nil _ _ _ _, Below.refl _ _⟩
  case round =>
    obtain ⟨a, ts, rfl, ha, hC, ht, hO, hB⟩ := hrel
    have HA := Lib.hid ha
    have HT := Lib.hid ht
    have HO := Lib.hid hO
    have HB := Lib.hid hB
    clear ha ht hO hB
    by_cases hlt : a < s.size
    · have hlz : (a : Int) < (s.size : Int) := by omega
      have hlz2 : (a : Int) ≤ (s.size : Int) := by omega
      obtain ⟨c, hc⟩ : ∃ c, s[a] = c := ⟨_, rfl⟩
      obtain ⟨r, hr⟩ : ∃ r, s.data.toList.drop a = c :: r := by
        have h1 := Lib.data_getElem? s a hlt
        rw [hc] at h1
        obtain ⟨h2, h3⟩ := List.getElem?_eq_some_iff.1 h1
        exact ⟨_, by rw [List.drop_eq_getElem_cons h2, h3]⟩
      have HR := Lib.hid hr
      clear hr
      by_cases h32 : c.toNat = 32
      · have h32z : ((c.toNat : Nat) : Int) = 32 := by omega
        have HN := Lib.hid (cut_space hC.out HR.out h32)
        clear h32
        go_wp2_with fail
        go_roundw
        case rel => exact ⟨a + 1, ts, by go_num, by have := HS.out; omega, HN, by have := HT.out; omega, HO.out, HB.out⟩
        case measure => simp [nOf]; omega
      · have h32z : ¬ ((c.toNat : Nat) : Int) = 32 := by omega
        have HQ := Lib.hid (show (s.extract a s.size).data.toList = c :: r by rw [Lib.extract_to_end, HR.out])
        have CF := Lib.hid (fun W (hW : LaidE W) => first_any (s.extract a s.size) (by have := H5.out; simp only [ByteArray.size_extract]; omega) c r HQ.out W hW)
        have EW := Lib.hid (HE.out.later HB.out)
        have H32 := Lib.hid h32
        clear h32
        cases hx : lex (c :: r) with
        | none =>
          rw [hx] at CF
          have HN := Lib.hid (cut_bad hC.out HR.out H32.out hx)
          clear hx
          simp only [lexV] at CF
          go_wp2_with fail
          refine (CF.out _ EW.out).mono ?_
          rintro e w1 ⟨rfl, hb1⟩
          have B1 := Lib.hid (HB.out.trans (hb1.mono HB.out.size))
          clear hb1
          go_wp2_with fail
          refine bodyPost_ret (v := .tuple #[.slice none 0 0, .iface 37 (.int .i64 2)]) (by simp [results, Tryd.results6, go_sem]) rfl ⟨?_, ?_⟩
          · rw [HN.out]; exact rfl
          · exact B1.out.alloc B1.out.size _
        | some x =>
          rw [hx] at CF
          have HN := Lib.hid (cut_step hC.out HR.out H32.out hx)
          have HX := Lib.hid (lex_str hx)
          clear hx
          simp only [lexV] at CF
          go_wp2_with fail
          refine (CF.out _ EW.out).mono ?_
          rintro e w1 ⟨rfl, hb1⟩
          have B1 := Lib.hid (HB.out.trans (hb1.mono HB.out.size))
          have O1 := Lib.hid (own4_later HO.out hb1)
          obtain ⟨k, hk⟩ : ∃ k, k = x.kind := ⟨_, rfl⟩
          obtain ⟨n, hn⟩ : ∃ n, n = x.num := ⟨_, rfl⟩
          obtain ⟨str, hstr⟩ : ∃ str : ByteArray, str = ⟨x.str.toArray⟩ := ⟨_, rfl⟩
          obtain ⟨z, hz⟩ : ∃ z, z = x.size := ⟨_, rfl⟩
          rw [← hk, ← hn, ← hstr, ← hz]
          have HZ := Lib.hid (show a + z ≤ 500 by have := HN.out.1; have := HS.out; have := H5.out; omega)
          have hw : wrap64 ((a : Int) + (z : Int)) = ((a + z : Nat) : Int) := by have := HZ.out; unfold wrap64; omega
          have hwz : (a : Int) + (z : Int) = ((a + z : Nat) : Int) := by omega
          have HW := Lib.hid (And.intro hw hwz)
          have HSTR := Lib.hid (show str.size ≤ 1048576 by rw [hstr, bytes_size]; exact str_bound HQ.out H5.out HX.out)
          have HTOK := Lib.hid (show cellT ⟨x.kind, a, x.num, x.str⟩ = [.int .i64 k, .int .i64 (a : Nat), .int .i64 n, .string str] by rw [hk, hn, hstr]; rfl)
          have HZ2 := Lib.hid hz
          clear hb1 hk hn hstr hz hw hwz
          go_wp2_with fail
          refine (clone_any str HSTR.out _).mono ?_
          rintro e w2 ⟨rfl, hb2⟩
          have B2 := Lib.hid ((B1.out.alloc B1.out.size (.cells #[.int .i64 k, .int .i64 (a : Nat), .int .i64 n, .string str] 36)).trans (hb2.mono (by have := B1.out.size; simp; omega)))
          have G2 := Lib.hid ((((Below.refl w1.heap.size w1).alloc (Nat.le_refl _) (.cells #[.int .i64 k, .int .i64 (a : Nat), .int .i64 n, .string str] 36)).trans (hb2.mono (by simp))).setCell (p := ⟨w1.heap.size, 3, none⟩) (Nat.le_refl _) (.string str))
          obtain ⟨c0, c1, c2, c3, cf, cl⟩ := (Blk.new w1 (.int .i64 k) (.int .i64 (a : Nat)) (.int .i64 n) (.string str) 36).later hb2
          have OW := Lib.hid ((own4_later O1.out G2.out).alloc (.cells #[.int .i64 k, .int .i64 (a : Nat), .int .i64 n, .string str] 36))
          have BW := Lib.hid ((B2.out.setCell (p := ⟨w1.heap.size, 3, none⟩) B1.out.size (.string str)).alloc (by have := B2.out.size; simpa using this) (.cells #[.int .i64 k, .int .i64 (a : Nat), .int .i64 n, .string str] 36))
          have NW := Lib.hid (news4 (w2.setCell ⟨w1.heap.size, 3, none⟩ (.string str)) (.int .i64 k) (.int .i64 (a : Nat)) (.int .i64 n) (.string str) 36)
          rw [show (w2.setCell ⟨w1.heap.size, 3, none⟩ (.string str)).heap.size = w2.heap.size by simp] at NW
          obtain ⟨m, hm⟩ : ∃ m, m = ts.length := ⟨_, rfl⟩
          rw [← hm] at OW
          have HM := Lib.hid hm
          have HMB := Lib.hid (show m + 1 ≤ 501 by have := HT.out; have := HZ.out; omega)
          clear hb2 hm
          go_wp2_with (first | (at_builtin; refine wpList_append_own_at _ rfl _ _ 23 rfl w.heap.size 36 i0 (.agg #[.int .i64 0, .int .i64 0, .int .i64 0, .string ⟨#[]⟩]) 4 40 Tryd.underlying23 hi hz0 hz1 hz2 rfl (by decide) _ _ _ rfl OW.out ⟨w2.heap.size, 0, none⟩ 1 1 [.int .i64 k, .int .i64 (a : Nat), .int .i64 n, .string str] rfl rfl NW.out (one4 k _ n str) (by have := HMB.out; unfold maxLen; omega) (by have := HMB.out; omega) BW.out.size ?_))
          intro v1 w3 hown hgrow _ _
          have HBn := Lib.hid (own4_below BW.out OW.out hgrow)
          have HOn := Lib.hid (show w3.ownsRow w.heap.size 36 4 v1 (ts ++ [(⟨x.kind, a, x.num, x.str⟩ : Tok)]).length (cellsT (ts ++ [(⟨x.kind, a, x.num, x.str⟩ : Tok)])) by
            rw [cellsT_app, HTOK.out, List.length_append, ← HM.out]; exact hown)
          clear hgrow hown
          go_wp2
          go_roundw
          case rel => first | exact ⟨a + z, ts ++ [(⟨x.kind, a, x.num, x.str⟩ : Tok)], by first | exact congrArg (Value.int .i64) HW.out.1 | exact congrArg (Value.int .i64) HW.out.2, by rw [HZ2.out]; exact HN.out.1, by rw [HZ2.out]; exact HN.out.2.2, by have := HT.out; have := HN.out.2.1; rw [← HZ2.out] at this; simp; omega, HOn.out, HBn.out⟩ | ((repeat apply Exists.intro); exact ⟨⟨a + z, ts ++ [(⟨x.kind, a, x.num, x.str⟩ : Tok)], by first | exact congrArg (Value.int .i64) HW.out.1 | exact congrArg (Value.int .i64) HW.out.2, by rw [HZ2.out]; exact HN.out.1, by rw [HZ2.out]; exact HN.out.2.2, by have := HT.out; have := HN.out.2.1; rw [← HZ2.out] at this; simp; omega, HOn.out, HBn.out⟩, rfl⟩)
          case measure =>
            have h9 := HN.out.2.1
            rw [← HZ2.out] at h9
            have h8 := HW.out.1
            simp [nOf, h8]
            omega
    · have hlz : ¬ (a : Int) < (s.size : Int) := by omega
      have HN := Lib.hid (cut_all hC.out (by have := HS.out; have := HA.out; omega))
      go_wp2_with fail
      refine bodyPost_ret (v := .tuple #[_, .nilIface]) (by simp [results, Tryd.results6, go_sem]; rfl) rfl ⟨?_, HB.out⟩
      rw [HN.out]
      exact ⟨_, rfl, HO.out⟩
end Go.Proofs.YtmjlfmoaoobmnaaDoor.Tk
