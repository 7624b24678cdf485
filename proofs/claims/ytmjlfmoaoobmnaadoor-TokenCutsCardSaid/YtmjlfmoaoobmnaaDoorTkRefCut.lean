/-
  Contract of the document's answer Cut: all tokens of a text, in a slice of the call's own, or why it has none. Memory that was there is left as it was.
-/
import Derived.Test.YtmjlfmoaoobmnaaDoorTkRefOne
import Derived.Test.YtmjlfmoaoobmnaaDoorTkCells
import Derived.Test.YtmjlfmoaoobmnaaDoorTkAs
namespace Go.Proofs.YtmjlfmoaoobmnaaDoor.Tk
open Go.RowKit
set_option linter.unusedVariables false
set_option linter.unusedSimpArgs false

theorem refCut_large (s : ByteArray) (hs : 500 < s.size) (w : World) : Calls Tryd.prog 7 #[.string s] w fun e w' => e = .returned (.tuple #[.slice none 0 0, .int .i64 5]) ∧ w = w' := by
  have hz : (500 : Int) < (s.size : Int) := by omega
  go_enter Tryd.func7, Tryd.ntmps7
  go_wp2_with fail
  exact bodyPost_ret (v := .tuple #[.slice none 0 0, .int .i64 5]) (by simp [results, Tryd.results7, go_sem]) rfl ⟨rfl, rfl⟩

set_option maxHeartbeats 4000000 in
theorem refCut_any (s : ByteArray) (hs : s.size ≤ 500) (w : World) :
    Calls Tryd.prog 7 #[.string s] w fun e w' => CutEnd w w' 41 (.int .i64 2) (.int .i64 0) e (cutAt 0 s.data.toList) ∧ Below w.heap.size w w' := by
  have hz : ¬ (500 : Int) < (s.size : Int) := by omega
  have HS := Lib.hid (Lib.size_eq s)
  have H5 := Lib.hid hs
  obtain ⟨i0, hi, hz0, hz1, hz2⟩ := info_cut infoRef
  clear hs
  go_enter Tryd.func7, Tryd.ntmps7
  go_wp2_with fail
  go_loopw [5, 4] (fun va vl wr => CutR w 41 s.data.toList va vl wr) (fun va _ _ => s.size - nOf va)
  case atStart => exact ⟨0, [], rfl, Nat.zero_le _, Lib.hid (by simp), Nat.le_refl _, World.ownsRow_nil _ _ _ _, Below.refl _ _⟩
  case round =>
    obtain ⟨a, ts, rfl, ha, hC, ht, hO, hB⟩ := hrel
    have HA := Lib.hid ha
    have HT := Lib.hid ht
    have HO := Lib.hid hO
    have HB := Lib.hid hB
    clear ha ht hO hB
    by_cases hlt : a < s.size
    · have hlz : (a : Int) < (s.size : Int) := by omega
      have hlz2 : (a : Int) ≤ (s.size : Int) := by omega
      obtain ⟨c, hc⟩ : ∃ c, s[a] = c := ⟨_, rfl⟩
      obtain ⟨r, hr⟩ : ∃ r, s.data.toList.drop a = c :: r := by
        have h1 := Lib.data_getElem? s a hlt
        rw [hc] at h1
        obtain ⟨h2, h3⟩ := List.getElem?_eq_some_iff.1 h1
        exact ⟨_, by rw [List.drop_eq_getElem_cons h2, h3]⟩
      have HR := Lib.hid hr
      clear hr
      by_cases h32 : c.toNat = 32
      · have h32z : ((c.toNat : Nat) : Int) = 32 := by omega
        have HN := Lib.hid (cut_space hC.out HR.out h32)
        clear h32
        go_wp2_with fail
        go_roundw
        case rel => exact ⟨a + 1, ts, by go_num, by have := HS.out; omega, HN, by have := HT.out; omega, HO.out, HB.out⟩
        case measure => simp [nOf]; omega
      · have h32z : ¬ ((c.toNat : Nat) : Int) = 32 := by omega
        have CF := Lib.hid (fun W => refOne_any s H5.out a c r HR.out W)
        have H32 := Lib.hid h32
        clear h32
        cases hx : lex (c :: r) with
        | none =>
          rw [hx] at CF
          have HN := Lib.hid (cut_bad hC.out HR.out H32.out hx)
          clear hx
          go_wp2_with fail
          refine (CF.out _).mono ?_
          rintro e w1 ⟨⟨k, p, n, str, z, rfl⟩, hb1⟩
          have B1 := Lib.hid (HB.out.trans (hb1.mono HB.out.size))
          clear hb1
          go_wp2_with fail
          refine bodyPost_ret (v := .tuple #[.slice none 0 0, .int .i64 2]) (by simp [results, Tryd.results7, go_sem]) rfl ⟨?_, ?_⟩
          · rw [HN.out]; exact rfl
          · exact B1.out.alloc B1.out.size _
        | some x =>
          rw [hx] at CF
          have HN := Lib.hid (cut_step hC.out HR.out H32.out hx)
          clear hx
          go_wp2_with fail
          refine (CF.out _).mono ?_
          rintro e w1 ⟨he0, hb1⟩
          have he : e = .returned (.tuple #[.agg #[.int .i64 x.kind, .int .i64 (a : Nat), .int .i64 x.num, .string ⟨x.str.toArray⟩], .int .i64 ((a + x.size : Nat) : Int), .bool true]) := he0
          clear he0
          have B1 := Lib.hid (HB.out.trans (hb1.mono HB.out.size))
          have O1 := Lib.hid (own4_later HO.out hb1)
          obtain ⟨k, hk⟩ : ∃ k, k = x.kind := ⟨_, rfl⟩
          obtain ⟨n, hn⟩ : ∃ n, n = x.num := ⟨_, rfl⟩
          obtain ⟨str, hstr⟩ : ∃ str : ByteArray, str = ⟨x.str.toArray⟩ := ⟨_, rfl⟩
          obtain ⟨z, hz⟩ : ∃ z, z = a + x.size := ⟨_, rfl⟩
          rw [← hk, ← hn, ← hstr, ← hz] at he
          subst he
          have HZ := Lib.hid (show z ≤ 500 ∧ a < z by have := HN.out.1; have := HN.out.2.1; have := HS.out; have := H5.out; omega)
          have HTOK := Lib.hid (show cellT ⟨x.kind, a, x.num, x.str⟩ = [.int .i64 k, .int .i64 (a : Nat), .int .i64 n, .string str] by rw [hk, hn, hstr]; rfl)
          have HZ2 := Lib.hid hz
          clear hk hn hstr hz
          have OW := Lib.hid (((O1.out).alloc (.cells #[.int .i64 k, .int .i64 (a : Nat), .int .i64 n, .string str] 41)).alloc (.cells #[.int .i64 k, .int .i64 (a : Nat), .int .i64 n, .string str] 41))
          have BW := Lib.hid ((B1.out.alloc B1.out.size (.cells #[.int .i64 k, .int .i64 (a : Nat), .int .i64 n, .string str] 41)).alloc (by have := B1.out.size; simp; omega) (.cells #[.int .i64 k, .int .i64 (a : Nat), .int .i64 n, .string str] 41))
          have NW := Lib.hid (news4 (w1.alloc (.cells #[.int .i64 k, .int .i64 (a : Nat), .int .i64 n, .string str] 41)) (.int .i64 k) (.int .i64 (a : Nat)) (.int .i64 n) (.string str) 41)
          rw [show (w1.alloc (.cells #[.int .i64 k, .int .i64 (a : Nat), .int .i64 n, .string str] 41)).heap.size = w1.heap.size + 1 by simp] at NW
          obtain ⟨m, hm⟩ : ∃ m, m = ts.length := ⟨_, rfl⟩
          rw [← hm] at OW
          have HM := Lib.hid hm
          have HMB := Lib.hid (show m + 1 ≤ 501 by have := HT.out; have := HZ.out; omega)
          clear hb1 hm
          go_wp2_with (first | (at_builtin; refine wpList_append_own_at _ rfl _ _ 28 rfl w.heap.size 41 i0 (.agg #[.int .i64 0, .int .i64 0, .int .i64 0, .string ⟨#[]⟩]) 4 40 Tryd.underlying28 hi hz0 hz1 hz2 rfl (by decide) _ _ _ rfl OW.out ⟨w1.heap.size + 1, 0, none⟩ 1 1 [.int .i64 k, .int .i64 (a : Nat), .int .i64 n, .string str] rfl rfl NW.out (one4 k _ n str) (by have := HMB.out; unfold maxLen; omega) (by have := HMB.out; omega) BW.out.size ?_))
          intro v1 w3 hown hgrow _ _
          have HBn := Lib.hid (own4_below BW.out OW.out hgrow)
          have HOn := Lib.hid (show w3.ownsRow w.heap.size 41 4 v1 (ts ++ [(⟨x.kind, a, x.num, x.str⟩ : Tok)]).length (cellsT (ts ++ [(⟨x.kind, a, x.num, x.str⟩ : Tok)])) by
            rw [cellsT_app, HTOK.out, List.length_append, ← HM.out]; exact hown)
          clear hgrow hown
          go_wp2
          go_roundw
          case rel => first | exact ⟨z, ts ++ [(⟨x.kind, a, x.num, x.str⟩ : Tok)], rfl, by rw [HZ2.out]; exact HN.out.1, by rw [HZ2.out]; exact HN.out.2.2, by have := HT.out; have := HZ.out; simp; omega, HOn.out, HBn.out⟩ | ((repeat apply Exists.intro); exact ⟨⟨z, ts ++ [(⟨x.kind, a, x.num, x.str⟩ : Tok)], rfl, by rw [HZ2.out]; exact HN.out.1, by rw [HZ2.out]; exact HN.out.2.2, by have := HT.out; have := HZ.out; simp; omega, HOn.out, HBn.out⟩, rfl⟩)
          case measure =>
            have h9 := HZ.out
            simp [nOf]
            omega
    · have hlz : ¬ (a : Int) < (s.size : Int) := by omega
      have HN := Lib.hid (cut_all hC.out (by have := HS.out; have := HA.out; omega))
      go_wp2_with fail
      refine bodyPost_ret (v := .tuple #[_, .int .i64 0]) (by simp [results, Tryd.results7, go_sem]; rfl) rfl ⟨?_, HB.out⟩
      rw [HN.out]
      exact ⟨_, rfl, HO.out⟩
end Go.Proofs.YtmjlfmoaoobmnaaDoor.Tk
