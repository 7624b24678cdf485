/-
  Contracts of As of the statements' own package (tokens, as the document's) and of Tokens of the document's answer (are tokens the same?), at two lists that are. Memory that was there is left as it was.
-/
import Derived.Test.YtmjlfmoaoobmnaaDoorProg
import Derived.Test.YtmjlfmoaoobmnaaDoorTkTks
import Derived.Deep.RegionHeldLaw
import Derived.Deep.AppendLies
import Derived.Lib.QuietBelow
import Derived.KernelRfl
import Derived.Handy
namespace Go.Proofs.YtmjlfmoaoobmnaaDoor.Tk
open Go.RowKit
set_option linter.unusedVariables false
set_option linter.unusedSimpArgs false

theorem infoRef : (Tryd.prog.info? 41).map (fun i => (i.zero, i.size, i.bytes)) = some (some (.agg #[.int .i64 0, .int .i64 0, .int .i64 0, .string ⟨#[]⟩]), 4, 40) := by kernel_rfl
def AsR (w : World) (t : TypeId) (ts : List Tok) (vi vo : Value) (wr : World) : Prop :=
  ∃ k : Nat, vi = .int .i64 (k : Nat) ∧ k ≤ ts.length ∧ wr.ownsRow w.heap.size t 4 vo k (cellsT (ts.take k)) ∧ Below w.heap.size w wr

set_option maxRecDepth 100000 in
set_option maxHeartbeats 4000000 in
theorem as_any (ts : List Tok) (A : Option Addr) (cap : Nat) (w : World) (hA : TksAt w w.heap.size A ts) (hl : ts.length ≤ 600) :
    Calls Tryd.prog 10 #[.slice A ts.length cap] w fun e w' => ∃ u, e = .returned u ∧ w'.ownsRow w.heap.size 41 4 u ts.length (cellsT ts) ∧ Below w.heap.size w w' := by
  obtain ⟨i0, hi, hz0, hz1, hz2⟩ := info_cut infoRef
  obtain ⟨n, hn⟩ : ∃ n, n = ts.length := ⟨_, rfl⟩
  have HN := Lib.hid hn
  have HA := Lib.hid hA
  rw [← hn] at hl ⊢
  have HL := Lib.hid hl
  clear hn hA hl
  go_enter Tryd.func10, Tryd.ntmps10
  go_wp2_with fail
  go_loopw [4, 3] (fun vi vo wr => AsR w 41 ts vi vo wr) (fun vi _ _ => n - nOf vi)
  case atStart => exact ⟨0, rfl, Nat.zero_le _, World.ownsRow_nil _ _ _ _, Below.refl _ _⟩
  case round =>
    obtain ⟨k, rfl, hk, hO, hB⟩ := hrel
    have HO := Lib.hid hO
    have HB := Lib.hid hB
    clear hO hB
    by_cases hlt : k < n
    · have hlz : (k : Int) < (n : Int) := by omega
      have hkl : k < ts.length := by rw [← HN.out]; exact hlt
      obtain ⟨g, hg, hgl, hc⟩ := (HA.out.later HB.out).2 (by omega)
      obtain ⟨c0, c1, c2, c3⟩ := hc k hkl
      obtain ⟨T, hT⟩ : ∃ T, T = ts[k] := ⟨_, rfl⟩
      rw [← hT] at c0 c1 c2 c3
      obtain ⟨tk, htk⟩ : ∃ x, x = T.kind := ⟨_, rfl⟩
      obtain ⟨tp, htp⟩ : ∃ x, x = T.pos := ⟨_, rfl⟩
      obtain ⟨tn, htn⟩ : ∃ x, x = T.num := ⟨_, rfl⟩
      obtain ⟨tS, hts⟩ : ∃ x : ByteArray, x = ⟨T.str.toArray⟩ := ⟨_, rfl⟩
      rw [← htk] at c0
      rw [← htp] at c1
      rw [← htn] at c2
      rw [← hts] at c3
      have HTC := Lib.hid (show cellT T = [.int .i64 tk, .int .i64 (tp : Nat), .int .i64 tn, .string tS] by rw [htk, htp, htn, hts]; rfl)
      have HTK := Lib.hid (show ts.take (k + 1) = ts.take k ++ [T] by rw [List.take_add_one, List.getElem?_eq_getElem hkl, hT]; rfl)
      obtain rfl := hg
      clear hc hT htk htp htn hts hk
      have hk1 : wrap64 ((k : Int) + 1) = ((k + 1 : Nat) : Int) := by have := HL.out; unfold wrap64; omega
      have HK1 := Lib.hid hk1
      have HS := Lib.hid (fun (W : World) (h : Below w.heap.size w W) => (show W.cell? ⟨g, k * 4, none⟩ = some (.int .i64 tk) ∧ W.cell? ⟨g, k * 4 + 1, none⟩ = some (.int .i64 (tp : Nat)) ∧ W.cell? ⟨g, k * 4 + 2, none⟩ = some (.int .i64 tn) ∧ W.cell? ⟨g, k * 4 + 3, none⟩ = some (.string tS) ∧ Below w.heap.size w W from
        ⟨(h.cell (p := ⟨g, _, none⟩) hgl).trans ((HB.out.cell (p := ⟨g, _, none⟩) hgl).symm.trans c0), (h.cell (p := ⟨g, _, none⟩) hgl).trans ((HB.out.cell (p := ⟨g, _, none⟩) hgl).symm.trans c1), (h.cell (p := ⟨g, _, none⟩) hgl).trans ((HB.out.cell (p := ⟨g, _, none⟩) hgl).symm.trans c2), (h.cell (p := ⟨g, _, none⟩) hgl).trans ((HB.out.cell (p := ⟨g, _, none⟩) hgl).symm.trans c3), h⟩))
      have OW := Lib.hid (show ((wr.alloc (.cells #[.int .i64 tk, .int .i64 (tp : Nat), .int .i64 tn, .string tS] 41)).drew).ownsRow w.heap.size 41 4 u3 k (cellsT (ts.take k)) from HO.out.alloc (.cells #[.int .i64 tk, .int .i64 (tp : Nat), .int .i64 tn, .string tS] 41))
      have BW := Lib.hid ((HB.out.alloc HB.out.size (.cells #[.int .i64 tk, .int .i64 (tp : Nat), .int .i64 tn, .string tS] 41)).drew)
      have NW := Lib.hid (show ∀ j u, ([.int .i64 tk, .int .i64 (tp : Nat), .int .i64 tn, .string tS] : List Value)[j]? = some u → ((wr.alloc (.cells #[.int .i64 tk, .int .i64 (tp : Nat), .int .i64 tn, .string tS] 41)).drew).cell? ((⟨wr.heap.size, 0, none⟩ : Addr).add j) = some u from news4 wr (.int .i64 tk) (.int .i64 (tp : Nat)) (.int .i64 tn) (.string tS) 41)
      have NM := Lib.hid (show k + 1 ≤ maxLen ∧ (k + 1) * 40 ≤ 140737488355328 by have := HL.out; unfold maxLen; omega)
      have NH := Lib.hid (show ((wr.alloc (.cells #[.int .i64 tk, .int .i64 (tp : Nat), .int .i64 tn, .string tS] 41)).drew).heap.size = wr.heap.size + 1 by simp)
      have HB0 := Lib.hid (show Below w.heap.size w wr.drew from HB.out.drew)
      go_wp2_with fail
      go_region_held_law (fun W => W.cell? ⟨g, k * 4, none⟩ = some (.int .i64 tk) ∧ W.cell? ⟨g, k * 4 + 1, none⟩ = some (.int .i64 (tp : Nat)) ∧ W.cell? ⟨g, k * 4 + 2, none⟩ = some (.int .i64 tn) ∧ W.cell? ⟨g, k * 4 + 3, none⟩ = some (.string tS) ∧ Below w.heap.size w W)
        (first | exact HS.out _ (s_same (by assumption)) | exact HS.out _ HB0.out | exact HS.out _ BW.out | exact HS.out _ HB3.out)
        (first | (refine step_append_lies _ rfl (.tmp 11) (.tmp 33) 28 rfl w.heap.size 41 i0 (.agg #[.int .i64 0, .int .i64 0, .int .i64 0, .string ⟨#[]⟩]) 4 40 Tryd.underlying28 hi hz0 hz1 hz2 rfl (by decide) u3 k (cellsT (ts.take k)) (by simp [Act.eval, Act.put]) OW.out ⟨wr.heap.size, 0, none⟩ 1 1 [.int .i64 tk, .int .i64 (tp : Nat), .int .i64 tn, .string tS] (by simp [Act.eval, Act.put]) rfl NW.out (one4 tk _ tn tS) (by decide) NM.out.1 NM.out.2 BW.out.size (wr.heap.size + 1) NH.out ?_; intro g3 cap3 w3 hown hgrow hat hlt3; have HB3 := Lib.hid (own4_below BW.out OW.out hgrow); have HO3 := Lib.hid hown; clear hown hgrow hat hlt3))
      have HOn := Lib.hid (show w3.ownsRow w.heap.size 41 4 (.slice (some ⟨g3, 0, none⟩) (k + 1) cap3) (k + 1) (cellsT (ts.take (k + 1))) by rw [HTK.out, cellsT_app, HTC.out]; exact HO3.out)
      go_wp2
      go_roundw
      case rel => first | exact ⟨k + 1, by first | rfl | exact congrArg (Value.int .i64) HK1.out, by omega, HOn.out, HB3.out⟩ | ((repeat apply Exists.intro); exact ⟨⟨k + 1, by first | rfl | exact congrArg (Value.int .i64) HK1.out, by omega, HOn.out, HB3.out⟩, rfl⟩)
      case measure =>
        have := HK1.out
        simp [nOf, this]
        omega
    · have hlz : ¬ (k : Int) < (n : Int) := by omega
      obtain rfl : k = n := by have := HN.out; omega
      go_wp2_with fail
      go_ret
      refine ⟨_, rfl, ?_, HB.out⟩
      have := HO.out
      rw [HN.out, List.take_length] at this
      rw [HN.out]
      exact this

theorem neq_same (a b c : Int) (s : ByteArray) (w : World) : (binOp .neq 41 (.agg #[.int .i64 a, .int .i64 b, .int .i64 c, .string s]) (.agg #[.int .i64 a, .int .i64 b, .int .i64 c, .string s])).run Tryd.prog w = .ok (.bool false) w := by
  simp [go_sem]
def TokR (ts : List Tok) (w : World) (vi : Value) (wr : World) : Prop := ∃ k : Nat, vi = .int .i64 (k : Nat) ∧ k ≤ ts.length ∧ Below w.heap.size w wr
set_option maxRecDepth 100000 in
set_option maxHeartbeats 4000000 in
theorem tokens_same (ts : List Tok) (A B : Option Addr) (cap1 cap2 : Nat) (w : World) (hA : TksAt w w.heap.size A ts) (hB : TksAt w w.heap.size B ts) (hl : ts.length ≤ 600) :
    Calls Tryd.prog 9 #[.slice A ts.length cap1, .slice B ts.length cap2] w fun e w' => e = .returned (.bool true) ∧ Below w.heap.size w w' := by
  obtain ⟨n, hn⟩ : ∃ n, n = ts.length := ⟨_, rfl⟩
  have HN := Lib.hid hn
  have HA := Lib.hid hA
  have HB := Lib.hid hB
  rw [← hn] at hl ⊢
  have HL := Lib.hid hl
  have q := neq_same
  clear hn hA hB hl
  go_enter Tryd.func9, Tryd.ntmps9
  go_wp2_with fail
  go_loopw [5] (fun vi wr => TokR ts w vi wr) (fun vi _ => n - nOf vi)
  case atStart => exact ⟨0, rfl, Nat.zero_le _, Below.refl _ _⟩
  case round =>
    obtain ⟨k, rfl, hk, hBB⟩ := hrel
    have HBB := Lib.hid hBB
    clear hBB
    by_cases hlt : k < n
    · have hlz : (k : Int) < (n : Int) := by omega
      have hkl : k < ts.length := by rw [← HN.out]; exact hlt
      obtain ⟨g, hg, _, hc⟩ := (HA.out.later HBB.out).2 (by omega)
      obtain ⟨c0, c1, c2, c3⟩ := hc k hkl
      obtain ⟨g2, hg2, _, hc2⟩ := (HB.out.later HBB.out).2 (by omega)
      obtain ⟨d0, d1, d2, d3⟩ := hc2 k hkl
      obtain ⟨T, hT⟩ : ∃ T, T = ts[k] := ⟨_, rfl⟩
      rw [← hT] at c0 c1 c2 c3 d0 d1 d2 d3
      obtain rfl := hg
      obtain rfl := hg2
      have hk1 : wrap64 ((k : Int) + 1) = ((k + 1 : Nat) : Int) := by have := HL.out; unfold wrap64; omega
      have HK1 := Lib.hid hk1
      clear hc hc2 hT hk
      go_wp2_with fail
      go_region
      all_goals
        go_wp2_with fail
        go_roundw
        case rel => exact ⟨k + 1, congrArg (Value.int .i64) HK1.out, by omega, HBB.out.drew⟩
        case measure =>
          have := HK1.out
          simp [nOf, this]
          omega
    · have hlz : ¬ (k : Int) < (n : Int) := by omega
      go_wp2_with fail
      go_ret
      exact ⟨rfl, HBB.out⟩
end Go.Proofs.YtmjlfmoaoobmnaaDoor.Tk
