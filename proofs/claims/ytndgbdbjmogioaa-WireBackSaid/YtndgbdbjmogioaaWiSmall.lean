/-
  Contract of Small of the document's answer for layer 10: it answers, and leaves memory that was there as it was.
-/
import Derived.Test.YtndgbdbjmogioaaWiEq
namespace Go.Proofs.Ytndgbdbjmogioaa.Wi
open Go.RowKit Go.Proofs.Ytndgbdbjmogioaa.Fl
set_option linter.unusedVariables false
set_option linter.unusedSimpArgs false

def SmEnd (w w' : World) (e : Ending) : Prop := (∃ r : Bool, e = .returned (.bool r)) ∧ Below w.heap.size w w'
def SmR (n : Nat) (w : World) (vi : Value) (wr : World) : Prop := ∃ k : Nat, k ≤ n ∧ vi = .int .i64 k ∧ w = wr
set_option maxHeartbeats 2000000
set_option maxRecDepth 100000
theorem small_any (m : Msg) (sf : ByteArray) (a : Option Addr) (c : Nat) (w : World) (hA : AttsAt w (Old w.heap.size) a m.ev.attrs) :
    Calls Try.prog 7 #[.agg #[.int .i64 m.kind, .int .i64 m.sub, .int .i64 m.ver, .int .i64 m.home, .int .i64 m.x1, .int .i64 m.y1, .int .i64 m.x2, .int .i64 m.y2, .string sf, .int .i64 m.ev.pub, .int .u32 (m.ev.seq : Nat), .int .i64 m.ev.x, .int .i64 m.ev.y, .slice a m.ev.attrs.length c]] w fun x w' => SmEnd w w' x := by
  obtain ⟨n, hn⟩ : ∃ n, n = m.ev.attrs.length := ⟨_, rfl⟩
  have hm : n ≤ 9223372036854775807 := by have := hA.1; unfold maxLen at this; omega
  have HN := Lib.hid hn
  rw [← hn]
  obtain ⟨w1, hw1⟩ : ∃ W0 : World, W0 = w.alloc (.cells #[.int .i64 m.kind, .int .i64 m.sub, .int .i64 m.ver, .int .i64 m.home, .int .i64 m.x1, .int .i64 m.y1, .int .i64 m.x2, .int .i64 m.y2, .string sf, .int .i64 m.ev.pub, .int .u32 (m.ev.seq : Nat), .int .i64 m.ev.x, .int .i64 m.ev.y, .slice a n c] 31) := ⟨_, rfl⟩
  have B1 := Lib.hid (show Below w.heap.size w w1 by rw [hw1]; exact below_alloc _ _)
  have HA := Lib.hid (show AttsAt w1 (Old w1.heap.size) a m.ev.attrs from hA.far fun g hg => ⟨Nat.lt_of_lt_of_le hg B1.out.size, B1.out.block g hg⟩)
  have X1 := Lib.hid (show w1.cell? ⟨w.heap.size, 8, none⟩ = some (.string sf) ∧ w1.cell? ⟨w.heap.size, 13, none⟩ = some (.slice a n c) by rw [hw1]; constructor <;> simp [go_sem])
  have HW := Lib.hid hw1
  clear hw1 hn hA
  go_enter Try.func7, Try.ntmps7
  go_wp2_with fail
  rw [← HW.out]
  obtain ⟨x0, x1⟩ := X1.out
  go_loopw [3] (fun vi wr => SmR n w1 vi wr) (fun vi _ => n - (intOf vi).toNat)
  case atStart => exact ⟨0, Nat.zero_le _, rfl, rfl⟩
  case round =>
    obtain ⟨k, hk, rfl, rfl⟩ := hrel
    by_cases hlt : k < n
    · have hlz : (k : Int) < (n : Int) := by omega
      have hkl : k < m.ev.attrs.length := by rw [← HN.out]; exact hlt
      obtain ⟨g, o, hg, hgl, hc⟩ := HA.out.2.2 (by omega)
      obtain ⟨c0, c1, c2, c3⟩ := hc k hkl
      obtain ⟨V, hV⟩ : ∃ V, V = m.ev.attrs[k] := ⟨_, rfl⟩
      rw [← hV] at c0 c1 c2 c3
      obtain ⟨sn, e0, hsn⟩ := bs_of' V.name
      obtain ⟨ss, e3, hss⟩ := bs_of' V.str
      rw [e0] at c0
      rw [e3] at c3
      subst hg
      clear hc hV e0 e3 hgl hsn hss c1 c2
      by_cases h1 : (300 : Int) < (sn.size : Int)
      · go_wp2_with fail
        go_ret
        exact ⟨⟨_, rfl⟩, B1.out⟩
      · by_cases h2 : (300 : Int) < (ss.size : Int)
        · go_wp2_with fail
          go_ret
          exact ⟨⟨_, rfl⟩, B1.out⟩
        · go_wp2_with fail
          go_roundw
          case rel => exact ⟨k + 1, by omega, by go_num, rfl⟩
          case measure => simp [intOf]; omega
    · have hlz : ¬ (k : Int) < (n : Int) := by omega
      by_cases h1 : (sf.size : Int) ≤ 600
      · by_cases h2 : (n : Int) ≤ 20
        · go_wp2_with fail
          go_ret
          exact ⟨⟨_, rfl⟩, B1.out⟩
        · go_wp2_with fail
          go_ret
          exact ⟨⟨_, rfl⟩, B1.out⟩
      · go_wp2_with fail
        go_ret
        exact ⟨⟨_, rfl⟩, B1.out⟩
end Go.Proofs.Ytndgbdbjmogioaa.Wi
