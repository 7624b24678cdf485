/-
  The walk of the statement RectOf: whatever points it is given, it returns true, and memory that was there is left as it was.
-/
import Derived.Test.YtgddfjkjcoglcaaRcRefOf
import Derived.Test.YtgddfjkjcoglcaaRcUp
namespace Go.Proofs.Ytgddfjkjcoglcaa.Rc
open Go.RowKit Go.Proofs.Ytgddfjkjcoglcaa.Pt Go.Proofs.Ytgddfjkjcoglcaa.Pts

theorem ofLaw_far (A : Option Addr) (n c : Nat) (w : World) (h : 300 < n) (hn : n ≤ maxLen) : Calls Try.prog 4 #[.slice A n c] w fun e w' => e = .returned (.bool true) ∧ Below w.heap.size w w' := by
  unfold maxLen at hn
  have h' : (300 : Int) < (n : Int) := by omega
  go_enter Try.func4, Try.ntmps4
  go_wp2_with fail
  refine (up_any _).mono ?_
  rintro e w1 ⟨rfl, hb1⟩
  have B1 := Lib.hid hb1
  clear hb1
  go_wp2_with fail
  go_ret
  exact ⟨rfl, B1.out⟩

set_option maxHeartbeats 1000000 in
theorem ofLaw_any (l : List (Int × Int)) (A : Option Addr) (c : Nat) (w : World) (hA : PtsAt w w.heap.size A l) (hn : l.length ≤ 300) :
    Calls Try.prog 4 #[.slice A l.length c] w fun e w' => e = .returned (.bool true) ∧ Below w.heap.size w w' := by
  obtain ⟨n, e⟩ : ∃ n, n = l.length := ⟨_, rfl⟩
  have C1 := Lib.hid (fun W (h : PtsAt W W.heap.size A l) => of_any l A c W h hn)
  have C2 := Lib.hid (fun W (h : PtsAt W W.heap.size A l) => refOf_any l A c W h hn)
  rw [← e] at hn C1 C2 ⊢
  clear e
  obtain ⟨r, hr⟩ : ∃ r, r = ofR l := ⟨_, rfl⟩
  rw [← hr] at C1 C2
  clear hr
  have h' : (n : Int) ≤ 300 := by omega
  go_enter Try.func4, Try.ntmps4
  go_wp2_with fail
  refine (up_any _).mono ?_
  rintro e w1 ⟨rfl, hb1⟩
  have A1 : PtsAt w1 w1.heap.size A l := (hA.later hb1).wide hb1.size
  have K1 : w.heap.size ≤ w1.heap.size ∧ Below w.heap.size w w1 := ⟨hb1.size, hb1⟩
  clear hb1
  go_wp2_with fail
  refine (C1.out _ A1).mono ?_
  rintro e w2 ⟨rfl, hb2⟩
  have A2 : PtsAt (w2.alloc (.cells #[.int .i64 r.x1, .int .i64 r.y1, .int .i64 r.x2, .int .i64 r.y2] 23)) (w2.alloc (.cells #[.int .i64 r.x1, .int .i64 r.y1, .int .i64 r.x2, .int .i64 r.y2] 23)).heap.size A l := (A1.later (hb2.alloc hb2.size _)).wide (by have := hb2.size; simp; omega)
  have K2 := Kp.adq0 (Kp.ends hb2 K1) w2.heap.size rfl (.int .i64 r.x1) (.int .i64 r.y1) (.int .i64 r.x2) (.int .i64 r.y2) 23
  clear hb2 A1 K1
  go_wp2_with fail
  refine (C2.out _ A2).mono ?_
  rintro e w3 ⟨rfl, hb3⟩
  have K3 := Kp.adq4 (Kp.keep4 hb3 K2) w3.heap.size rfl (.int .i64 r.x1) (.int .i64 r.y1) (.int .i64 r.x2) (.int .i64 r.y2) 23
  clear hb3 A2 K2
  go_wp2_with fail
  go_ret
  exact ⟨rfl, Kp.end8 K3⟩

theorem ofLaw_all (l : List (Int × Int)) (A : Option Addr) (c : Nat) (w : World) (hA : PtsAt w w.heap.size A l) (hm : l.length ≤ maxLen) :
    Calls Try.prog 4 #[.slice A l.length c] w fun e w' => e = .returned (.bool true) ∧ Below w.heap.size w w' := by
  by_cases h : l.length ≤ 300
  · exact ofLaw_any l A c w hA h
  · exact ofLaw_far A l.length c w (by omega) hm
end Go.Proofs.Ytgddfjkjcoglcaa.Rc
