/-
  Contracts of Simple of layer 3 (poly), for any list of at most 70 points, and of In, for a list of 1 to 70 points that may be and a point that may be. Memory that was there is left as it was.
-/
import Derived.Test.YtiggjaodfmelpaaPlMeets
import Derived.Test.YtiggjaodfmelpaaPlEdge
import Derived.Test.YtiggjaodfmelpaaRcOf
namespace Go.Proofs.Ytiggjaodfmelpaa.Pl
open Go.RowKit Go.Proofs.Ytiggjaodfmelpaa.Pt Go.Proofs.Ytiggjaodfmelpaa.Rc Go.Proofs.Ytiggjaodfmelpaa.Pts
set_option linter.unusedVariables false

theorem simple_few (A : Option Addr) (n c : Nat) (w : World) (h : n < 3) : Calls Try.prog 25 #[.slice A n c] w fun e w' => e = .returned (.bool false) ∧ Below w.heap.size w w' := by
  have h1 := decide_eq_false (show ¬ (3 : Int) ≤ (n : Int) by omega)
  go_enter Try.func25, Try.ntmps25
  go_wp2_with fail
  go_ret
  exact ⟨rfl, Below.refl _ _⟩
theorem simple_many (A : Option Addr) (n c : Nat) (w : World) (h : 64 < n) (hn : n ≤ 70) : Calls Try.prog 25 #[.slice A n c] w fun e w' => e = .returned (.bool false) ∧ Below w.heap.size w w' := by
  have h1 : (3 : Int) ≤ (n : Int) := by omega
  have h2 : (64 : Int) < (n : Int) := by omega
  go_enter Try.func25, Try.ntmps25
  go_wp2_with fail
  go_ret
  exact ⟨rfl, Below.refl _ _⟩

set_option maxHeartbeats 1000000 in
theorem simple_mid (l : List Pnt) (A : Option Addr) (c : Nat) (w : World) (hA : PtsAt w w.heap.size A l) (h3 : 3 ≤ l.length) (hn : l.length ≤ 64) :
    Calls Try.prog 25 #[.slice A l.length c] w fun e w' => e = .returned (.bool (simpleB l)) ∧ Below w.heap.size w w' := by
  have h0 : 0 < l.length := by omega
  have C1 := Lib.hid (allMay_any l A c w hA h0 (by omega))
  have C2 := Lib.hid (fun (hm : l.all pmay = true) W (h : Below w.heap.size w W) => turnsBack_any l A c W ((hA.later h).wide h.size) h0 (by omega) hm)
  have C3 := Lib.hid (fun (hm : l.all pmay = true) W (h : Below w.heap.size w W) => meets_any l A c W ((hA.later h).wide h.size) h0 (by omega) hm)
  have R := Lib.hid (show simpleB l = (l.all pmay && (!turnsB l && !meetsB l)) by unfold simpleB; rw [decide_eq_true h3, decide_eq_true hn]; rfl)
  obtain ⟨n, e⟩ : ∃ n, n = l.length := ⟨_, rfl⟩
  rw [← e] at hn h3 h0 C1 C2 C3 ⊢
  clear e hA
  have h1 : (3 : Int) ≤ (n : Int) := by omega
  have h2 : (n : Int) ≤ 64 := by omega
  go_enter Try.func25, Try.ntmps25
  go_wp2_with fail
  refine C1.out.mono ?_
  rintro e w1 ⟨rfl, hb1⟩
  have B1 := hb1
  clear hb1
  cases hm : l.all pmay
  · go_wp2_with fail
    rw [R.out, hm]
    go_ret
    exact ⟨rfl, B1⟩
  · go_wp2_with fail
    refine (C2.out hm _ B1).mono ?_
    rintro e w2 ⟨rfl, hb2⟩
    have B2 := B1.trans (hb2.mono B1.size)
    clear hb2
    cases ht : turnsB l
    · go_wp2_with fail
      refine (C3.out hm _ B2).mono ?_
      rintro e w3 ⟨rfl, hb3⟩
      have B3 := B2.trans (hb3.mono B2.size)
      clear hb3
      go_wp2_with fail
      rw [R.out, hm, ht]
      go_ret
      exact ⟨by simp, B3⟩
    · go_wp2_with fail
      rw [R.out, hm, ht]
      go_ret
      exact ⟨rfl, B2⟩

theorem simple_any (l : List Pnt) (A : Option Addr) (c : Nat) (w : World) (hA : PtsAt w w.heap.size A l) (hn : l.length ≤ 70) :
    Calls Try.prog 25 #[.slice A l.length c] w fun e w' => e = .returned (.bool (simpleB l)) ∧ Below w.heap.size w w' := by
  by_cases h3 : 3 ≤ l.length
  · by_cases h4 : l.length ≤ 64
    · exact simple_mid l A c w hA h3 h4
    · rw [show simpleB l = false by unfold simpleB; rw [decide_eq_false h4]; simp]
      exact simple_many A l.length c w (by omega) hn
  · rw [show simpleB l = false by unfold simpleB; rw [decide_eq_false h3]; simp]
    exact simple_few A l.length c w (by omega)

set_option maxHeartbeats 1000000 in
theorem polyIn_any (l : List Pnt) (A : Option Addr) (c : Nat) (p : Pnt) (w : World) (hA : PtsAt w w.heap.size A l) (h0 : 0 < l.length) (hn : l.length ≤ 70) (hm : l.all pmay = true) (hp : mayB p.1 p.2 = true) :
    Calls Try.prog 29 #[.slice A l.length c, .agg #[.int .i64 p.1, .int .i64 p.2]] w fun e w' => e = .returned (.bool (insB l p)) ∧ Below w.heap.size w w' := by
  have C1 := Lib.hid (fun W (h : Below w.heap.size w W) => of_any l A c W ((hA.later h).wide h.size) (by omega))
  have C2 := Lib.hid (fun W (h : Below w.heap.size w W) => onEdge_any l A c p W ((hA.later h).wide h.size) h0 hn hm hp)
  have C3 := Lib.hid (fun W (h : Below w.heap.size w W) => within_any l A c p W ((hA.later h).wide h.size) h0 hn hm hp)
  have ho : ofB l = true := by unfold ofB; rw [hm]; cases l; simp at h0; rfl
  rw [ho] at C1
  obtain ⟨r, hr⟩ : ∃ r, r = ofR l := ⟨_, rfl⟩
  have X := Lib.hid (show inB r.x1 r.y1 r.x2 r.y2 p.1 p.2 = false → insB l p = false by
    intro h
    rw [← Bool.not_eq_true]
    intro hi
    have := ins_box hm h0 hi
    rw [← hr, h] at this
    cases this)
  rw [← hr] at C1
  obtain ⟨n, e⟩ : ∃ n, n = l.length := ⟨_, rfl⟩
  rw [← e] at C1 C2 C3 ⊢
  have E := Lib.hid e
  clear e hA hr ho hm hn h0
  have L := Lib.hid (Kp.add0 ⟨Nat.le_refl _, Below.refl w.heap.size w⟩ w.heap.size rfl (.int .i64 p.1) (.int .i64 p.2) 28)
  go_enter Try.func29, Try.ntmps29
  go_wp2_with fail
  refine (C1.out _ (Kp.end2 L.out)).mono ?_
  rintro e w1 ⟨rfl, hb1⟩
  have K1 := Kp.adq2 (Kp.keep2 hb1 L.out) w1.heap.size rfl (.int .i64 r.x1) (.int .i64 r.y1) (.int .i64 r.x2) (.int .i64 r.y2) 23
  clear hb1 L
  go_wp2_with fail
  refine (in_any _ _ _ _ _ _ _).mono ?_
  rintro e w2 ⟨rfl, hb2⟩
  have K2 := Kp.keep6 hb2 K1
  clear hb2 K1
  cases h1 : inB r.x1 r.y1 r.x2 r.y2 p.1 p.2
  · go_wp2_with fail
    rw [X.out h1]
    go_ret
    exact ⟨rfl, Kp.end6 K2⟩
  · go_wp2_with fail
    refine (C2.out _ (Kp.end6 K2)).mono ?_
    rintro e w3 ⟨rfl, hb3⟩
    have K3 := Kp.keep6 hb3 K2
    clear hb3 K2
    cases h2 : edgeB l p
    · go_wp2_with fail
      refine (C3.out _ (Kp.end6 K3)).mono ?_
      rintro e w4 ⟨rfl, hb4⟩
      have K4 := Kp.keep6 hb4 K3
      clear hb4 K3
      go_wp2_with fail
      rw [show insB l p = oddB l p n by unfold insB; rw [h2, E.out]; rfl]
      go_ret
      exact ⟨by simp, Kp.end6 K4⟩
    · go_wp2_with fail
      rw [show insB l p = true by unfold insB; rw [h2]; rfl]
      go_ret
      exact ⟨rfl, Kp.end6 K3⟩
end Go.Proofs.Ytiggjaodfmelpaa.Pl
