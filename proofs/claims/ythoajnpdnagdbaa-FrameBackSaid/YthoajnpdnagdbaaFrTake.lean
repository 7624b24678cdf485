/-
  Contracts of take, End and New of package frame. All else is left as it was.
-/
import Derived.Test.YthoajnpdnagdbaaFrMem
namespace Go.Proofs.Ythoajnpdnagdbaa.Fr
open Go.RowKit Go.Proofs.Ythoajnpdnagdbaa.Fl Go.Proofs.Ythoajnpdnagdbaa.Wi
set_option linter.unusedVariables false
set_option linter.unusedSimpArgs false

theorem new_any (w : World) : Calls Try.prog 6 #[] w fun e w' => e = .returned (.pointer (some ⟨w.heap.size, 0, none⟩)) ∧ FrAt w' w.heap.size (.slice none 0 0) [] false ∧ Below w.heap.size w w' := by
  go_enter Try.func6, Try.ntmps6
  go_wp2_with fail
  go_ret
  exact ⟨rfl, ⟨Bq.new _ _ _, OB.nil _ _⟩, below_alloc _ _⟩
theorem end_any (p : Nat) (v : Value) (u : List UInt8) (lg : Bool) (w : World) (hF : FrAt w p v u lg) (hu : u.length ≤ 1000000) :
    Calls Try.prog 11 #[.pointer (some ⟨p, 0, none⟩)] w fun e w' => e = .returned (errW (if lg then 5 else if u = [] then 0 else 6)) ∧ w = w' := by
  obtain ⟨c0, c1, -, -⟩ := hF.cells
  obtain ⟨a, c, rfl, -, -, -⟩ := hF.2.shape
  obtain ⟨n, hn⟩ : ∃ n, n = u.length := ⟨_, rfl⟩
  have HU := Lib.hid (show u = [] ↔ n = 0 by rw [hn, List.length_eq_zero_iff])
  rw [← hn] at c0
  clear hF hu hn
  cases lg
  · by_cases h0 : n = 0
    · subst h0
      rw [if_pos (HU.out.2 rfl)]
      go_enter Try.func11, Try.ntmps11
      go_wp2_with fail
      go_ret
      exact ⟨rfl, rfl⟩
    · have hp : (0 : Int) < (n : Int) := by omega
      rw [if_neg (fun e => h0 (HU.out.1 e))]
      clear h0
      go_enter Try.func11, Try.ntmps11
      go_wp2_with fail
      go_ret
      exact ⟨rfl, rfl⟩
  · go_enter Try.func11, Try.ntmps11
    go_wp2_with fail
    go_ret
    exact ⟨rfl, rfl⟩
theorem mm_take {m u b : Nat} (hm : m ≤ 5000) (hu : u ≤ 1000000) (hb : b ≤ 1000000) : mn (mx (wrap64 ((m : Int) - (u : Int))) 0) (b : Int) = ((min (m - u) b : Nat) : Int) := by
  have h : wrap64 ((m : Int) - (u : Int)) = (m : Int) - (u : Int) := by unfold wrap64; omega
  rw [h]
  unfold mn mx
  split <;> split <;> omega
set_option maxHeartbeats 2000000
set_option maxRecDepth 100000
theorem take_any (p m : Nat) (hm : m ≤ 5000) (v : Value) (u : List UInt8) (lg : Bool) (a : Option Addr) (c : Nat) (b : List UInt8) (n : Nat) (hn : n = min (m - u.length) b.length) (hb : b.length ≤ c) (w : World) (hF : FrAt w p v u lg) {S : Nat → Prop} (hB : BytesAt w S a b) (hl : (u ++ b).length ≤ 1000000) :
    Calls Try.prog 13 #[.pointer (some ⟨p, 0, none⟩), .slice a b.length c, .int .i64 (m : Nat)] w fun e w' => e = .returned (.slice (rest a c n) (b.length - n) (c - n)) ∧ ∃ v', FrAt w' p v' (u ++ b.take n) lg ∧ Fed w w' p v v' := by
  rw [List.length_append] at hl
  obtain ⟨c0, c1, f0, f1⟩ := hF.cells
  obtain ⟨k, hk⟩ : ∃ k, k = u.length := ⟨_, rfl⟩
  obtain ⟨j, hj⟩ : ∃ j, j = b.length := ⟨_, rfl⟩
  have hv : ∃ g cap, v = .slice g k cap := by obtain ⟨g, cap, e, -⟩ := hF.2.shape; exact ⟨g, cap, by rw [hk]; exact e⟩
  obtain ⟨g, cap, rfl⟩ := hv
  have hmm := mm_take (m := m) (u := k) (b := j) hm (by omega) (by omega)
  rw [hj, hk, ← hn, ← hk, ← hj] at hmm
  have hnj : n ≤ j := by omega
  have HF := Lib.hid hF
  have HB := Lib.hid hB
  have HL := Lib.hid hl
  have HT := Lib.hid (hB.take (c := c) (k := n) (by omega))
  have HTL := Lib.hid (show n = (b.take n).length by rw [List.length_take]; omega)
  have q8 := fun W => run_front a j c n (by omega) W
  have q9 := fun W => run_rest a j c n (by omega) W
  have hn1 := run_mn Try.prog
  have hx1 := run_mx Try.prog
  rw [← hj]
  have HM := Lib.hid hmm
  have HJ := Lib.hid hj
  have hlt : p < w.heap.size := hF.lt
  clear hF hB hn hk hj hm
  go_enter Try.func13, Try.ntmps13
  go_wp2_with fail
  go_region_law (refine step_append_bytes rfl _ _ rfl (p + 1) _ u rfl HF.out.2 (front a c) n c (b.take n) HTL.out rfl HT.out (by have := HL.out; have := HTL.out; have := HJ.out; omega) (by simp; omega) ?_; intro v' w3 hrow3 hg3 hat3; obtain ⟨a3, n3, k3, e3⟩ := own_slice hrow3; subst e3; have G3 := Lib.hid (show w.grownBy w3 (Value.slice g k cap).ownBlock from ⟨hg3.os, hg3.tape, hg3.output, hg3.size, fun i hi hne => hg3.block i hi hne⟩); have A3 := Lib.hid (show (Value.slice a3 n3 k3).ownBlock = (Value.slice g k cap).ownBlock ∨ (Value.slice a3 n3 k3).ownBlock = some w.heap.size from hat3); have R3 := Lib.hid hrow3; clear hat3 hrow3; have P3 := Lib.hid (show w3.heap[p]? = w.heap[p]? from G3.out.block p hlt (fun e => by have := HF.out.own e.symm; omega)); clear hg3; have d3 : w3.cell? ⟨p, 0, none⟩ = some (.slice g k cap) := (World.cell?_of_block (w := w) (w' := w3) (a := ⟨p, 0, none⟩) P3.out).trans c0; have g3 : w3.frozen? ⟨p, 0, none⟩ = false := (World.frozen?_of_block (w := w) (w' := w3) (a := ⟨p, 0, none⟩) P3.out).trans f0)
  all_goals
    go_wp2_with fail
    go_ret
    refine ⟨rfl, _, HF.out.put (V := w3) R3.out G3.out, ?_⟩
    exact ((Fed.refl w p (.slice g k cap)).grown G3.out A3.out).set 0 _
end Go.Proofs.Ythoajnpdnagdbaa.Fr
