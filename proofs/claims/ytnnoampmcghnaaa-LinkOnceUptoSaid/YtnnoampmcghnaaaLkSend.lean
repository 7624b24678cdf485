/-
  Contract of the sender's Send. All else is left as it was.
-/
import Derived.Test.YtnnoampmcghnaaaLkClone
import Derived.Deep.RegionLaw
namespace Go.Proofs.Ytnnoampmcghnaaa.Lk
open Go.RowKit Go.Proofs.Ytnnoampmcghnaaa.Fl Go.Proofs.Ytnnoampmcghnaaa.Wi Go.Proofs.Ytnnoampmcghnaaa.Fr
set_option linter.unusedVariables false
set_option linter.unusedSimpArgs false
set_option maxHeartbeats 4000000
set_option maxRecDepth 100000
theorem send_full {S : Nat → Prop} {p win : Nat} {v : Value} {cs : List Value} {all : List (List UInt8)} {ack told : Nat} (x : Value) (w : World) (h : Sn w S p win v cs all ack told) (hf : 200 ≤ all.length - ack) :
    Calls Try.prog 9 #[.pointer (some ⟨p, 0, none⟩), x] w fun e w' => e = .returned (.iface 31 (.int .i64 8)) ∧ w = w' := by
  obtain ⟨-, c1, -, -⟩ := h.cells
  obtain ⟨a, n, c, rfl⟩ := own_slice h.row
  obtain ⟨hn, -⟩ := h.row.cells
  have hz : (200 : Int) ≤ (n : Int) := by rw [hn, h.len]; omega
  clear h hn hf
  go_enter Try.func9, Try.ntmps9
  go_wp2_with fail
  go_ret
  exact ⟨rfl, rfl⟩
theorem Sn.sent {S : Nat → Prop} {p win : Nat} {v v' : Value} {cs : List Value} {all : List (List UInt8)} {ack told : Nat} {w w1 w3 : World} {o : Obj} {a' : Option Addr} {m c' : Nat} {b : List UInt8} (h : Sn w S p win v cs all ack told) (hq : all.length < 100000)
    (hb : Below w.heap.size w w1) (hA : BytesAt w1 (fun g => w.heap.size ≤ g ∧ g < w1.heap.size) a' b) (hm : m = b.length) (hc : m ≤ c') (hR : OS w3 (p + 1) v' (cs ++ [.slice a' m c'])) (hG : (w1.alloc o).grownBy w3 v.ownBlock) (hat : v'.ownBlock = v.ownBlock ∨ v'.ownBlock = some (w1.alloc o).heap.size) :
    Sn (w3.setCell ⟨p, 1, none⟩ v') (fun g => S g ∨ Nw w (w3.setCell ⟨p, 1, none⟩ v') v' g) p win v' (cs ++ [.slice a' m c']) (all ++ [b]) ack told ∧ Lv (Sp p v) w (w3.setCell ⟨p, 1, none⟩ v') ∧ Nxt w v v' := by
  have hz1 : w.heap.size ≤ w1.heap.size := hb.size
  have hz2 : (w1.alloc o).heap.size = w1.heap.size + 1 := by simp
  have hz3 : w1.heap.size < w3.heap.size := by have := hG.size; omega
  have hz4 : (w3.setCell ⟨p, 1, none⟩ v').heap.size = w3.heap.size := by simp [World.setCell]
  have hold : ∀ g, g < w1.heap.size → some g ≠ v.ownBlock → w3.heap[g]? = w1.heap[g]? := fun g h1 h2 => by rw [hG.block g (by omega) h2, Below.heap_alloc _ _ _ h1]
  have hset : ∀ g, g ≠ p → (w3.setCell ⟨p, 1, none⟩ v').heap[g]? = w3.heap[g]? := fun g h1 => Below.heap_setCell _ _ _ _ h1
  have hp := h.lt
  have hpv : some p ≠ v.ownBlock := fun e => by have := h.own e.symm; omega
  have hvv : ∀ g, g < w1.heap.size → some g ≠ v.ownBlock → some g ≠ v'.ownBlock := fun g h1 h2 => by
    rcases hat with e | e
    · rw [e]; exact h2
    · rw [e]; intro e2; cases e2; omega
  have hbq : Bq w3 p 57 #[.int .i64 (win : Int), v, .int .u64 (ack : Int), .int .i64 ((told - ack : Nat) : Int)] := by
    unfold Bq
    rw [hold p (by omega) hpv, hb.block p hp]
    exact h.bq
  have hdrop : (all ++ [b]).drop ack = all.drop ack ++ [b] := List.drop_append_of_le_length (by have := h.hat; have := h.htl; omega)
  refine ⟨⟨?_, ?_, ?_, ?_, h.hat, ?_, h.htw, h.hw1, h.hw2, ?_⟩, ⟨?_, ?_, ?_, ?_, ?_⟩, ?_⟩
  · have := hbq.set 1 v'
    simpa using this
  · exact hR.keep fun g hg => hset g (by have := hR.lt hg; omega)
  · rw [hdrop]
    refine FsV.app (h.dat.far fun g hg => ?_) (FsV.two hm hc (hA.far fun g hg => ?_))
    · obtain ⟨h1, h2, h3⟩ := h.dis g hg
      exact ⟨Or.inl hg, by rw [hset g h2, hold g (by omega) h3, hb.block g h1]⟩
    · have h3 : some g ≠ v.ownBlock := fun e => by have := h.own e.symm; omega
      exact ⟨Or.inr ⟨hg.1, by omega, hvv g hg.2 h3⟩, by rw [hset g (by omega), hold g hg.2 h3]⟩
  · rintro g (hg | hg)
    · obtain ⟨h1, h2, h3⟩ := h.dis g hg
      exact ⟨by omega, h2, hvv g (by omega) h3⟩
    · exact ⟨hg.2.1, by have := hg.1; omega, hg.2.2⟩
  · rw [List.length_append]; have := h.htl; omega
  · rw [List.length_append]; simp; omega
  · exact hG.os.trans hb.os
  · exact hG.tape.trans hb.tape
  · exact hG.output.trans hb.output
  · omega
  · intro k hk hx
    rw [hset k (fun e => hx (Or.inl e)), hold k (by omega) (fun e => hx (Or.inr e)), hb.block k hk]
  · rcases hat with e | e
    · exact Or.inl e
    · exact Or.inr ⟨_, e, by omega⟩
theorem send_any {S T : Nat → Prop} {p win : Nat} {v : Value} {cs : List Value} {all : List (List UInt8)} {ack told : Nat} (a : Option Addr) (m c : Nat) (b : List UInt8) (w : World) (h : Sn w S p win v cs all ack told) (hf : all.length - ack < 200) (hq : all.length < 100000)
    (hB : BytesAt w T a b) (hm : m = b.length) (hl : b.length ≤ 100000000) (hT : ∀ g, T g → g < w.heap.size) :
    Calls Try.prog 9 #[.pointer (some ⟨p, 0, none⟩), .slice a m c] w fun e w' => e = .returned .nilIface ∧ ∃ v' cs', Sn w' (fun g => S g ∨ Nw w w' v' g) p win v' cs' (all ++ [b]) ack told ∧ Lv (Sp p v) w w' ∧ Nxt w v v' := by
  obtain ⟨-, c1, -, -⟩ := h.cells
  have f1 := h.bq.fr 1
  obtain ⟨g, n, k, rfl⟩ := own_slice h.row
  obtain ⟨hn, -⟩ := h.row.cells
  have hz : ¬ (200 : Int) ≤ (n : Int) := by rw [hn, h.len]; omega
  have HNL := Lib.hid (show cs.length ≤ 200 by rw [h.len]; omega)
  have H := Lib.hid h
  have HB := Lib.hid hB
  have HM := Lib.hid hm
  have HL := Lib.hid hl
  have HT := Lib.hid hT
  have HQ := Lib.hid hq
  have hp := h.lt
  clear h hB hm hl hT hn hf hq
  go_enter Try.func9, Try.ntmps9
  go_wp2_with fail
  go_region_law (first
    | (go_simp; go_at_call 20
       refine (clone_any (S := T) a m c b w.drew (show BytesAt w.drew T a b from HB.out) HM.out HL.out (show ∀ g, T g → g < w.drew.heap.size from HT.out)).mono ?_
       rintro e w1 ⟨a', c', rfl, h1, h2, h3⟩
       dsimp only
       have B1 := Lib.hid (show Below w.heap.size w w1 from ⟨h3.os, h3.tape, h3.output, h3.size, h3.block⟩)
       have A1 := Lib.hid (show BytesAt w1 (fun g => w.heap.size ≤ g ∧ g < w1.heap.size) a' b from h2)
       have D1 := Lib.hid h1
       have P1 := Lib.hid (show w1.heap[p]? = w.heap[p]? from B1.out.block p hp)
       have R1 := Lib.hid (H.out.row.later B1.out)
       have d1 : w1.cell? ⟨p, 1, none⟩ = some (.slice g n k) := (World.cell?_of_block (w := w) (w' := w1) (a := ⟨p, 1, none⟩) P1.out).trans c1
       have d2 : (w1.alloc (.cells #[.slice a' m c'] 38)).cell? ⟨p, 1, none⟩ = some (.slice g n k) := (World.cell?_of_block (w := w1) (w' := w1.alloc (.cells #[.slice a' m c'] 38)) (a := ⟨p, 1, none⟩) (Below.heap_alloc _ _ _ (show p < w1.heap.size from Nat.lt_of_lt_of_le hp B1.out.size))).trans d1
       clear h1 h2 h3)
    | (refine step_append_sl rfl _ _ rfl (p + 1) (.slice g n k) cs rfl (show OS (w1.alloc (.cells #[.slice a' m c'] 38)) (p + 1) (.slice g n k) cs from R1.out.later (below_alloc _ _)) (some ⟨w1.heap.size, 0, none⟩) 1 1 [.slice a' m c'] rfl rfl (one_new w1 _ _) (by intro u hu; simp at hu; rw [hu]; rfl) (by have := HNL.out; simp; omega) (by have := B1.out.size; have := H.out.lt; simp; omega) ?_
       intro v' w3 hrow3 hg3 hat3
       obtain ⟨a3, n3, k3, e3⟩ := own_slice hrow3
       subst e3
       have R3 := Lib.hid hrow3
       have G3 := Lib.hid hg3
       have A3 := Lib.hid hat3
       have P3 := Lib.hid (show w3.heap[p]? = w.heap[p]? by
         rw [hg3.block p (by have := B1.out.size; simp; omega) (fun e => by have := H.out.own e.symm; omega), Below.heap_alloc _ _ _ (by have := B1.out.size; omega)]
         exact P1.out)
       have d3 : w3.cell? ⟨p, 1, none⟩ = some (.slice g n k) := (World.cell?_of_block (w := w) (w' := w3) (a := ⟨p, 1, none⟩) P3.out).trans c1
       have g3 : w3.frozen? ⟨p, 1, none⟩ = false := (World.frozen?_of_block (w := w) (w' := w3) (a := ⟨p, 1, none⟩) P3.out).trans f1
       clear hrow3 hg3 hat3))
  all_goals
    go_wp2_with fail
    go_ret
    refine ⟨rfl, .slice a3 n3 k3, cs ++ [.slice a' m c'], ?_⟩
    exact H.out.sent HQ.out B1.out A1.out HM.out D1.out R3.out G3.out A3.out
end Go.Proofs.Ytnnoampmcghnaaa.Lk
