/-
  Contract of the sender's Ack. All else is left as it was.
-/
import Derived.Test.YtnnoampmcghnaaaLkDel
import Derived.Deep.QuietTactic
import Derived.BigQuiet
import Derived.IntWalk
namespace Go.Proofs.Ytnnoampmcghnaaa.Lk
open Go.RowKit Go.Proofs.Ytnnoampmcghnaaa.Fl Go.Proofs.Ytnnoampmcghnaaa.Wi Go.Proofs.Ytnnoampmcghnaaa.Fr
set_option linter.unusedVariables false
set_option linter.unusedSimpArgs false
set_option maxHeartbeats 4000000
set_option maxRecDepth 100000
theorem ack_no {S : Nat → Prop} {p win : Nat} {v : Value} {cs : List Value} {all : List (List UInt8)} {ack told : Nat} (n : Nat) (w : World) (h : Sn w S p win v cs all ack told) (hn : n ≤ ack ∨ told < n) (h64 : n < 18446744073709551616) :
    Calls Try.prog 17 #[.pointer (some ⟨p, 0, none⟩), .int .u64 (n : Int)] w fun e w' => e = .returned (.tuple #[]) ∧ Below w.heap.size w w' := by
  obtain ⟨-, -, c2, c3⟩ := h.cells
  have u1 : IntKind.u64.wrap (((told - ack : Nat) : Int)) = ((told - ack : Nat) : Int) := wrapU rfl (by have := h.htl; have := h.hln; omega)
  have u2 : IntKind.u64.wrap ((ack : Int) + ((told - ack : Nat) : Int)) = (told : Int) := wrapU (by have := h.hat; omega) (by have := h.htl; have := h.hln; omega)
  obtain ⟨x, hx⟩ : ∃ x : Int, x = ((told - ack : Nat) : Int) := ⟨_, rfl⟩
  rw [← hx] at u1 u2 c3
  clear hx h
  by_cases h1 : n ≤ ack
  · have d1 : decide ((n : Int) ≤ (ack : Int)) = true := by rw [decide_eq_true_eq]; omega
    clear hn
    go_enter Try.func17, Try.ntmps17
    go_wp2_with fail
    go_quiet (fail)
    go_wp2_with fail
    refine bodyPost_ret (v := .tuple #[]) (by simp [results, Try.results17, go_sem]) rfl ⟨rfl, ?_⟩
    exact ⟨rfl, rfl, rfl, Nat.le_refl _, fun _ _ => rfl⟩
  · have d1 : decide ((n : Int) ≤ (ack : Int)) = false := by rw [decide_eq_false_iff_not]; omega
    have d2 : (told : Int) < (n : Int) := by omega
    clear hn
    go_enter Try.func17, Try.ntmps17
    go_wp2_with fail
    go_quiet (fail)
    go_wp2_with fail
    refine bodyPost_ret (v := .tuple #[]) (by simp [results, Try.results17, go_sem]) rfl ⟨rfl, ?_⟩
    exact ⟨rfl, rfl, rfl, Nat.le_refl _, fun _ _ => rfl⟩
theorem FsV.drop {W : World} {X : Nat → Prop} {cs : List Value} {l : List (List UInt8)} (h : FsV W X cs l) (k : Nat) : FsV W X (cs.drop k) (l.drop k) := by
  refine ⟨by rw [List.length_drop, List.length_drop, h.1], fun j hj => ?_⟩
  rw [List.length_drop] at hj
  obtain ⟨a, c, h1, h2, h3⟩ := h.2 (k + j) (by omega)
  rw [List.getElem_drop]
  exact ⟨a, c, by rw [List.getElem?_drop]; exact h1, h2, h3⟩
theorem Sn.acked {w w1 : World} {S : Nat → Prop} {p win g m cap n : Nat} {cs : List Value} {all : List (List UInt8)} {ack told : Nat} (h : Sn w S p win (.slice (some ⟨g, 0, none⟩) m cap) cs all ack told) (hn1 : ack < n) (hn2 : n ≤ told)
    (hR : OS w1 (p + 1) (.slice (some ⟨g, 0, none⟩) (m - (n - ack)) cap) (cs.drop (n - ack))) (hL : Lv (fun x => x = g) w w1) :
    Sn (((w1.setCell ⟨p, 1, none⟩ (.slice (some ⟨g, 0, none⟩) (m - (n - ack)) cap)).setCell ⟨p, 2, none⟩ (.int .u64 (n : Int))).setCell ⟨p, 3, none⟩ (.int .i64 ((told - n : Nat) : Int))) S p win (.slice (some ⟨g, 0, none⟩) (m - (n - ack)) cap) (cs.drop (n - ack)) all n told ∧
    Lv (Sp p (.slice (some ⟨g, 0, none⟩) m cap)) w (((w1.setCell ⟨p, 1, none⟩ (.slice (some ⟨g, 0, none⟩) (m - (n - ack)) cap)).setCell ⟨p, 2, none⟩ (.int .u64 (n : Int))).setCell ⟨p, 3, none⟩ (.int .i64 ((told - n : Nat) : Int))) := by
  obtain ⟨hpg, hgw⟩ := h.own (k := g) rfl
  have hp := h.lt
  have hb : Bq w1 p 57 #[.int .i64 (win : Int), .slice (some ⟨g, 0, none⟩) m cap, .int .u64 (ack : Int), .int .i64 ((told - ack : Nat) : Int)] := (hL.block p hp (by omega)).trans h.bq
  have hset : ∀ k, k ≠ p → (((w1.setCell ⟨p, 1, none⟩ (.slice (some ⟨g, 0, none⟩) (m - (n - ack)) cap)).setCell ⟨p, 2, none⟩ (.int .u64 (n : Int))).setCell ⟨p, 3, none⟩ (.int .i64 ((told - n : Nat) : Int))).heap[k]? = w1.heap[k]? := fun k hk => by
    rw [Below.heap_setCell _ _ _ _ hk, Below.heap_setCell _ _ _ _ hk, Below.heap_setCell _ _ _ _ hk]
  have hdrop : (all.drop ack).drop (n - ack) = all.drop n := by rw [List.drop_drop]; congr 1; omega
  refine ⟨⟨?_, ?_, ?_, ?_, hn2, h.htl, by have := h.htw; omega, h.hw1, h.hw2, h.hln⟩, ?_⟩
  · have := ((hb.set 1 (.slice (some ⟨g, 0, none⟩) (m - (n - ack)) cap)).set 2 (.int .u64 (n : Int))).set 3 (.int .i64 ((told - n : Nat) : Int))
    simpa using this
  · exact hR.keep fun k hk => hset k (by have := (hR.lt hk).1; omega)
  · rw [← hdrop]
    refine FsV.drop (h.dat.far fun k hk => ?_) _
    obtain ⟨h1, h2, h3⟩ := h.dis k hk
    exact ⟨hk, by rw [hset k h2, hL.block k h1 (fun e => h3 (by rw [show k = g from e]; rfl))]⟩
  · intro k hk
    obtain ⟨h1, h2, h3⟩ := h.dis k hk
    refine ⟨?_, h2, h3⟩
    have := hL.size
    simp [World.setCell]
    omega
  · refine (((hL.mono (Y := Sp p (.slice (some ⟨g, 0, none⟩) m cap)) fun k _ e => Or.inr (by rw [show k = g from e]; rfl)).set p 1 _ (Or.inl (Or.inl rfl))).set p 2 _ (Or.inl (Or.inl rfl))).set p 3 _ (Or.inl (Or.inl rfl))
theorem ack_yes {S : Nat → Prop} {p win : Nat} {v : Value} {cs : List Value} {all : List (List UInt8)} {ack told : Nat} (n : Nat) (w : World) (h : Sn w S p win v cs all ack told) (hn1 : ack < n) (hn2 : n ≤ told) :
    Calls Try.prog 17 #[.pointer (some ⟨p, 0, none⟩), .int .u64 (n : Int)] w fun e w' => e = .returned (.tuple #[]) ∧ ∃ v' cs', Sn w' S p win v' cs' all n told ∧ Lv (Sp p v) w w' ∧ Nxt w v v' := by
  have htl := h.htl
  have hln := h.hln
  obtain ⟨-, c1, c2, c3⟩ := h.cells
  obtain ⟨a, m, cap, rfl⟩ := own_slice h.row
  obtain ⟨hm, hce⟩ := h.row.cells
  have hcl := h.len
  obtain ⟨g, o, rfl, hg, -⟩ := hce.2 (by omega)
  have ho : o = 0 := by
    rcases h.row.2 with ⟨e, _⟩ | ⟨g', cap', cur, e, _⟩
    · cases e
    · simp only [Value.slice.injEq, Option.some.injEq, Addr.mk.injEq] at e
      exact e.1.2.1
  subst ho
  obtain ⟨hpg, hgw⟩ := h.own (k := g) rfl
  have hp := h.lt
  obtain ⟨k, hk⟩ : ∃ k, k = n - ack := ⟨_, rfl⟩
  have u0 : IntKind.u64.wrap ((n : Int) - (ack : Int)) = (k : Int) := wrapU (by omega) (by omega)
  have u3 : IntKind.i64.wrap (k : Int) = (k : Int) := IntWalk.i64_in _ (by omega)
  have u1 : IntKind.u64.wrap (((told - ack : Nat) : Int)) = ((told - ack : Nat) : Int) := wrapU rfl (by omega)
  have u2 : IntKind.u64.wrap ((ack : Int) + ((told - ack : Nat) : Int)) = (told : Int) := wrapU (by omega) (by omega)
  have u4 : IntKind.i64.wrap (((told - ack : Nat) : Int) - (k : Int)) = ((told - n : Nat) : Int) := by rw [IntWalk.i64_in _ (by omega)]; omega
  have d1 : decide ((n : Int) ≤ (ack : Int)) = false := by rw [decide_eq_false_iff_not]; omega
  have d2 : ¬ (told : Int) < (n : Int) := by omega
  have h1 : ¬ n ≤ ack := by omega
  have h2 : ¬ told < n := by omega
  have HC := Lib.hid (fun (W : World) (hW : W.heap = w.heap) => delete_any (z := p + 1) k W (h.row.keep (V := W) fun _ _ => by rw [hW]) (by omega) (by omega) (by omega) h.dat.one')
  have H := Lib.hid h
  have HN := Lib.hid (And.intro hn1 hn2)
  have HK := Lib.hid hk
  obtain ⟨x, hx⟩ : ∃ x : Int, x = ((told - ack : Nat) : Int) := ⟨_, rfl⟩
  obtain ⟨y, hy⟩ : ∃ y : Int, y = ((told - n : Nat) : Int) := ⟨_, rfl⟩
  rw [← hx] at u1 u2 c3
  rw [← hx, ← hy] at u4
  have HY := Lib.hid hy
  clear hx hy h hm hce hcl hg htl hln hk hn1 hn2
  go_enter Try.func17, Try.ntmps17
  go_wp2_with fail
  go_quiet (fail)
  go_wp2_with fail
  refine (HC.out (w.drewN nq) rfl).mono ?_
  rintro e w1 ⟨rfl, h1, h2⟩
  have R1 := Lib.hid h1
  have L1 := Lib.hid (show Lv (fun x => x = g) w w1 from ⟨h2.os, h2.tape, h2.output, h2.size, h2.block⟩)
  have P1 := Lib.hid (show w1.heap[p]? = w.heap[p]? from L1.out.block p hp (show p ≠ g by omega))
  have b1 : w1.cell? ⟨p, 1, none⟩ = some (.slice (some ⟨g, 0, none⟩) m cap) := (World.cell?_of_block (w := w) (w' := w1) (a := ⟨p, 1, none⟩) P1.out).trans c1
  have b2 : w1.cell? ⟨p, 2, none⟩ = some (.int .u64 (ack : Int)) := (World.cell?_of_block (w := w) (w' := w1) (a := ⟨p, 2, none⟩) P1.out).trans c2
  have b3 : w1.cell? ⟨p, 3, none⟩ = some (.int .i64 x) := (World.cell?_of_block (w := w) (w' := w1) (a := ⟨p, 3, none⟩) P1.out).trans c3
  have g1 : w1.frozen? ⟨p, 1, none⟩ = false := (World.frozen?_of_block (w := w) (w' := w1) (a := ⟨p, 1, none⟩) P1.out).trans (H.out.bq.fr 1)
  have g2 : w1.frozen? ⟨p, 2, none⟩ = false := (World.frozen?_of_block (w := w) (w' := w1) (a := ⟨p, 2, none⟩) P1.out).trans (H.out.bq.fr 2)
  have g3 : w1.frozen? ⟨p, 3, none⟩ = false := (World.frozen?_of_block (w := w) (w' := w1) (a := ⟨p, 3, none⟩) P1.out).trans (H.out.bq.fr 3)
  clear h1 h2 c1 c2 c3
  go_wp2_with fail
  refine bodyPost_end (v := .tuple #[]) ?hv ?hd ?hr
  case hd => rfl
  case hv => simp [results, Try.results17, go_sem]
  case hr =>
    have hk := HK.out
    subst hk
    obtain ⟨q1, q2⟩ := H.out.acked HN.out.1 HN.out.2 R1.out L1.out
    rw [← HY.out] at q1 q2
    exact ⟨rfl, .slice (some ⟨g, 0, none⟩) (m - (n - ack)) cap, cs.drop (n - ack), q1, q2, Or.inl rfl⟩
end Go.Proofs.Ytnnoampmcghnaaa.Lk
