/-
  Contract of Feed by all bytes that a reader was given so far; what the laws of layer 11 carry along.
-/
import Derived.Test.YthoajnpdnagdbaaFrFeed
namespace Go.Proofs.Ythoajnpdnagdbaa.Fr
open Go.RowKit Go.Proofs.Ythoajnpdnagdbaa.Fl Go.Proofs.Ythoajnpdnagdbaa.Wi
set_option linter.unusedVariables false
set_option linter.unusedSimpArgs false

/-- A reader that was given A. -/
def RSt (W : World) (p : Nat) (v : Value) (A : List UInt8) : Prop := FrAt W p v (if (frs A).2.1 = 5 then [] else (frs A).2.2) ((frs A).2.1 == 5)
theorem RSt.new {W : World} {p : Nat} (h : FrAt W p (.slice none 0 0) [] false) : RSt W p (.slice none 0 0) [] := by
  unfold RSt
  rw [frs_nil]
  exact h
theorem frs_rest : ∀ (l : List UInt8), (frs l).2.2.length ≤ l.length := by
  intro l
  induction l using frs.induct with
  | case1 => simp [frs_nil]
  | case2 a => simp [frs_one]
  | case3 a b r h => rw [frs_long h]; simp
  | case4 a b r h h2 => rw [frs_part h h2]; simp
  | case5 a b r h h2 ih => rw [frs_whole h h2]; simp only [List.length_drop, List.length_cons] at *; omega
theorem frs_count : ∀ (l : List UInt8), (frs l).1.length ≤ l.length := by
  intro l
  induction l using frs.induct with
  | case1 => simp [frs_nil]
  | case2 a => simp [frs_one]
  | case3 a b r h => rw [frs_long h]; simp
  | case4 a b r h h2 => rw [frs_part h h2]; simp
  | case5 a b r h h2 ih => rw [frs_whole h h2]; simp only [List.length_drop, List.length_cons] at *; omega
/-- What Feed tells, by all that was given. -/
def FeedR (p : Nat) (v : Value) (A b : List UInt8) (w w' : World) (e : Ending) : Prop :=
  ∃ ta tn tc cs T v', e = .returned (.tuple #[.slice ta tn tc, errF (frs (A ++ b)).2.1]) ∧ (frs (A ++ b)).1 = (frs A).1 ++ T ∧ OS w' w.heap.size (.slice ta tn tc) cs ∧ FsV w' (TX w w' p v v' (.slice ta tn tc)) cs T ∧ RSt w' p v' (A ++ b) ∧ Fed w w' p v v'
set_option maxHeartbeats 1000000 in
set_option maxRecDepth 100000 in
theorem feed_large (p : Nat) (v : Value) (a : Option Addr) (n c : Nat) (w : World) (hF : FrAt w p v [] true) :
    Calls Try.prog 7 #[.pointer (some ⟨p, 0, none⟩), .slice a n c] w fun e w' => e = .returned (.tuple #[.slice none 0 0, .iface 34 (.int .i64 5)]) ∧ w' = w := by
  obtain ⟨c0, c1, f0, f1⟩ := hF.cells
  clear hF
  go_enter Try.func7, Try.ntmps7
  go_wp2_with fail
  go_loopw [1, 6] (fun v1 v6 wr => v1 = .slice a n c ∧ v6 = .slice none 0 0 ∧ wr = w) (fun _ _ _ => 0)
  case atStart => exact ⟨rfl, rfl, rfl⟩
  case round =>
    obtain ⟨rfl, rfl, rfl⟩ := hrel
    go_wp2_with fail
    exact bodyPost_ret (v := .tuple #[.slice none 0 0, .iface 34 (.int .i64 5)]) (by simp [results, Try.results7, go_sem, *]) rfl ⟨rfl, rfl⟩
theorem feed_any (p : Nat) (v : Value) (A : List UInt8) (a : Option Addr) (c : Nat) (b : List UInt8) {S : Nat → Prop} (w : World) (hR : RSt w p v A) (hB : BytesAt w S a b) (hc : b.length ≤ c) (hSS : ∀ g, S g → g < w.heap.size ∧ g ≠ p ∧ some g ≠ v.ownBlock) (hl : (A ++ b).length ≤ 1000000) :
    Calls Try.prog 7 #[.pointer (some ⟨p, 0, none⟩), .slice a b.length c] w fun e w' => FeedR p v A b w w' e := by
  unfold RSt at hR
  by_cases h5 : (frs A).2.1 = 5
  · have hs := frs_stays A b h5
    rw [if_pos h5, h5] at hR
    refine (feed_large p v a b.length c w hR).mono ?_
    rintro e w' ⟨rfl, rfl⟩
    refine ⟨none, 0, 0, [], [], v, ?_, by rw [hs]; simp, OS.nil _ _, FsV.nil _ _, ?_, Fed.refl _ _ _⟩
    · rw [hs]; rfl
    · unfold RSt
      rw [hs]
      exact hR
  · have hs := frs_append A b h5
    rw [if_neg h5, show ((frs A).2.1 == 5) = false from beq_eq_false_iff_ne.2 h5] at hR
    have hl2 := frs_left A
    have hr := frs_rest A
    rw [List.length_append] at hl
    refine (feed_no p v (frs A).2.2 a c b w hR (by unfold Sh; rw [hl2]; exact ⟨rfl, h5⟩) hB hc hSS (by rw [List.length_append]; omega)).mono ?_
    rintro e w' ⟨ta, tn, tc, cs, v', rfl, h1, h2, h3, h4⟩
    refine ⟨ta, tn, tc, cs, (frs ((frs A).2.2 ++ b)).1, v', ?_, by rw [hs], h1, h2, ?_, h4⟩
    · rw [hs]
    · unfold RSt
      rw [hs]
      exact h3
/-- Where frames may lie: not in the reader's block, its slice's, and the one to be left out. -/
def FX (av : Option Nat) (W : World) (p : Nat) (v : Value) (g : Nat) : Prop := g < W.heap.size ∧ g ≠ p ∧ some g ≠ v.ownBlock ∧ some g ≠ av
/-- A reader that was given A, and a row of all frames told. -/
structure RdS (w0 : World) (p : Nat) (av : Option Nat) (W : World) (v : Value) (A : List UInt8) (got : Value) (gcs : List Value) : Prop where
  rd : RSt W p v A
  bel : Below w0.heap.size w0 W
  pz : w0.heap.size ≤ p
  go : OS W (p + 1) got gcs
  god : ∀ k, got.ownBlock = some k → v.ownBlock ≠ some k ∧ av ≠ some k
  fr : FsV W (FX av W p v) gcs (frs A).1
theorem RdS.new {w0 W : World} {p : Nat} (h : FrAt W p (.slice none 0 0) [] false) (hb : Below w0.heap.size w0 W) (hp : w0.heap.size ≤ p) : RdS w0 p none W (.slice none 0 0) [] (.slice none 0 0) [] :=
  ⟨RSt.new h, hb, hp, OS.nil _ _, (fun k e => by cases e), by rw [frs_nil]; exact FsV.nil _ _⟩
theorem RdS.later {w0 W W' : World} {p : Nat} {av : Option Nat} {v got : Value} {A : List UInt8} {gcs : List Value} (h : RdS w0 p none W v A got gcs) (hb : Below W.heap.size W W') (hav : ∀ k, av = some k → W.heap.size ≤ k) : RdS w0 p av W' v A got gcs := by
  refine ⟨FrAt.later h.rd hb, h.bel.trans (hb.mono h.bel.size), h.pz, h.go.later hb, fun k e => ⟨(h.god k e).1, fun e2 => ?_⟩, h.fr.far fun g hg => ?_⟩
  · have := hav k e2
    have := (h.go.lt e).2
    omega
  · obtain ⟨g1, g2, g3, -⟩ := hg
    exact ⟨⟨Nat.lt_of_lt_of_le g1 hb.size, g2, g3, fun e => by have := hav g e.symm; omega⟩, hb.block g g1⟩
/-- The same behind a call of Feed that told x. -/
structure RdF (w0 : World) (p : Nat) (av : Option Nat) (W : World) (v : Value) (A : List UInt8) (got : Value) (gcs : List Value) (x : Value) (cs : List Value) : Prop where
  rd : RSt W p v A
  bel : Below w0.heap.size w0 W
  pz : w0.heap.size ≤ p
  go : OS W (p + 1) got gcs
  god : ∀ k, got.ownBlock = some k → av ≠ some k
  xs : OS W (p + 1) x cs
  xd : ∀ k, x.ownBlock = some k → av ≠ some k
  fr : FsV W (FX av W p v) (gcs ++ cs) (frs A).1
  avd : ∀ k, av = some k → v.ownBlock ≠ some k ∧ p < k
theorem RdS.fed {w0 W W' : World} {p : Nat} {av : Option Nat} {v v' got x : Value} {A b : List UInt8} {gcs cs : List Value} {T : List (List UInt8)} (h : RdS w0 p av W v A got gcs) (hav : ∀ k, av = some k → k < W.heap.size ∧ v.ownBlock ≠ some k ∧ p < k)
    (h1 : (frs (A ++ b)).1 = (frs A).1 ++ T) (h2 : OS W' W.heap.size x cs) (h3 : FsV W' (TX W W' p v v' x) cs T) (h4 : RSt W' p v' (A ++ b)) (h5 : Fed W W' p v v') : RdF w0 p av W' v' (A ++ b) got gcs x cs := by
  have hpl : p < W.heap.size := FrAt.lt h.rd
  have hv : ∀ k, k < W.heap.size → v.ownBlock ≠ some k → v'.ownBlock ≠ some k := fun k hk e e2 => by
    rcases h5.nxt with e3 | e3 | ⟨b, e3, hb⟩
    · rw [e3] at e2; cases e2
    · rw [e3] at e2; exact e e2
    · rw [e3] at e2; cases e2; omega
  refine ⟨h4, ⟨h5.os.trans h.bel.os, h5.tape.trans h.bel.tape, h5.output.trans h.bel.output, Nat.le_trans h.bel.size h5.size, fun k hk => (h5.block k (Nat.lt_of_lt_of_le hk h.bel.size) (by have := h.pz; omega) (fun e => by have := (FrAt.own h.rd e.symm).1; have := h.pz; omega)).trans (h.bel.block k hk)⟩, h.pz, ?_, fun k e => (h.god k e).2, ?_, ?_, ?_, fun k e => ⟨hv k (hav k e).1 (hav k e).2.1, (hav k e).2.2⟩⟩
  · exact h.go.keep fun g e => h5.block g (h.go.lt e).2 (by have := (h.go.lt e).1; omega) (fun e2 => (h.god g e).1 e2.symm)
  · obtain ⟨q1, q2⟩ := h2
    refine ⟨q1, ?_⟩
    rcases q2 with q2 | ⟨g, cap, cur, e, hb, r⟩
    · exact Or.inl q2
    · exact Or.inr ⟨g, cap, cur, e, by omega, r⟩
  · intro k e e2
    have := (h2.lt e).1
    have := (hav k e2).1
    omega
  · rw [h1]
    refine FsV.app (h.fr.far fun g hg => ?_) (h3.far fun g hg => ?_)
    · obtain ⟨g1, g2, g3, g4⟩ := hg
      exact ⟨⟨Nat.lt_of_lt_of_le g1 h5.size, g2, fun e => hv g g1 (fun e2 => g3 e2.symm) e.symm, g4⟩, h5.block g g1 g2 g3⟩
    · obtain ⟨g1, g2, g3, g4, g5⟩ := hg
      refine ⟨⟨g1, g2, g4, fun e => ?_⟩, rfl⟩
      obtain ⟨q1, q2, q3⟩ := hav g e.symm
      rcases g3 with g3 | g3
      · exact q2 g3.symm
      · omega
/-- A store into the block that is left out. -/
theorem RdF.set {w0 W : World} {p gp : Nat} {v got x : Value} {A : List UInt8} {gcs cs : List Value} (h : RdF w0 p (some gp) W v A got gcs x cs) (j : Nat) (u : Value) : RdF w0 p (some gp) (W.setCell ⟨gp, j, none⟩ u) v A got gcs x cs := by
  have hset : ∀ k, k ≠ gp → (W.setCell ⟨gp, j, none⟩ u).heap[k]? = W.heap[k]? := fun k hk => Below.heap_setCell _ _ _ _ hk
  obtain ⟨ha1, ha2⟩ := h.avd gp rfl
  refine ⟨FrAt.keep h.rd (hset p (by omega)) (fun g e => hset g (fun e2 => ha1 (by rw [e, e2]))), ⟨h.bel.os, h.bel.tape, h.bel.output, by have := h.bel.size; simpa [World.setCell] using this, fun k hk => (hset k (by have := h.pz; omega)).trans (h.bel.block k hk)⟩, h.pz, h.go.keep fun g e => hset g (fun e2 => h.god g e (by rw [e2])), h.god, h.xs.keep fun g e => hset g (fun e2 => h.xd g e (by rw [e2])), h.xd, h.fr.far fun g hg => ?_, h.avd⟩
  obtain ⟨g1, g2, g3, g4⟩ := hg
  exact ⟨⟨by simpa [World.setCell] using g1, g2, g3, g4⟩, hset g (fun e => g4 (by rw [e]))⟩
/-- The row of all frames told is made anew. -/
theorem RdF.done {w0 W W' : World} {p : Nat} {av : Option Nat} {v got got' x : Value} {A : List UInt8} {gcs cs : List Value} (h : RdF w0 p av W v A got gcs x cs) {z : Nat} (hz : W.heap.size ≤ z) (ho : OS W' z got' (gcs ++ cs)) (hb : Below W.heap.size W W') : RdS w0 p none W' v A got' (gcs ++ cs) := by
  refine ⟨FrAt.later h.rd hb, h.bel.trans (hb.mono h.bel.size), h.pz, ?_, fun k e => ⟨fun e2 => ?_, (by intro e2; cases e2)⟩, h.fr.far fun g hg => ?_⟩
  · have hp : p < W.heap.size := FrAt.lt h.rd
    obtain ⟨q1, q2⟩ := ho
    refine ⟨q1, ?_⟩
    rcases q2 with q2 | ⟨g, cap, cur, e, hb, r⟩
    · exact Or.inl q2
    · exact Or.inr ⟨g, cap, cur, e, by omega, r⟩
  · have := (FrAt.own h.rd e2).2
    have := (ho.lt e).1
    omega
  · obtain ⟨g1, g2, g3, g4⟩ := hg
    exact ⟨⟨Nat.lt_of_lt_of_le g1 hb.size, g2, g3, (by intro e; cases e)⟩, hb.block g g1⟩
end Go.Proofs.Ythoajnpdnagdbaa.Fr
