/-
  Rows of attributes of a call's own; ranges of what is read. No function of the program here.
-/
import Derived.Test.YtndgbdbjmogioaaWiBq
import Derived.Deep.AppendLies
import Derived.Deep.RegionHeldLaw
namespace Go.Proofs.Ytndgbdbjmogioaa.Wi
open Go.RowKit Go.Proofs.Ytndgbdbjmogioaa.Fl
set_option linter.unusedVariables false
set_option linter.unusedSimpArgs false

theorem infoA : (Try.prog.info? 50).map (fun i => (i.zero, i.size, i.bytes)) = some (some (.agg #[.string ⟨#[]⟩, .bool false, .int .i64 0, .string ⟨#[]⟩]), 4, 48) := by kernel_rfl
def attCs (l : List Att) : List Value := l.flatMap attC
theorem attCs_length : ∀ l : List Att, (attCs l).length = l.length * 4
  | [] => rfl
  | a :: l => by
    show (attC a ++ attCs l).length = _
    rw [List.length_append, attCs_length l, List.length_cons]
    simp [attC]
    omega
theorem attCs_at : ∀ (l : List Att) (k i : Nat) (h : k < l.length), i < 4 → (attCs l)[k * 4 + i]? = (attC l[k])[i]?
  | a :: l, 0, i, h, hi => by
    show (attC a ++ attCs l)[0 * 4 + i]? = _
    rw [List.getElem?_append_left (by simp [attC]; omega)]
    simp
  | a :: l, k + 1, i, h, hi => by
    show (attC a ++ attCs l)[(k + 1) * 4 + i]? = _
    rw [List.getElem?_append_right (by simp [attC]; omega), show (k + 1) * 4 + i - (attC a).length = k * 4 + i by simp [attC]; omega, attCs_at l k i (by simpa using h) hi]
    simp
theorem attCs_one (l : List Att) : ∀ u ∈ attCs l, u.oneCell' = true := by
  intro u hu
  obtain ⟨a, _, h⟩ := List.mem_flatMap.1 hu
  simp [attC] at h
  rcases h with rfl | rfl | rfl | rfl <;> rfl
theorem attCs_app (l r : List Att) : attCs (l ++ r) = attCs l ++ attCs r := by simp [attCs]
/-- A row of attributes of a call's own, in blocks from z on. -/
def OA (W : World) (z : Nat) (v : Value) (l : List Att) : Prop := W.ownsRow z 50 4 v l.length (attCs l)
theorem OA.lt {W : World} {z : Nat} {v : Value} {l : List Att} (h : OA W z v l) {k : Nat} (hk : v.ownBlock = some k) : z ≤ k ∧ k < W.heap.size := World.ownsRow.lt h k hk
theorem OA.keep {W V : World} {z : Nat} {v : Value} {l : List Att} (h : OA W z v l) (hk : ∀ g, v.ownBlock = some g → V.heap[g]? = W.heap[g]?) : OA V z v l := by
  obtain ⟨h1, h2⟩ := h
  refine ⟨h1, ?_⟩
  rcases h2 with h2 | ⟨g, cap, cur, e, hb, hh, r⟩
  · exact Or.inl h2
  · refine Or.inr ⟨g, cap, cur, e, hb, ?_, r⟩
    rw [hk g (by rw [e]; rfl)]
    exact hh
theorem OA.gr {W V : World} {z p : Nat} {v : Value} {l : List Att} (h : OA W z v l) (hg : W.grownBy V (some p)) (hp : p < z) : OA V z v l := h.keep fun g e => hg.block g (h.lt e).2 (fun e2 => by cases e2; have := (h.lt e).1; omega)
theorem OA.nil (W : World) (z : Nat) : OA W z (.slice none 0 0) [] := World.ownsRow_nil _ _ _ _
theorem cell_of_ownA {W : World} {z n k : Nat} {t : TypeId} {b : Option Addr} {d : Nat} {xs : List Value} (h : W.ownsRow z t k (.slice b n d) n xs) (h0 : 0 < n) : ∃ g, b = some ⟨g, 0, none⟩ ∧ z ≤ g ∧ g < W.heap.size ∧ n ≤ d ∧ ∀ j u, xs[j]? = some u → W.cell? ⟨g, j, none⟩ = some u := by
  rcases h.2 with ⟨e, h2⟩ | ⟨g, cap, cur, e, hb, hh, hn, _⟩
  · omega
  · injection e with e1 e2 e3
    subst e1
    refine ⟨g, rfl, hb, (Array.getElem?_eq_some_iff.1 hh).1, by omega, fun j u hu => ?_⟩
    have := h.cells (g := g) rfl j u hu
    rwa [show ((⟨g, 0, none⟩ : Addr).add j) = ⟨g, j, none⟩ by unfold Addr.add; split <;> simp_all] at this
theorem OA.atts {W : World} {z n d : Nat} {b : Option Addr} {l : List Att} (h : OA W z (.slice b n d) l) (hok : ∀ v ∈ l, attOk v) (hl : l.length ≤ maxLen) : n = l.length ∧ AttsAt W (fun g => z ≤ g ∧ g < W.heap.size) b l := by
  have hn : n = l.length := by
    rcases h.2 with ⟨e, h2⟩ | ⟨g, cap, cur, e, _⟩
    · cases e; rw [h2]
    · cases e; rfl
  subst hn
  refine ⟨rfl, hl, hok, fun h0 => ?_⟩
  obtain ⟨g, rfl, hz, hg, hd, hc⟩ := cell_of_ownA h h0
  refine ⟨g, 0, rfl, ⟨hz, hg⟩, fun k hk => ?_⟩
  refine ⟨hc _ _ ?_, hc _ _ ?_, hc _ _ ?_, hc _ _ ?_⟩
  · rw [Nat.zero_add, show k * 4 = k * 4 + 0 from rfl, attCs_at l k 0 hk (by omega)]; rfl
  · rw [Nat.zero_add, attCs_at l k 1 hk (by omega)]; rfl
  · rw [Nat.zero_add, attCs_at l k 2 hk (by omega)]; rfl
  · rw [Nat.zero_add, attCs_at l k 3 hk (by omega)]; rfl
/-- Ranges of what is read. -/
theorem textS_len (most : Nat) (s : St) : (textS most s).1.length ≤ most := by
  have := numS_le most s
  unfold textS
  split
  · simp
  · simp only [List.length_take]; omega
theorem signS_rng (s : St) : -9223372036854775808 ≤ (signS s).1 ∧ (signS s).1 ≤ 9223372036854775807 := zag_ge (numS_le _ s)
theorem attS_ok (s : St) : attOk (attS s).1 := by
  unfold attS mapS thenS
  simp only
  refine ⟨?_, ?_, ?_⟩
  · have := textS_len 200 s
    simp only
    unfold maxLen
    omega
  · simp only
    unfold valS
    split
    · have := textS_len 200 (numS 1 (textS 200 s).2).2
      simp only [mapS]
      unfold maxLen
      omega
    · simp [mapS, maxLen]
  · show -9223372036854775808 ≤ _ ∧ _ ≤ _
    simp only
    unfold valS
    split
    · simp [mapS]
    · exact signS_rng _
theorem attsC_all : ∀ (n : Nat) (s : St), (∀ v ∈ (attsC n s).1, attOk v) ∧ (attsC n s).1.length = n
  | 0, s => ⟨by simp [attsC], rfl⟩
  | n + 1, s => by
    have h := attsC_all n (attS s).2
    have e : (attsC (n + 1) s).1 = (attS s).1 :: (attsC n (attS s).2).1 := rfl
    rw [e]
    refine ⟨fun v hv => ?_, by rw [List.length_cons, h.2]⟩
    rcases List.mem_cons.1 hv with rfl | hv
    · exact attS_ok s
    · exact h.1 v hv
theorem attsR_all : ∀ (n : Nat) (s : St), (∀ v ∈ (attsR n s).1, attOk v) ∧ (attsR n s).1.length ≤ n
  | 0, s => ⟨by simp [attsR], Nat.le_refl _⟩
  | n + 1, s => by
    by_cases hs : s.1 = 0
    · have h := attsR_all n (attS s).2
      have e : (attsR (n + 1) s).1 = (attS s).1 :: (attsR n (attS s).2).1 := by rw [attsR, if_pos hs]; rfl
      rw [e]
      refine ⟨fun v hv => ?_, by rw [List.length_cons]; omega⟩
      rcases List.mem_cons.1 hv with rfl | hv
      · exact attS_ok s
      · exact h.1 v hv
    · rw [attsR, if_neg hs]
      exact ⟨by simp, by simp⟩
theorem evS_rng {atts : Nat → St → List Att × St} (h : ∀ n s, ∀ v ∈ (atts n s).1, attOk v) (s : St) : evR (evS' atts s).1 :=
  ⟨numS_le 4294967295 _, fun v hv => (h _ _ v hv).2.2⟩
theorem msgC_rng (s : St) : evR (msgC s).1.ev := by
  have h0 : evR ev0 := ⟨Nat.zero_le _, by simp [ev0]⟩
  unfold msgC
  split
  · exact h0
  · split
    · exact h0
    · split
      · exact evS_rng (fun n s => (attsC_all n s).1) _
      · split
        · exact evS_rng (fun n s => (attsC_all n s).1) _
        · exact h0
theorem endS_rng (p : Msg × St) (h : evR p.1.ev) : evR (endS p).2.ev := by
  have h0 : evR msg0.ev := ⟨Nat.zero_le _, by simp [msg0, ev0]⟩
  unfold endS
  split
  · split
    · exact h
    · exact h0
  · exact h0
theorem read_rng (l : List UInt8) : evR (readM l).2.ev := by
  rw [← end_C]
  exact endS_rng _ (msgC_rng _)
/-- The attributes so far, and those to come. -/
theorem attsC_step (n : Nat) (s : St) : attsC (n + 1) s = ((attS s).1 :: (attsC n (attS s).2).1, (attsC n (attS s).2).2) := rfl
end Go.Proofs.Ytndgbdbjmogioaa.Wi
