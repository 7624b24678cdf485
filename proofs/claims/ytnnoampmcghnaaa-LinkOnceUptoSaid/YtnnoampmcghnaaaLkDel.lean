/-
  Contract of slices.Delete at slices of bytes, of the first ones of a row of a call's own. All else is left as it was.
-/
import Derived.Test.YtnnoampmcghnaaaLkMem
import Derived.Deep.RegionLaw
import Derived.Lib.SliceRun
import Derived.IntWalk
namespace Go.Proofs.Ytnnoampmcghnaaa.Lk
open Go.RowKit Go.Proofs.Ytnnoampmcghnaaa.Fl Go.Proofs.Ytnnoampmcghnaaa.Wi Go.Proofs.Ytnnoampmcghnaaa.Fr
set_option linter.unusedVariables false
set_option linter.unusedSimpArgs false
set_option maxHeartbeats 4000000
set_option maxRecDepth 100000
theorem set_cells {g : Nat} {t : TypeId} : ∀ (vs : List Value) (o : Nat) {W : World} {cur : Array Value}, Bq W g t cur → o + vs.length ≤ cur.size → ∃ cur', Bq (W.setCells g o vs) g t cur' ∧ cur'.size = cur.size ∧ ∀ j, cur'[j]? = if o ≤ j ∧ j < o + vs.length then vs[j - o]? else cur[j]?
  | [], o, W, cur, h, _ => ⟨cur, h, rfl, fun j => by rw [if_neg (by rintro ⟨h1, h2⟩; simp at h2; omega)]⟩
  | v :: r, o, W, cur, h, hl => by
    simp only [List.length_cons] at hl ⊢
    obtain ⟨cur', h1, h2, h3⟩ := set_cells r (o + 1) (h.set o v) (by simp; omega)
    refine ⟨cur', h1, by simpa using h2, fun j => ?_⟩
    rw [h3 j]
    by_cases c1 : o + 1 ≤ j ∧ j < o + 1 + r.length
    · rw [if_pos c1, if_pos (by omega), show j - o = (j - (o + 1)) + 1 by omega, List.getElem?_cons_succ]
    · rw [if_neg c1]
      by_cases c2 : j = o
      · subst c2
        rw [if_pos (by omega), Nat.sub_self, List.getElem?_cons_zero, Array.getElem?_setIfInBounds_self_of_lt (by omega)]
      · rw [if_neg (by omega), Array.getElem?_setIfInBounds_ne (fun e => c2 e.symm)]
theorem Lv.sets {X : Nat → Prop} {a : World} {g : Nat} (hp : X g ∨ a.heap.size ≤ g) : ∀ (vs : List Value) (o : Nat) {b : World}, Lv X a b → Lv X a (b.setCells g o vs)
  | [], o, b, h => h
  | v :: r, o, b, h => Lv.sets hp r (o + 1) (h.set g o v hp)
theorem delete_any {z g n cap : Nat} {cs : List Value} (k : Nat) (w : World) (h : OS w z (.slice (some ⟨g, 0, none⟩) n cap) cs) (h0 : 0 < k) (hk : k ≤ cs.length) (hl : cs.length ≤ 100000000) (h1c : ∀ u ∈ cs, u.oneCell' = true) :
    Calls Try.prog 22 #[.slice (some ⟨g, 0, none⟩) n cap, .int .i64 0, .int .i64 (k : Int)] w fun e w' => e = .returned (.slice (some ⟨g, 0, none⟩) (n - k) cap) ∧ OS w' z (.slice (some ⟨g, 0, none⟩) (n - k) cap) (cs.drop k) ∧ Lv (fun x => x = g) w w' := by
  have t22 := Try.underlying33
  obtain ⟨i0, hi, hz0, hz1, hz2⟩ := info_parts infoS
  rcases h.2 with ⟨e, _⟩ | ⟨g', cap', cur, e, hzg, hh, hnc, hcm, hcs, htake⟩
  · cases e
  · simp only [Value.slice.injEq, Option.some.injEq, Addr.mk.injEq, and_true] at e
    obtain ⟨e1, hn, e2⟩ := e
    subst e1 e2
    have hq : Bq w g 38 cur := hh
    have hsz : cur.size = cap := by omega
    have hget : ∀ j, j < n → cur[j]? = cs[j]? := fun j hj => by
      rw [← htake, List.getElem?_take_of_lt (by omega), Array.getElem?_toList]
    obtain ⟨news, hnews⟩ : ∃ news, news = cs.drop k := ⟨_, rfl⟩
    have hlen : news.length = (n - k) * 1 := by rw [hnews, List.length_drop]; omega
    obtain ⟨A, hA, hsrc⟩ : ∃ A : Addr, (if cap = k then some (⟨g, 0, none⟩ : Addr) else some ⟨g, k, none⟩) = some A ∧ Hid (∀ t u, news[t]? = some u → w.drew.cell? (A.add t) = some u) := by
      by_cases h : cap = k
      · refine ⟨⟨g, 0, none⟩, by simp [h], fun t u hu => ?_⟩
        have h0 : news.length = 0 := by rw [hlen]; omega
        rw [List.length_eq_zero_iff.1 h0] at hu
        simp at hu
      · refine ⟨⟨g, k, none⟩, by simp [h], fun t u hu => ?_⟩
        have ht : t < news.length := (List.getElem?_eq_some_iff.1 hu).1
        rw [hnews, List.getElem?_drop, ← hget (k + t) (by omega)] at hu
        rw [Addr.add_lit]
        show w.cell? ⟨g, k + t, none⟩ = some u
        unfold Bq at hq
        simp [World.cell?, hq, hu]
    have s2 : Hid (∀ u ∈ news, u.oneCell' = true) := fun u hu => h1c u (by rw [hnews] at hu; exact List.mem_of_mem_drop hu)
    have hcell : ∀ {W : World} {c : Array Value}, Bq W g 38 c → ∀ t, t < c.size → (W.cell? ⟨g, t, none⟩).isSome = true := fun {W c} hb t ht => by
      unfold Bq at hb
      simp [World.cell?, hb, ht]
    have s3 : Hid (∀ t, t < news.length → (w.drew.cell? ⟨g, 0 + 0 * 1 + t, none⟩).isSome = true ∧ w.drew.frozen? ⟨g, 0 + 0 * 1 + t, none⟩ = false) := by
      intro t ht
      rw [show 0 + 0 * 1 + t = t by omega]
      exact ⟨hcell (W := w.drew) hq t (by omega), Bq.fr (W := w.drew) hq t⟩
    obtain ⟨W1, hW1⟩ : ∃ W1, W1 = w.drew.setCells g (0 + 0 * 1) news := ⟨_, rfl⟩
    obtain ⟨cur1, hq1, hs1, hg1⟩ := set_cells news (0 + 0 * 1) (show Bq w.drew g 38 cur from hq) (by omega)
    rw [← hW1] at hq1
    have L1 := Lib.hid (show Lv (fun x => x = g) w W1 by rw [hW1]; exact Lv.sets (X := fun x => x = g) (Or.inl rfl) _ _ (Lv.refl _ w).drew)
    have hcl : ∀ ty, (Builtin.clear_ #[33] ty #[.slice (some ⟨g, n - k, none⟩) (n - (n - k)) (cap - (n - k))]).run Try.prog W1 = .ok (.tuple #[]) (W1.setCells g (n - k) (List.replicate (n - (n - k)) (.slice none 0 0))) :=
      fun ty => Lib.run_clear_slice W1 _ _ ty _ t22 (by intro w; simp [zeroValue, typeInfo, hi, hz0]) rfl rfl g (n - k) _ _ (by omega) (fun t ht => hcell hq1 _ (by omega)) (fun t ht => Bq.fr hq1 _)
    obtain ⟨cur2, hq2, hs2, hg2⟩ := set_cells (List.replicate (n - (n - k)) (.slice none 0 0)) (n - k) hq1 (by simp; omega)
    have HO := Lib.hid (show OS (W1.setCells g (n - k) (List.replicate (n - (n - k)) (.slice none 0 0))) z (.slice (some ⟨g, 0, none⟩) (n - k) cap) (cs.drop k) by
      refine ⟨by rw [List.length_drop]; omega, Or.inr ⟨g, cap, cur2, by rw [List.length_drop, ← hn], hzg, hq2, by rw [List.length_drop]; omega, hcm, by omega, ?_⟩⟩
      apply List.ext_getElem?
      intro j
      rw [List.length_drop, ← hn, Nat.mul_one, List.getElem?_take]
      by_cases hj : j < n - k
      · rw [if_pos hj, Array.getElem?_toList, hg2 j, if_neg (by omega), hg1 j, if_pos (by rw [hlen]; omega), hnews]
        rw [show j - (0 + 0 * 1) = j by omega]
      · rw [if_neg hj, List.getElem?_eq_none (by rw [List.length_drop]; omega)])
    have HL2 := Lib.hid (Lv.sets (X := fun x => x = g) (a := w) (g := g) (Or.inl rfl) (List.replicate (n - (n - k)) (.slice none 0 0)) (n - k) L1.out)
    have hW : Hid (W1 = w.drew.setCells g (0 + 0 * 1) news) := hW1
    have S1 := Lib.hid hlen
    have hkc : k ≤ cap := by omega
    have hkn : k ≤ n := by omega
    have hnc9 : n ≤ cap := by omega
    have hne : ¬ (0 : Int) = (k : Int) := by omega
    have hcm2 : cap ≤ 9223372036854775807 := hcm
    clear hn hnc hcm hW1 hq hq1 hq2 hg1 hg2 hs1 hs2 hget hlen hcs htake hh h hcell hnews hk hsz hl
    go_enter Try.func22, Try.ntmps22
    go_wp2_with fail
    go_region_law (refine step_append_room rfl (.tmp 22) (.tmp 25) 33 rfl 38 i0 1 t22 hi hz1 g 0 0 cap (by simp [Act.eval, Act.put]) A (n - k) (cap - k) news (by simp [Act.eval, Act.put]) S1.out hsrc.out s2.out (by omega) s3.out ?_; rw [← hW.out])
    go_wp2_with fail
    go_ret
    exact ⟨rfl, HO.out, HL2.out⟩
end Go.Proofs.Ytnnoampmcghnaaa.Lk
