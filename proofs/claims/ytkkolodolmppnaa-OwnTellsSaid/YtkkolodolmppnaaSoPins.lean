/-
  Contract of slices.partialInsertionSortOrdered at uint64: the row is permuted from a on, below b; where it answers yes, it is sorted there; nothing else is written.
-/
import Derived.Test.YtkkolodolmppnaaSoIns
import Derived.BigRegion
namespace Go.Proofs.Ytkkolodolmppnaa.So
open Go.RowKit
set_option linter.unusedVariables false

def PiO (w : World) (blk off a b : Nat) (d : Array Int) (vi vs : Value) (wr : World) : Prop :=
  ∃ (i s : Nat) (dk : Array Int), vi = .int .i64 i ∧ vs = .int .i64 s ∧ a < i ∧ i ≤ b ∧ s ≤ 5 ∧ Sort.PermIn a b d dk ∧ Sort.SortedIn Sort.ltInt a i dk ∧ SU w blk off dk wr
def PiS (w : World) (blk off a b i : Nat) (dk : Array Int) (vi : Value) (wr : World) : Prop :=
  ∃ i' : Nat, vi = .int .i64 i' ∧ i ≤ i' ∧ i' ≤ b ∧ Sort.SortedIn Sort.ltInt a i' dk ∧ SU w blk off dk wr
def PiD (w : World) (blk off a b i : Nat) (d : Array Int) (vj : Value) (wr : World) : Prop :=
  ∃ (j : Nat) (dj : Array Int), vj = .int .i64 j ∧ a ≤ j ∧ j + 1 ≤ i ∧ Sort.PermIn a b d dj ∧ Sort.Ins Sort.ltInt a j (i - 1) dj ∧ SU w blk off dj wr
def PiU (w : World) (blk off a b i : Nat) (d : Array Int) (vj : Value) (wr : World) : Prop :=
  ∃ (j : Nat) (dj : Array Int), vj = .int .i64 j ∧ i + 1 ≤ j ∧ j ≤ b ∧ Sort.PermIn a b d dj ∧ Sort.SortedIn Sort.ltInt a i dj ∧ SU w blk off dj wr
theorem ins_first {a i : Nat} {d : Array Int} (h : Sort.SortedIn Sort.ltInt a i d) (hi : a + 1 ≤ i) : Sort.Ins Sort.ltInt a (i - 1) (i - 1) (Sort.swp d i (i - 1)) :=
  ⟨fun p q h1 h2 h3 h4 h5 => by rw [Sort.swp_other _ _ _ _ (by omega) (by omega), Sort.swp_other _ _ _ _ (by omega) (by omega)]; exact h p q h1 h2 (by omega), fun q h1 h2 => absurd h2 (by omega)⟩
theorem ins_last {a i j : Nat} {d : Array Int} (h : Sort.Ins Sort.ltInt a j (i - 1) d) (hi : a + 1 ≤ i) (hs : j ≤ a ∨ Sort.ltInt d[j]! d[j - 1]! = false) : Sort.SortedIn Sort.ltInt a i d := by
  have := h.stop Sort.swo_ltInt hs
  rwa [show i - 1 + 1 = i by omega] at this
theorem ins_next {a i j : Nat} {d : Array Int} (h : Sort.Ins Sort.ltInt a j (i - 1) d) (hl : Sort.ltInt d[j]! d[j - 1]! = true) (haj : a < j) (hsz : j < d.size) : Sort.Ins Sort.ltInt a (j - 1) (i - 1) (Sort.swp d j (j - 1)) := by
  obtain ⟨k, rfl⟩ : ∃ k, j = k + 1 := ⟨j - 1, by omega⟩
  exact Sort.Ins.step h hl (by omega) hsz
/-- What moves down never passes a. -/
theorem ins_above {a b j : Nat} {d dj : Array Int} (hB : Sort.Below Sort.ltInt a b d) (hb : b ≤ d.size) (hP : Sort.PermIn a b d dj) (haj : a ≤ j) (hjb : j < b) (h1 : 1 ≤ j) (hl : Sort.ltInt dj[j]! dj[j - 1]! = true) : a < j := by
  rcases Nat.eq_or_lt_of_le haj with h | h
  · subst h
    rcases Sort.Below.permA Sort.permIn_all hb hB hP with h0 | h0
    · omega
    · rw [h0 a (Nat.le_refl _) hjb] at hl; cases hl
  · exact h
theorem sorted_one {a i : Nat} {d : Array Int} (h : i ≤ a + 1) : Sort.SortedIn Sort.ltInt a i d := fun p q h1 h2 h3 => absurd h3 (by omega)

set_option maxHeartbeats 8000000 in
set_option maxRecDepth 100000 in
theorem pins_any (blk off cap a b : Nat) (d : Array Int) (w : World) (hH : HU w blk off d) (hab : a < b) (hb : b ≤ d.size) (hB : Sort.Below Sort.ltInt a b d) (hsz : d.size < 1152921504606846976) :
    Calls Try.prog 49 #[.slice (some ⟨blk, off, none⟩) d.size cap, .int .i64 a, .int .i64 b] w fun e w' =>
      ∃ (ok : Bool) (d' : Array Int), e = .returned (.bool ok) ∧ Sort.PermIn a b d d' ∧ (ok = true → Sort.SortedIn Sort.ltInt a b d') ∧ SU w blk off d' w' := by
  have HH := Lib.hid (SU.start hH)
  have HB := Lib.hid hB
  clear hH hB
  go_enter Try.func49, Try.ntmps49
  go_wp2_with fail
  go_loopw [7, 8] (fun vi vs wr => PiO w blk off a b d vi vs wr) (fun _ vs _ => 5 - nOf vs)
  case atStart => exact ⟨a + 1, 0, d, by simp, by simp, by omega, by omega, by omega, Sort.permIn_refl _ _ _, sorted_one (Nat.le_refl _), HH.out⟩
  case round =>
    obtain ⟨i, s, dk, rfl, rfl, hai, hib, hs5, hP, hS, hU⟩ := hrel
    have HP := Lib.hid hP
    have HZ := Lib.hid hP.1
    have HS := Lib.hid hS
    have HU1 := Lib.hid hU
    clear hP hS hU HH
    by_cases hs : s < 5
    · have hs5z : (s : Int) < 5 := by omega
      go_wp2_with fail
      go_loopw [7] (fun vi wr => PiS w blk off a b i dk vi wr) (fun vi _ => b - nOf vi)
      case atStart => exact ⟨i, rfl, Nat.le_refl _, hib, HS.out, HU1.out⟩
      case round =>
        obtain ⟨i', rfl, hii, hib', hS2, hU2⟩ := hrel
        have HS2 := Lib.hid hS2
        have HU2 := Lib.hid hU2
        clear hS2 hU2 HU1 HS
        obtain ⟨G, hG⟩ : ∃ G : Nat → Int, ∀ t, G t = dk[t]! := ⟨fun t => dk[t]!, fun _ => rfl⟩
        have HG := Lib.hid hG
        have hcw : ∀ t, t < d.size → wr.cell? ⟨blk, off + t, none⟩ = some (.int .u64 (G t)) := fun t ht => by rw [HG.out]; exact HU2.out.c t (by rw [HZ.out]; exact ht)
        have hfw : ∀ t, t < d.size → wr.frozen? ⟨blk, off + t, none⟩ = false := fun t ht => HU2.out.f t (by rw [HZ.out]; exact ht)
        clear hG
        by_cases hlt : i' < b
        · have hnb : ¬ (i' : Int) = (b : Int) := by omega
          by_cases h50 : b - a < 50
          · have h50z : (b : Int) - (a : Int) < 50 := by omega
            go_wp2_with fail
            go_big_quiet (first | (go_at_call 50; refine Calls.quiet_of_same (less_any _ _ _)))
            go_wp2_with fail
            · have ht : (!Sort.ltInt (G i') (G (i' - 1))) = true := by assumption
              have hb2 : Sort.ltInt (G i') (G (i' - 1)) = false := by simpa using ht
              rw [HG.out, HG.out] at hb2
              have HN := Lib.hid (Sort.SortedIn.snoc Sort.swo_ltInt HS2.out hb2)
              have HU3 := Lib.hid (HU2.out.drewN nq)
              clear hb2
              go_wp2
              go_roundw
              case rel => first | exact ⟨i' + 1, by first | rfl | simp, by omega, by omega, HN.out, HU3.out⟩ | ((repeat apply Exists.intro); exact ⟨⟨i' + 1, by first | rfl | simp, by omega, by omega, HN.out, HU3.out⟩, rfl⟩)
              case measure => simp [nOf]; omega
            · have HU3 := Lib.hid (HU2.out.drewN nq)
              (try go_wp2_with fail)
              go_ret
              exact ⟨false, dk, rfl, HP.out, (fun h => by cases h), HU3.out⟩
          · have h50z : ¬ (b : Int) - (a : Int) < 50 := by omega
            go_wp2_with fail
            go_big_quiet (first | (go_at_call 50; refine Calls.quiet_of_same (less_any _ _ _)))
            go_wp2_with fail
            · have ht : (!Sort.ltInt (G i') (G (i' - 1))) = true := by assumption
              have hb2 : Sort.ltInt (G i') (G (i' - 1)) = false := by simpa using ht
              rw [HG.out, HG.out] at hb2
              have HN := Lib.hid (Sort.SortedIn.snoc Sort.swo_ltInt HS2.out hb2)
              have HU3 := Lib.hid (HU2.out.drewN nq)
              clear hb2
              go_wp2
              go_roundw
              case rel => first | exact ⟨i' + 1, by first | rfl | simp, by omega, by omega, HN.out, HU3.out⟩ | ((repeat apply Exists.intro); exact ⟨⟨i' + 1, by first | rfl | simp, by omega, by omega, HN.out, HU3.out⟩, rfl⟩)
              case measure => simp [nOf]; omega
            · have HU3 := Lib.hid (HU2.out.drewN nq)
              have hid : i' < d.size := by omega
              have hsw := HU3.out.swapped i' (i' - 1) (by rw [HZ.out]; omega) (by rw [HZ.out]; omega)
              rw [← HG.out, ← HG.out] at hsw
              have HW := Lib.hid hsw
              have hcw2 : ∀ t, t < d.size → (wr.drewN nq).cell? ⟨blk, off + t, none⟩ = some (.int .u64 (G t)) := hcw
              have hfw2 : ∀ t, t < d.size → (wr.drewN nq).frozen? ⟨blk, off + t, none⟩ = false := hfw
              clear hsw hcw hfw HU2
              generalize wr.drewN nq = W2 at hcw2 hfw2 HU3 HW ⊢
              by_cases hbi : i' + 2 ≤ b
              · have hbz : (b : Int) - (i' : Int) ≥ 2 := by omega
                by_cases h2 : a + 2 ≤ i'
                · have h2z : (i' : Int) - (a : Int) ≥ 2 := by omega
                  go_region
                  have HPS := Lib.hid (Sort.permIn_trans _ _ _ a b HP.out (Sort.swp_permIn dk a b i' (i' - 1) (by omega) hlt (by omega) (by omega) (by rw [HZ.out]; omega)))
                  have HIN := Lib.hid (ins_first HS2.out (by omega))
                  clear hcw2 hfw2 HG HU3 HS2
                  go_wp2_with fail
                  go_loopw [9] (fun vj wr => PiD w blk off a b i' d vj wr) (fun vj _ => nOf vj)
                  case atStart => exact ⟨i' - 1, _, by congr 1; omega, by omega, by omega, HPS.out, HIN.out, HW.out⟩
                  case round =>
                    obtain ⟨j, dj, rfl, haj, hji, hPj, hIj, hUj⟩ := hrel
                    have PJ := Lib.hid hPj
                    have IJ := Lib.hid hIj
                    have UJ := Lib.hid hUj
                    have ZJ := Lib.hid hPj.1
                    clear hPj hIj hUj HPS HIN HW
                    by_cases hj1 : 1 ≤ j
                    · have hj1z : (j : Int) ≥ 1 := by omega
                      obtain ⟨G, hG⟩ : ∃ G : Nat → Int, ∀ t, G t = dj[t]! := ⟨fun t => dj[t]!, fun _ => rfl⟩
                      have HG := Lib.hid hG
                      have hcw : ∀ t, t < d.size → wr.cell? ⟨blk, off + t, none⟩ = some (.int .u64 (G t)) := fun t ht => by rw [HG.out]; exact UJ.out.c t (by rw [ZJ.out]; exact ht)
                      have hfw : ∀ t, t < d.size → wr.frozen? ⟨blk, off + t, none⟩ = false := fun t ht => UJ.out.f t (by rw [ZJ.out]; exact ht)
                      clear hG
                      go_wp2_with fail
                      go_quiet (first | (go_at_call 50; refine Calls.quiet_of_same (less_any _ _ _)))
                      go_wp2_with fail
                      · have ht : (!Sort.ltInt (G j) (G (j - 1))) = true := by assumption
                        have hb2 : Sort.ltInt (G j) (G (j - 1)) = false := by simpa using ht
                        rw [HG.out, HG.out] at hb2
                        have SJ := Lib.hid (ins_last IJ.out (by omega) (Or.inr hb2))
                        have UK := Lib.hid (UJ.out.drewN nq)
                        clear hb2 ht hcw hfw UJ IJ HG
                        generalize wr.drewN nq = W4 at UK ⊢
                        (try go_wp2_with fail)
                        go_loopw [10] (fun vj wr => PiU w blk off a b i' d vj wr) (fun vj _ => b - nOf vj)
                        case atStart => exact ⟨i' + 1, dj, by simp, by omega, by omega, PJ.out, SJ.out, UK.out⟩
                        case round =>
                          obtain ⟨ju, du, rfl, hju1, hju2, hPu, hSu, hUu⟩ := hrel
                          have PU := Lib.hid hPu
                          have SO := Lib.hid hSu
                          have UU := Lib.hid hUu
                          have SZ := Lib.hid hPu.1
                          clear hPu hSu hUu
                          by_cases hjb : ju < b
                          · obtain ⟨G, hG⟩ : ∃ G : Nat → Int, ∀ t, G t = du[t]! := ⟨fun t => du[t]!, fun _ => rfl⟩
                            have HG := Lib.hid hG
                            have hcw : ∀ t, t < d.size → wr.cell? ⟨blk, off + t, none⟩ = some (.int .u64 (G t)) := fun t ht => by rw [HG.out]; exact UU.out.c t (by rw [SZ.out]; exact ht)
                            have hfw : ∀ t, t < d.size → wr.frozen? ⟨blk, off + t, none⟩ = false := fun t ht => UU.out.f t (by rw [SZ.out]; exact ht)
                            clear hG
                            have hjd : ju < d.size := by omega
                            have hjz : (ju : Int) < (b : Int) := by omega
                            go_wp2_with fail
                            go_quiet (first | (go_at_call 50; refine Calls.quiet_of_same (less_any _ _ _)))
                            go_wp2_with fail
                            · have ht : (!Sort.ltInt (G ju) (G (ju - 1))) = true := by assumption
                              have UE := Lib.hid (UU.out.drewN nq)
                              clear ht hcw hfw
                              (try go_wp2_with fail)
                              go_roundw
                              case rel => first | exact ⟨i', s + 1, du, rfl, by first | rfl | simp, by omega, by omega, by omega, PU.out, SO.out, UE.out⟩ | ((repeat apply Exists.intro); exact ⟨⟨i', s + 1, du, rfl, by first | rfl | simp, by omega, by omega, by omega, PU.out, SO.out, UE.out⟩, rfl⟩)
                              case measure => simp [nOf]; omega
                            · have hsw := (UU.out.drewN nq).swapped ju (ju - 1) (by rw [SZ.out]; omega) (by rw [SZ.out]; omega)
                              rw [← HG.out, ← HG.out] at hsw
                              have UE := Lib.hid hsw
                              have PE := Lib.hid (Sort.permIn_trans _ _ _ a b PU.out (Sort.swp_permIn du a b ju (ju - 1) (by omega) hjb (by omega) (by omega) (by rw [SZ.out]; omega)))
                              have SE := Lib.hid (Sort.SortedIn.congrA SO.out (d' := Sort.swp du ju (ju - 1)) (fun p hp => Sort.swp_other _ _ _ _ (by omega) (by omega)))
                              have hcw2 : ∀ t, t < d.size → (wr.drewN nq).cell? ⟨blk, off + t, none⟩ = some (.int .u64 (G t)) := hcw
                              have hfw2 : ∀ t, t < d.size → (wr.drewN nq).frozen? ⟨blk, off + t, none⟩ = false := hfw
                              clear hsw hcw hfw
                              generalize wr.drewN nq = W3 at hcw2 hfw2 UE ⊢
                              go_region
                              go_wp2
                              go_roundw
                              case rel => first | exact ⟨ju + 1, _, by first | rfl | simp, by omega, by omega, PE.out, SE.out, UE.out⟩ | ((repeat apply Exists.intro); exact ⟨⟨ju + 1, _, by first | rfl | simp, by omega, by omega, PE.out, SE.out, UE.out⟩, rfl⟩)
                              case measure => simp [nOf]; omega
                          · have hjz : ¬ (ju : Int) < (b : Int) := by omega
                            go_wp2_with fail
                            (try go_wp2_with fail)
                            go_roundw
                            case rel => first | exact ⟨i', s + 1, du, rfl, by first | rfl | simp, by omega, by omega, by omega, PU.out, SO.out, UU.out⟩ | ((repeat apply Exists.intro); exact ⟨⟨i', s + 1, du, rfl, by first | rfl | simp, by omega, by omega, by omega, PU.out, SO.out, UU.out⟩, rfl⟩)
                            case measure => simp [nOf]; omega
                      · have ht : (!Sort.ltInt (G j) (G (j - 1))) = false := by assumption
                        have hb2 : Sort.ltInt (G j) (G (j - 1)) = true := by simpa using ht
                        rw [HG.out, HG.out] at hb2
                        have hja := ins_above HB.out hb PJ.out haj (by omega) hj1 hb2
                        have IE := Lib.hid (ins_next IJ.out hb2 hja (by rw [ZJ.out]; omega))
                        have hsw := (UJ.out.drewN nq).swapped j (j - 1) (by rw [ZJ.out]; omega) (by rw [ZJ.out]; omega)
                        rw [← HG.out, ← HG.out] at hsw
                        have UE := Lib.hid hsw
                        have PE := Lib.hid (Sort.permIn_trans _ _ _ a b PJ.out (Sort.swp_permIn dj a b j (j - 1) (by omega) (by omega) (by omega) (by omega) (by rw [ZJ.out]; omega)))
                        have hcw2 : ∀ t, t < d.size → (wr.drewN nq).cell? ⟨blk, off + t, none⟩ = some (.int .u64 (G t)) := hcw
                        have hfw2 : ∀ t, t < d.size → (wr.drewN nq).frozen? ⟨blk, off + t, none⟩ = false := hfw
                        have hjd : j < d.size := by omega
                        clear hsw hcw hfw hb2 ht
                        generalize wr.drewN nq = W3 at hcw2 hfw2 UE ⊢
                        go_region
                        go_wp2
                        go_roundw
                        case rel => first | exact ⟨j - 1, _, by congr 1; omega, by omega, by omega, PE.out, IE.out, UE.out⟩ | ((repeat apply Exists.intro); exact ⟨⟨j - 1, _, by congr 1; omega, by omega, by omega, PE.out, IE.out, UE.out⟩, rfl⟩)
                        case measure => simp [nOf]; omega
                    · have SJ := Lib.hid (ins_last IJ.out (by omega) (Or.inl (by omega)))
                      have hj1z : ¬ (j : Int) ≥ 1 := by omega
                      go_wp2_with fail
                      (try go_wp2_with fail)
                      go_loopw [10] (fun vj wr => PiU w blk off a b i' d vj wr) (fun vj _ => b - nOf vj)
                      case atStart => exact ⟨i' + 1, dj, by simp, by omega, by omega, PJ.out, SJ.out, UJ.out⟩
                      case round =>
                        obtain ⟨ju, du, rfl, hju1, hju2, hPu, hSu, hUu⟩ := hrel
                        have PU := Lib.hid hPu
                        have SO := Lib.hid hSu
                        have UU := Lib.hid hUu
                        have SZ := Lib.hid hPu.1
                        clear hPu hSu hUu
                        by_cases hjb : ju < b
                        · obtain ⟨G, hG⟩ : ∃ G : Nat → Int, ∀ t, G t = du[t]! := ⟨fun t => du[t]!, fun _ => rfl⟩
                          have HG := Lib.hid hG
                          have hcw : ∀ t, t < d.size → wr.cell? ⟨blk, off + t, none⟩ = some (.int .u64 (G t)) := fun t ht => by rw [HG.out]; exact UU.out.c t (by rw [SZ.out]; exact ht)
                          have hfw : ∀ t, t < d.size → wr.frozen? ⟨blk, off + t, none⟩ = false := fun t ht => UU.out.f t (by rw [SZ.out]; exact ht)
                          clear hG
                          have hjd : ju < d.size := by omega
                          have hjz : (ju : Int) < (b : Int) := by omega
                          go_wp2_with fail
                          go_quiet (first | (go_at_call 50; refine Calls.quiet_of_same (less_any _ _ _)))
                          go_wp2_with fail
                          · have ht : (!Sort.ltInt (G ju) (G (ju - 1))) = true := by assumption
                            have UE := Lib.hid (UU.out.drewN nq)
                            clear ht hcw hfw
                            (try go_wp2_with fail)
                            go_roundw
                            case rel => first | exact ⟨i', s + 1, du, rfl, by first | rfl | simp, by omega, by omega, by omega, PU.out, SO.out, UE.out⟩ | ((repeat apply Exists.intro); exact ⟨⟨i', s + 1, du, rfl, by first | rfl | simp, by omega, by omega, by omega, PU.out, SO.out, UE.out⟩, rfl⟩)
                            case measure => simp [nOf]; omega
                          · have hsw := (UU.out.drewN nq).swapped ju (ju - 1) (by rw [SZ.out]; omega) (by rw [SZ.out]; omega)
                            rw [← HG.out, ← HG.out] at hsw
                            have UE := Lib.hid hsw
                            have PE := Lib.hid (Sort.permIn_trans _ _ _ a b PU.out (Sort.swp_permIn du a b ju (ju - 1) (by omega) hjb (by omega) (by omega) (by rw [SZ.out]; omega)))
                            have SE := Lib.hid (Sort.SortedIn.congrA SO.out (d' := Sort.swp du ju (ju - 1)) (fun p hp => Sort.swp_other _ _ _ _ (by omega) (by omega)))
                            have hcw2 : ∀ t, t < d.size → (wr.drewN nq).cell? ⟨blk, off + t, none⟩ = some (.int .u64 (G t)) := hcw
                            have hfw2 : ∀ t, t < d.size → (wr.drewN nq).frozen? ⟨blk, off + t, none⟩ = false := hfw
                            clear hsw hcw hfw
                            generalize wr.drewN nq = W3 at hcw2 hfw2 UE ⊢
                            go_region
                            go_wp2
                            go_roundw
                            case rel => first | exact ⟨ju + 1, _, by first | rfl | simp, by omega, by omega, PE.out, SE.out, UE.out⟩ | ((repeat apply Exists.intro); exact ⟨⟨ju + 1, _, by first | rfl | simp, by omega, by omega, PE.out, SE.out, UE.out⟩, rfl⟩)
                            case measure => simp [nOf]; omega
                        · have hjz : ¬ (ju : Int) < (b : Int) := by omega
                          go_wp2_with fail
                          (try go_wp2_with fail)
                          go_roundw
                          case rel => first | exact ⟨i', s + 1, du, rfl, by first | rfl | simp, by omega, by omega, by omega, PU.out, SO.out, UU.out⟩ | ((repeat apply Exists.intro); exact ⟨⟨i', s + 1, du, rfl, by first | rfl | simp, by omega, by omega, by omega, PU.out, SO.out, UU.out⟩, rfl⟩)
                          case measure => simp [nOf]; omega
                · have h2z : ¬ (i' : Int) - (a : Int) ≥ 2 := by omega
                  go_region
                  have HPS := Lib.hid (Sort.permIn_trans _ _ _ a b HP.out (Sort.swp_permIn dk a b i' (i' - 1) (by omega) hlt (by omega) (by omega) (by rw [HZ.out]; omega)))
                  have HIN := Lib.hid (ins_first HS2.out (by omega))
                  clear hcw2 hfw2 HG HU3 HS2
                  have SJ := Lib.hid (sorted_one (a := a) (i := i') (d := Sort.swp dk i' (i' - 1)) (by omega))
                  go_wp2_with fail
                  (try go_wp2_with fail)
                  go_loopw [10] (fun vj wr => PiU w blk off a b i' d vj wr) (fun vj _ => b - nOf vj)
                  case atStart => exact ⟨i' + 1, (Sort.swp dk i' (i' - 1)), by simp, by omega, by omega, HPS.out, SJ.out, HW.out⟩
                  case round =>
                    obtain ⟨ju, du, rfl, hju1, hju2, hPu, hSu, hUu⟩ := hrel
                    have PU := Lib.hid hPu
                    have SO := Lib.hid hSu
                    have UU := Lib.hid hUu
                    have SZ := Lib.hid hPu.1
                    clear hPu hSu hUu
                    by_cases hjb : ju < b
                    · obtain ⟨G, hG⟩ : ∃ G : Nat → Int, ∀ t, G t = du[t]! := ⟨fun t => du[t]!, fun _ => rfl⟩
                      have HG := Lib.hid hG
                      have hcw : ∀ t, t < d.size → wr.cell? ⟨blk, off + t, none⟩ = some (.int .u64 (G t)) := fun t ht => by rw [HG.out]; exact UU.out.c t (by rw [SZ.out]; exact ht)
                      have hfw : ∀ t, t < d.size → wr.frozen? ⟨blk, off + t, none⟩ = false := fun t ht => UU.out.f t (by rw [SZ.out]; exact ht)
                      clear hG
                      have hjd : ju < d.size := by omega
                      have hjz : (ju : Int) < (b : Int) := by omega
                      go_wp2_with fail
                      go_quiet (first | (go_at_call 50; refine Calls.quiet_of_same (less_any _ _ _)))
                      go_wp2_with fail
                      · have ht : (!Sort.ltInt (G ju) (G (ju - 1))) = true := by assumption
                        have UE := Lib.hid (UU.out.drewN nq)
                        clear ht hcw hfw
                        (try go_wp2_with fail)
                        go_roundw
                        case rel => first | exact ⟨i', s + 1, du, rfl, by first | rfl | simp, by omega, by omega, by omega, PU.out, SO.out, UE.out⟩ | ((repeat apply Exists.intro); exact ⟨⟨i', s + 1, du, rfl, by first | rfl | simp, by omega, by omega, by omega, PU.out, SO.out, UE.out⟩, rfl⟩)
                        case measure => simp [nOf]; omega
                      · have hsw := (UU.out.drewN nq).swapped ju (ju - 1) (by rw [SZ.out]; omega) (by rw [SZ.out]; omega)
                        rw [← HG.out, ← HG.out] at hsw
                        have UE := Lib.hid hsw
                        have PE := Lib.hid (Sort.permIn_trans _ _ _ a b PU.out (Sort.swp_permIn du a b ju (ju - 1) (by omega) hjb (by omega) (by omega) (by rw [SZ.out]; omega)))
                        have SE := Lib.hid (Sort.SortedIn.congrA SO.out (d' := Sort.swp du ju (ju - 1)) (fun p hp => Sort.swp_other _ _ _ _ (by omega) (by omega)))
                        have hcw2 : ∀ t, t < d.size → (wr.drewN nq).cell? ⟨blk, off + t, none⟩ = some (.int .u64 (G t)) := hcw
                        have hfw2 : ∀ t, t < d.size → (wr.drewN nq).frozen? ⟨blk, off + t, none⟩ = false := hfw
                        clear hsw hcw hfw
                        generalize wr.drewN nq = W3 at hcw2 hfw2 UE ⊢
                        go_region
                        go_wp2
                        go_roundw
                        case rel => first | exact ⟨ju + 1, _, by first | rfl | simp, by omega, by omega, PE.out, SE.out, UE.out⟩ | ((repeat apply Exists.intro); exact ⟨⟨ju + 1, _, by first | rfl | simp, by omega, by omega, PE.out, SE.out, UE.out⟩, rfl⟩)
                        case measure => simp [nOf]; omega
                    · have hjz : ¬ (ju : Int) < (b : Int) := by omega
                      go_wp2_with fail
                      (try go_wp2_with fail)
                      go_roundw
                      case rel => first | exact ⟨i', s + 1, du, rfl, by first | rfl | simp, by omega, by omega, by omega, PU.out, SO.out, UU.out⟩ | ((repeat apply Exists.intro); exact ⟨⟨i', s + 1, du, rfl, by first | rfl | simp, by omega, by omega, by omega, PU.out, SO.out, UU.out⟩, rfl⟩)
                      case measure => simp [nOf]; omega
              · have hbz : ¬ (b : Int) - (i' : Int) ≥ 2 := by omega
                by_cases h2 : a + 2 ≤ i'
                · have h2z : (i' : Int) - (a : Int) ≥ 2 := by omega
                  go_region
                  have HPS := Lib.hid (Sort.permIn_trans _ _ _ a b HP.out (Sort.swp_permIn dk a b i' (i' - 1) (by omega) hlt (by omega) (by omega) (by rw [HZ.out]; omega)))
                  have HIN := Lib.hid (ins_first HS2.out (by omega))
                  clear hcw2 hfw2 HG HU3 HS2
                  go_wp2_with fail
                  go_loopw [9] (fun vj wr => PiD w blk off a b i' d vj wr) (fun vj _ => nOf vj)
                  case atStart => exact ⟨i' - 1, _, by congr 1; omega, by omega, by omega, HPS.out, HIN.out, HW.out⟩
                  case round =>
                    obtain ⟨j, dj, rfl, haj, hji, hPj, hIj, hUj⟩ := hrel
                    have PJ := Lib.hid hPj
                    have IJ := Lib.hid hIj
                    have UJ := Lib.hid hUj
                    have ZJ := Lib.hid hPj.1
                    clear hPj hIj hUj HPS HIN HW
                    by_cases hj1 : 1 ≤ j
                    · have hj1z : (j : Int) ≥ 1 := by omega
                      obtain ⟨G, hG⟩ : ∃ G : Nat → Int, ∀ t, G t = dj[t]! := ⟨fun t => dj[t]!, fun _ => rfl⟩
                      have HG := Lib.hid hG
                      have hcw : ∀ t, t < d.size → wr.cell? ⟨blk, off + t, none⟩ = some (.int .u64 (G t)) := fun t ht => by rw [HG.out]; exact UJ.out.c t (by rw [ZJ.out]; exact ht)
                      have hfw : ∀ t, t < d.size → wr.frozen? ⟨blk, off + t, none⟩ = false := fun t ht => UJ.out.f t (by rw [ZJ.out]; exact ht)
                      clear hG
                      go_wp2_with fail
                      go_quiet (first | (go_at_call 50; refine Calls.quiet_of_same (less_any _ _ _)))
                      go_wp2_with fail
                      · have ht : (!Sort.ltInt (G j) (G (j - 1))) = true := by assumption
                        have hb2 : Sort.ltInt (G j) (G (j - 1)) = false := by simpa using ht
                        rw [HG.out, HG.out] at hb2
                        have SJ := Lib.hid (ins_last IJ.out (by omega) (Or.inr hb2))
                        have UK := Lib.hid (UJ.out.drewN nq)
                        clear hb2 ht hcw hfw UJ IJ HG
                        generalize wr.drewN nq = W4 at UK ⊢
                        (try go_wp2_with fail)
                        go_roundw
                        case rel => first | exact ⟨i', s + 1, dj, rfl, by first | rfl | simp, by omega, by omega, by omega, PJ.out, SJ.out, UK.out⟩ | ((repeat apply Exists.intro); exact ⟨⟨i', s + 1, dj, rfl, by first | rfl | simp, by omega, by omega, by omega, PJ.out, SJ.out, UK.out⟩, rfl⟩)
                        case measure => simp [nOf]; omega
                      · have ht : (!Sort.ltInt (G j) (G (j - 1))) = false := by assumption
                        have hb2 : Sort.ltInt (G j) (G (j - 1)) = true := by simpa using ht
                        rw [HG.out, HG.out] at hb2
                        have hja := ins_above HB.out hb PJ.out haj (by omega) hj1 hb2
                        have IE := Lib.hid (ins_next IJ.out hb2 hja (by rw [ZJ.out]; omega))
                        have hsw := (UJ.out.drewN nq).swapped j (j - 1) (by rw [ZJ.out]; omega) (by rw [ZJ.out]; omega)
                        rw [← HG.out, ← HG.out] at hsw
                        have UE := Lib.hid hsw
                        have PE := Lib.hid (Sort.permIn_trans _ _ _ a b PJ.out (Sort.swp_permIn dj a b j (j - 1) (by omega) (by omega) (by omega) (by omega) (by rw [ZJ.out]; omega)))
                        have hcw2 : ∀ t, t < d.size → (wr.drewN nq).cell? ⟨blk, off + t, none⟩ = some (.int .u64 (G t)) := hcw
                        have hfw2 : ∀ t, t < d.size → (wr.drewN nq).frozen? ⟨blk, off + t, none⟩ = false := hfw
                        have hjd : j < d.size := by omega
                        clear hsw hcw hfw hb2 ht
                        generalize wr.drewN nq = W3 at hcw2 hfw2 UE ⊢
                        go_region
                        go_wp2
                        go_roundw
                        case rel => first | exact ⟨j - 1, _, by congr 1; omega, by omega, by omega, PE.out, IE.out, UE.out⟩ | ((repeat apply Exists.intro); exact ⟨⟨j - 1, _, by congr 1; omega, by omega, by omega, PE.out, IE.out, UE.out⟩, rfl⟩)
                        case measure => simp [nOf]; omega
                    · have SJ := Lib.hid (ins_last IJ.out (by omega) (Or.inl (by omega)))
                      have hj1z : ¬ (j : Int) ≥ 1 := by omega
                      go_wp2_with fail
                      (try go_wp2_with fail)
                      go_roundw
                      case rel => first | exact ⟨i', s + 1, dj, rfl, by first | rfl | simp, by omega, by omega, by omega, PJ.out, SJ.out, UJ.out⟩ | ((repeat apply Exists.intro); exact ⟨⟨i', s + 1, dj, rfl, by first | rfl | simp, by omega, by omega, by omega, PJ.out, SJ.out, UJ.out⟩, rfl⟩)
                      case measure => simp [nOf]; omega
                · exfalso; omega
        · obtain rfl : i' = b := by omega
          go_wp2_with fail
          go_big_quiet (first | (go_at_call 50; refine Calls.quiet_of_same (less_any _ _ _)))
          go_wp2_with fail
          go_ret
          exact ⟨true, dk, rfl, HP.out, fun _ => HS2.out, HU2.out.drewN nq⟩
    · have HU2 := HU1
      have hs5z : ¬ (s : Int) < 5 := by omega
      go_wp2_with fail
      go_ret
      first | exact ⟨false, dk, rfl, HP.out, (fun h => by cases h), HU2.out⟩ | exact Or.inl ⟨rfl, dk, HP.out, HU2.out⟩
end Go.Proofs.Ytkkolodolmppnaa.So
