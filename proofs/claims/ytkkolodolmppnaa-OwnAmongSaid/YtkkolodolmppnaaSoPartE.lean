/-
  Contract of slices.partitionEqualOrdered at uint64: all up to the place that it answers isn't greater than the pivot, all from it on is.
-/
import Derived.Test.YtkkolodolmppnaaSoPt
namespace Go.Proofs.Ytkkolodolmppnaa.So
open Go.RowKit
set_option linter.unusedVariables false

set_option maxHeartbeats 4000000 in
theorem partE_any (blk off cap a b pivot : Nat) (d : Array Int) (w : World) (hH : HU w blk off d) (hap : a ≤ pivot) (hpb : pivot < b) (hb : b ≤ d.size) (hsz : d.size < 1152921504606846976) :
    Calls Try.prog 51 #[.slice (some ⟨blk, off, none⟩) d.size cap, .int .i64 a, .int .i64 b, .int .i64 pivot] w fun e w' =>
      ∃ (mid : Nat) (d' : Array Int), e = .returned (.int .i64 mid) ∧ a < mid ∧ mid ≤ b ∧ Sort.PermIn a b d d' ∧ (∀ t, a ≤ t → t < mid → lowE d[pivot]! d'[t]! = true) ∧ (∀ t, mid ≤ t → t < b → lowE d[pivot]! d'[t]! = false) ∧ SU w blk off d' w' := by
  have HH := Lib.hid (SU.start hH)
  obtain ⟨G0, hG0⟩ : ∃ G : Nat → Int, ∀ t, G t = d[t]! := ⟨fun t => d[t]!, fun _ => rfl⟩
  rw [← hG0 pivot]
  have hcw : ∀ t, t < d.size → w.cell? ⟨blk, off + t, none⟩ = some (.int .u64 (G0 t)) := fun t ht => by rw [hG0]; exact HH.out.c t ht
  have hfw : ∀ t, t < d.size → w.frozen? ⟨blk, off + t, none⟩ = false := fun t ht => HH.out.f t ht
  have HG0 := Lib.hid hG0
  clear hG0 hH
  have hpd : pivot < d.size := by omega
  have had : a < d.size := by omega
  go_enter Try.func51, Try.ntmps51
  by_cases hpe : a = pivot
  · subst hpe
    have hsw := HH.out.swapped a a (by omega) (by omega)
    have hS := Pt.start lowE (pv := a) hap hpb hb hsw
    rw [← HG0.out] at hS
    have HP0 := Lib.hid hS
    clear hsw hS
    skip
    go_wp2_with fail
    go_region
    go_wp2_with fail
    clear hcw hfw HG0 HH
    go_loopw [9, 10] (fun vi vj wr => LoR lowE w blk off a b d (G0 a) vi vj wr) (fun vi vj _ => ijOf vi vj)
    case atStart => exact ⟨a + 1, b - 1, _, by simp, by congr 1; omega, by omega, by omega, by omega, HP0.out⟩
    case round =>
      obtain ⟨i, j, dk, rfl, rfl, hai, hij, hjb, hP⟩ := hrel
      have HP := Lib.hid hP
      obtain ⟨G, hG⟩ : ∃ G : Nat → Int, ∀ t, G t = dk[t]! := ⟨fun t => dk[t]!, fun _ => rfl⟩
      have HG := Lib.hid hG
      clear hP hG HP0
      (try go_wp2_with fail)
      go_loopw [9] (fun vi wr => UpR lowE w blk off a b d (G0 a) i j dk vi wr) (fun vi _ => j + 1 - nOf vi)
      case atStart => exact ⟨i, rfl, Nat.le_refl _, hij, HP.out⟩
      case round =>
        obtain ⟨i', rfl, hii, hij', hPu⟩ := hrel
        have HU1 := Lib.hid hPu
        clear hPu HP
        have hcw : ∀ t, t < d.size → wr.cell? ⟨blk, off + t, none⟩ = some (.int .u64 (G t)) := fun t ht => by rw [HG.out]; exact HU1.out.su.c t (by rw [HU1.out.size]; exact ht)
        have hfw : ∀ t, t < d.size → wr.frozen? ⟨blk, off + t, none⟩ = false := fun t ht => HU1.out.su.f t (by rw [HU1.out.size]; exact ht)
        by_cases hle : i' ≤ j
        · go_wp2_with fail
          go_big_quiet (first | (go_at_call 50; refine Calls.quiet_of_same (less_any _ _ _)))
          go_wp2_with fail
          · have ht : (!Sort.ltInt (G a) (G i')) = true := by assumption
            have hb : lowE (G a) (G i') = true := by simpa [lowE] using ht
            rw [HG.out, HG.out] at hb
            have HD := Lib.hid ((HU1.out.up hb).drewN nq)
            clear hb
            go_wp2
            go_roundw
            case rel => exact ⟨i' + 1, by simp, by omega, by omega, HD.out⟩
            case measure => simp [nOf]; omega
          · have ht : (!Sort.ltInt (G a) (G i')) = false := by assumption
            have hb : lowE (G a) (G i') = false := by simpa [lowE] using ht
            rw [HG.out, HG.out] at hb
            have HLI := Lib.hid hb
            clear hb ht
            have HP1 := Lib.hid (HU1.out.drewN nq)
            clear hcw hfw HU1
            generalize wr.drewN nq = W2 at HP1 ⊢
            go_loopw [10] (fun vj wr => DnR lowE w blk off a b d (G0 a) i' j dk vj wr) (fun vj _ => nOf vj)
            case atStart => exact ⟨j, rfl, Nat.le_refl _, hij', HP1.out⟩
            case round =>
              obtain ⟨j', rfl, hjj, hij2, hP2⟩ := hrel
              have HP2 := Lib.hid hP2
              clear hP2 HP1
              have hcw : ∀ t, t < d.size → wr.cell? ⟨blk, off + t, none⟩ = some (.int .u64 (G t)) := fun t ht => by rw [HG.out]; exact HP2.out.su.c t (by rw [HP2.out.size]; exact ht)
              have hfw : ∀ t, t < d.size → wr.frozen? ⟨blk, off + t, none⟩ = false := fun t ht => HP2.out.su.f t (by rw [HP2.out.size]; exact ht)
              by_cases hle2 : i' ≤ j'
              · go_wp2_with fail
                go_big_quiet (first | (go_at_call 50; refine Calls.quiet_of_same (less_any _ _ _)))
                go_wp2_with fail
                · have ht : Sort.ltInt (G a) (G j') = true := by assumption
                  have hb : lowE (G a) (G j') = false := by simpa [lowE] using ht
                  rw [HG.out, HG.out] at hb
                  have HD := Lib.hid ((HP2.out.down (by omega) hb).drewN nq)
                  clear hb
                  go_wp2
                  go_roundw
                  case rel => exact ⟨j' - 1, by congr 1; omega, by omega, by omega, HD.out⟩
                  case measure => simp [nOf]; omega
                · have ht : Sort.ltInt (G a) (G j') = false := by assumption
                  have hb : lowE (G a) (G j') = true := by simpa [lowE] using ht
                  rw [HG.out, HG.out] at hb
                  have HLJ := Lib.hid hb
                  have hlt := Pt.lt HLI.out HLJ.out hle2
                  clear hb ht
                  have HP3 := Lib.hid (HP2.out.drewN nq)
                  clear hcw hfw HP2
                  generalize wr.drewN nq = W3 at HP3 ⊢
                  have hcw : ∀ t, t < d.size → W3.cell? ⟨blk, off + t, none⟩ = some (.int .u64 (G t)) := fun t ht => by rw [HG.out]; exact HP3.out.su.c t (by rw [HP3.out.size]; exact ht)
                  have hfw : ∀ t, t < d.size → W3.frozen? ⟨blk, off + t, none⟩ = false := fun t ht => HP3.out.su.f t (by rw [HP3.out.size]; exact ht)
                  have hsw := HP3.out.su.swapped i' j' (by rw [HP3.out.size]; omega) (by rw [HP3.out.size]; omega)
                  have hS := HP3.out.swap HLI.out HLJ.out (by omega) hlt (by omega) hb hsw
                  rw [← HG.out, ← HG.out] at hS
                  have HS := Lib.hid hS
                  clear hsw hS
                  go_wp2_with fail
                  go_region
                  go_wp2_with fail
                  go_roundw
                  case rel => exact ⟨i' + 1, j' - 1, _, by simp, by congr 1; omega, by omega, by omega, by omega, HS.out⟩
                  case measure => simp [ijOf]; omega
              · go_wp2_with fail
                go_big_quiet (first | (go_at_call 50; refine Calls.quiet_of_same (less_any _ _ _)))
                have HP3 := Lib.hid (HP2.out.drewN nq)
                clear hcw hfw HP2
                generalize wr.drewN nq = W3 at HP3 ⊢
                go_wp2_with fail
                go_ret
                refine ⟨i', dk, rfl, by omega, by omega, HP3.out.1, fun t h1 h2 => ?_, fun t h1 h2 => HP3.out.2.2.2.1 t (by omega) h2, HP3.out.su⟩
                rcases Nat.eq_or_lt_of_le h1 with h3 | h3
                · rw [← h3, HP3.out.2.1]; simp [lowE, Sort.ltInt]
                · exact HP3.out.2.2.1 t h3 h2
        · go_wp2_with fail
          go_big_quiet (first | (go_at_call 50; refine Calls.quiet_of_same (less_any _ _ _)))
          go_wp2_with fail
          have HP1 := Lib.hid (HU1.out.drewN nq)
          clear hcw hfw HU1
          generalize wr.drewN nq = W2 at HP1 ⊢
          go_loopw [10] (fun vj wr => DnR lowE w blk off a b d (G0 a) i' j dk vj wr) (fun vj _ => nOf vj)
          case atStart => exact ⟨j, rfl, Nat.le_refl _, hij', HP1.out⟩
          case round =>
            obtain ⟨j', rfl, hjj, hij2, hP2⟩ := hrel
            have HP2 := Lib.hid hP2
            clear hP2 HP1
            have hcw : ∀ t, t < d.size → wr.cell? ⟨blk, off + t, none⟩ = some (.int .u64 (G t)) := fun t ht => by rw [HG.out]; exact HP2.out.su.c t (by rw [HP2.out.size]; exact ht)
            have hfw : ∀ t, t < d.size → wr.frozen? ⟨blk, off + t, none⟩ = false := fun t ht => HP2.out.su.f t (by rw [HP2.out.size]; exact ht)
            by_cases hle2 : i' ≤ j'
            · exfalso; omega
            · go_wp2_with fail
              go_big_quiet (first | (go_at_call 50; refine Calls.quiet_of_same (less_any _ _ _)))
              have HP3 := Lib.hid (HP2.out.drewN nq)
              clear hcw hfw HP2
              generalize wr.drewN nq = W3 at HP3 ⊢
              go_wp2_with fail
              go_ret
              refine ⟨i', dk, rfl, by omega, by omega, HP3.out.1, fun t h1 h2 => ?_, fun t h1 h2 => HP3.out.2.2.2.1 t (by omega) h2, HP3.out.su⟩
              rcases Nat.eq_or_lt_of_le h1 with h3 | h3
              · rw [← h3, HP3.out.2.1]; simp [lowE, Sort.ltInt]
              · exact HP3.out.2.2.1 t h3 h2
  · skip
    have hsw := HH.out.swapped a pivot (by omega) (by omega)
    have hS := Pt.start lowE (pv := pivot) hap hpb hb hsw
    rw [← HG0.out, ← HG0.out] at hS
    have HP0 := Lib.hid hS
    clear hsw hS
    skip
    go_wp2_with fail
    go_region
    go_wp2_with fail
    clear hcw hfw HG0 HH
    go_loopw [9, 10] (fun vi vj wr => LoR lowE w blk off a b d (G0 pivot) vi vj wr) (fun vi vj _ => ijOf vi vj)
    case atStart => exact ⟨a + 1, b - 1, _, by simp, by congr 1; omega, by omega, by omega, by omega, HP0.out⟩
    case round =>
      obtain ⟨i, j, dk, rfl, rfl, hai, hij, hjb, hP⟩ := hrel
      have HP := Lib.hid hP
      obtain ⟨G, hG⟩ : ∃ G : Nat → Int, ∀ t, G t = dk[t]! := ⟨fun t => dk[t]!, fun _ => rfl⟩
      have HG := Lib.hid hG
      clear hP hG HP0
      (try go_wp2_with fail)
      go_loopw [9] (fun vi wr => UpR lowE w blk off a b d (G0 pivot) i j dk vi wr) (fun vi _ => j + 1 - nOf vi)
      case atStart => exact ⟨i, rfl, Nat.le_refl _, hij, HP.out⟩
      case round =>
        obtain ⟨i', rfl, hii, hij', hPu⟩ := hrel
        have HU1 := Lib.hid hPu
        clear hPu HP
        have hcw : ∀ t, t < d.size → wr.cell? ⟨blk, off + t, none⟩ = some (.int .u64 (G t)) := fun t ht => by rw [HG.out]; exact HU1.out.su.c t (by rw [HU1.out.size]; exact ht)
        have hfw : ∀ t, t < d.size → wr.frozen? ⟨blk, off + t, none⟩ = false := fun t ht => HU1.out.su.f t (by rw [HU1.out.size]; exact ht)
        by_cases hle : i' ≤ j
        · go_wp2_with fail
          go_big_quiet (first | (go_at_call 50; refine Calls.quiet_of_same (less_any _ _ _)))
          go_wp2_with fail
          · have ht : (!Sort.ltInt (G a) (G i')) = true := by assumption
            have hb : lowE (G a) (G i') = true := by simpa [lowE] using ht
            rw [HG.out, HG.out] at hb
            have HD := Lib.hid ((HU1.out.up hb).drewN nq)
            clear hb
            go_wp2
            go_roundw
            case rel => exact ⟨i' + 1, by simp, by omega, by omega, HD.out⟩
            case measure => simp [nOf]; omega
          · have ht : (!Sort.ltInt (G a) (G i')) = false := by assumption
            have hb : lowE (G a) (G i') = false := by simpa [lowE] using ht
            rw [HG.out, HG.out] at hb
            have HLI := Lib.hid hb
            clear hb ht
            have HP1 := Lib.hid (HU1.out.drewN nq)
            clear hcw hfw HU1
            generalize wr.drewN nq = W2 at HP1 ⊢
            go_loopw [10] (fun vj wr => DnR lowE w blk off a b d (G0 pivot) i' j dk vj wr) (fun vj _ => nOf vj)
            case atStart => exact ⟨j, rfl, Nat.le_refl _, hij', HP1.out⟩
            case round =>
              obtain ⟨j', rfl, hjj, hij2, hP2⟩ := hrel
              have HP2 := Lib.hid hP2
              clear hP2 HP1
              have hcw : ∀ t, t < d.size → wr.cell? ⟨blk, off + t, none⟩ = some (.int .u64 (G t)) := fun t ht => by rw [HG.out]; exact HP2.out.su.c t (by rw [HP2.out.size]; exact ht)
              have hfw : ∀ t, t < d.size → wr.frozen? ⟨blk, off + t, none⟩ = false := fun t ht => HP2.out.su.f t (by rw [HP2.out.size]; exact ht)
              by_cases hle2 : i' ≤ j'
              · go_wp2_with fail
                go_big_quiet (first | (go_at_call 50; refine Calls.quiet_of_same (less_any _ _ _)))
                go_wp2_with fail
                · have ht : Sort.ltInt (G a) (G j') = true := by assumption
                  have hb : lowE (G a) (G j') = false := by simpa [lowE] using ht
                  rw [HG.out, HG.out] at hb
                  have HD := Lib.hid ((HP2.out.down (by omega) hb).drewN nq)
                  clear hb
                  go_wp2
                  go_roundw
                  case rel => exact ⟨j' - 1, by congr 1; omega, by omega, by omega, HD.out⟩
                  case measure => simp [nOf]; omega
                · have ht : Sort.ltInt (G a) (G j') = false := by assumption
                  have hb : lowE (G a) (G j') = true := by simpa [lowE] using ht
                  rw [HG.out, HG.out] at hb
                  have HLJ := Lib.hid hb
                  have hlt := Pt.lt HLI.out HLJ.out hle2
                  clear hb ht
                  have HP3 := Lib.hid (HP2.out.drewN nq)
                  clear hcw hfw HP2
                  generalize wr.drewN nq = W3 at HP3 ⊢
                  have hcw : ∀ t, t < d.size → W3.cell? ⟨blk, off + t, none⟩ = some (.int .u64 (G t)) := fun t ht => by rw [HG.out]; exact HP3.out.su.c t (by rw [HP3.out.size]; exact ht)
                  have hfw : ∀ t, t < d.size → W3.frozen? ⟨blk, off + t, none⟩ = false := fun t ht => HP3.out.su.f t (by rw [HP3.out.size]; exact ht)
                  have hsw := HP3.out.su.swapped i' j' (by rw [HP3.out.size]; omega) (by rw [HP3.out.size]; omega)
                  have hS := HP3.out.swap HLI.out HLJ.out (by omega) hlt (by omega) hb hsw
                  rw [← HG.out, ← HG.out] at hS
                  have HS := Lib.hid hS
                  clear hsw hS
                  go_wp2_with fail
                  go_region
                  go_wp2_with fail
                  go_roundw
                  case rel => exact ⟨i' + 1, j' - 1, _, by simp, by congr 1; omega, by omega, by omega, by omega, HS.out⟩
                  case measure => simp [ijOf]; omega
              · go_wp2_with fail
                go_big_quiet (first | (go_at_call 50; refine Calls.quiet_of_same (less_any _ _ _)))
                have HP3 := Lib.hid (HP2.out.drewN nq)
                clear hcw hfw HP2
                generalize wr.drewN nq = W3 at HP3 ⊢
                go_wp2_with fail
                go_ret
                refine ⟨i', dk, rfl, by omega, by omega, HP3.out.1, fun t h1 h2 => ?_, fun t h1 h2 => HP3.out.2.2.2.1 t (by omega) h2, HP3.out.su⟩
                rcases Nat.eq_or_lt_of_le h1 with h3 | h3
                · rw [← h3, HP3.out.2.1]; simp [lowE, Sort.ltInt]
                · exact HP3.out.2.2.1 t h3 h2
        · go_wp2_with fail
          go_big_quiet (first | (go_at_call 50; refine Calls.quiet_of_same (less_any _ _ _)))
          go_wp2_with fail
          have HP1 := Lib.hid (HU1.out.drewN nq)
          clear hcw hfw HU1
          generalize wr.drewN nq = W2 at HP1 ⊢
          go_loopw [10] (fun vj wr => DnR lowE w blk off a b d (G0 pivot) i' j dk vj wr) (fun vj _ => nOf vj)
          case atStart => exact ⟨j, rfl, Nat.le_refl _, hij', HP1.out⟩
          case round =>
            obtain ⟨j', rfl, hjj, hij2, hP2⟩ := hrel
            have HP2 := Lib.hid hP2
            clear hP2 HP1
            have hcw : ∀ t, t < d.size → wr.cell? ⟨blk, off + t, none⟩ = some (.int .u64 (G t)) := fun t ht => by rw [HG.out]; exact HP2.out.su.c t (by rw [HP2.out.size]; exact ht)
            have hfw : ∀ t, t < d.size → wr.frozen? ⟨blk, off + t, none⟩ = false := fun t ht => HP2.out.su.f t (by rw [HP2.out.size]; exact ht)
            by_cases hle2 : i' ≤ j'
            · exfalso; omega
            · go_wp2_with fail
              go_big_quiet (first | (go_at_call 50; refine Calls.quiet_of_same (less_any _ _ _)))
              have HP3 := Lib.hid (HP2.out.drewN nq)
              clear hcw hfw HP2
              generalize wr.drewN nq = W3 at HP3 ⊢
              go_wp2_with fail
              go_ret
              refine ⟨i', dk, rfl, by omega, by omega, HP3.out.1, fun t h1 h2 => ?_, fun t h1 h2 => HP3.out.2.2.2.1 t (by omega) h2, HP3.out.su⟩
              rcases Nat.eq_or_lt_of_le h1 with h3 | h3
              · rw [← h3, HP3.out.2.1]; simp [lowE, Sort.ltInt]
              · exact HP3.out.2.2.1 t h3 h2
end Go.Proofs.Ytkkolodolmppnaa.So
