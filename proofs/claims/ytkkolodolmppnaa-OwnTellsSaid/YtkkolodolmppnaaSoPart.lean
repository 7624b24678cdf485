/-
  Contract of slices.partitionOrdered at uint64: all below the place that it answers is less than the pivot, which stands there, nothing behind it is.
-/
import Derived.Test.YtkkolodolmppnaaSoPt
namespace Go.Proofs.Ytkkolodolmppnaa.So
open Go.RowKit
set_option linter.unusedVariables false

set_option maxHeartbeats 8000000 in
set_option maxRecDepth 100000 in
theorem part_any (blk off cap a b pivot : Nat) (d : Array Int) (w : World) (hH : HU w blk off d) (hap : a ≤ pivot) (hpb : pivot < b) (hb : b ≤ d.size) (hsz : d.size < 1152921504606846976) :
    Calls Try.prog 52 #[.slice (some ⟨blk, off, none⟩) d.size cap, .int .i64 a, .int .i64 b, .int .i64 pivot] w fun e w' =>
      ∃ (mid : Nat) (done : Bool) (d' : Array Int), e = .returned (.tuple #[.int .i64 mid, .bool done]) ∧ a ≤ mid ∧ mid < b ∧ Sort.PermIn a b d d' ∧ d'[mid]! = d[pivot]! ∧ (∀ t, a ≤ t → t < mid → lowP d[pivot]! d'[t]! = true) ∧ (∀ t, mid < t → t < b → lowP d[pivot]! d'[t]! = false) ∧ SU w blk off d' w' := by
  have HH := Lib.hid (SU.start hH)
  obtain ⟨G0, hG0⟩ : ∃ G : Nat → Int, ∀ t, G t = d[t]! := ⟨fun t => d[t]!, fun _ => rfl⟩
  rw [← hG0 pivot]
  have hcw : ∀ t, t < d.size → w.cell? ⟨blk, off + t, none⟩ = some (.int .u64 (G0 t)) := fun t ht => by rw [hG0]; exact HH.out.c t ht
  have hfw : ∀ t, t < d.size → w.frozen? ⟨blk, off + t, none⟩ = false := fun t ht => HH.out.f t ht
  have HG0 := Lib.hid hG0
  clear hG0 hH
  have hpd : pivot < d.size := by omega
  have had : a < d.size := by omega
  go_enter Try.func52, Try.ntmps52
  by_cases hpe : a = pivot
  · subst hpe
    have hsw := HH.out.swapped a a (by omega) (by omega)
    have hS := Pt.start lowP (pv := a) hap hpb hb hsw
    rw [← HG0.out] at hS
    have HP0 := Lib.hid hS
    clear hsw hS
    skip
    obtain ⟨i, hi⟩ : ∃ i, i = a + 1 := ⟨_, rfl⟩
    obtain ⟨j, hj⟩ : ∃ j, j = b - 1 := ⟨_, rfl⟩
    obtain ⟨dk, hdk⟩ : ∃ dk, dk = Sort.swp d a a := ⟨_, rfl⟩
    have ei : (a : Int) + 1 = (i : Int) := by omega
    have ej : (b : Int) - 1 = (j : Int) := by omega
    have HP := HP0
    rw [← hi, ← hj, ← hdk] at HP
    have hai : a < i := by omega
    have hij : i ≤ j + 1 := by omega
    have hjb : j < b := by omega
    obtain ⟨G, hG⟩ : ∃ G : Nat → Int, ∀ t, G t = dk[t]! := ⟨fun t => dk[t]!, fun _ => rfl⟩
    have HG := Lib.hid hG
    clear hG HP0 hi hj hdk
    go_wp2_with fail
    go_region
    go_wp2_with fail
    clear ei ej hcw hfw HG0 HH
    (try go_wp2_with fail)
    go_loopw [10] (fun vi wr => UpR lowP w blk off a b d (G0 a) i j dk vi wr) (fun vi _ => j + 1 - nOf vi)
    case atStart => exact ⟨i, rfl, Nat.le_refl _, hij, HP.out⟩
    case round =>
      obtain ⟨i', rfl, hii, hij', hPu⟩ := hrel
      have HU1 := Lib.hid hPu
      clear hPu HP
      have hcw : ∀ t, t < d.size → wr.cell? ⟨blk, off + t, none⟩ = some (.int .u64 (G t)) := fun t ht => by rw [HG.out]; exact HU1.out.su.c t (by rw [HU1.out.size]; exact ht)
      have hfw : ∀ t, t < d.size → wr.frozen? ⟨blk, off + t, none⟩ = false := fun t ht => HU1.out.su.f t (by rw [HU1.out.size]; exact ht)
      by_cases hle : i' ≤ j
      · go_wp2_with fail
        go_big_quiet (first | (go_at_call 50; refine Calls.quiet_of_same (less_any _ _ _)))
        go_wp2_with fail
        · have ht : Sort.ltInt (G i') (G a) = true := by assumption
          have hb : lowP (G a) (G i') = true := by simpa [lowP] using ht
          rw [HG.out, HG.out] at hb
          have HD := Lib.hid ((HU1.out.up hb).drewN nq)
          clear hb
          go_wp2
          go_roundw
          case rel => exact ⟨i' + 1, by simp, by omega, by omega, HD.out⟩
          case measure => simp [nOf]; omega
        · have ht : Sort.ltInt (G i') (G a) = false := by assumption
          have hb : lowP (G a) (G i') = false := by simpa [lowP] using ht
          rw [HG.out, HG.out] at hb
          have HLI := Lib.hid hb
          clear hb ht
          have HP1 := Lib.hid (HU1.out.drewN nq)
          clear hcw hfw HU1
          generalize wr.drewN nq = W2 at HP1 ⊢
          go_loopw [11] (fun vj wr => DnR lowP w blk off a b d (G0 a) i' j dk vj wr) (fun vj _ => nOf vj)
          case atStart => exact ⟨j, rfl, Nat.le_refl _, hij', HP1.out⟩
          case round =>
            obtain ⟨j', rfl, hjj, hij2, hP2⟩ := hrel
            have HP2 := Lib.hid hP2
            clear hP2 HP1
            have hcw : ∀ t, t < d.size → wr.cell? ⟨blk, off + t, none⟩ = some (.int .u64 (G t)) := fun t ht => by rw [HG.out]; exact HP2.out.su.c t (by rw [HP2.out.size]; exact ht)
            have hfw : ∀ t, t < d.size → wr.frozen? ⟨blk, off + t, none⟩ = false := fun t ht => HP2.out.su.f t (by rw [HP2.out.size]; exact ht)
            by_cases hle2 : i' ≤ j'
            · go_wp2_with fail
              go_big_quiet (first | (go_at_call 50; refine Calls.quiet_of_same (less_any _ _ _)))
              go_wp2_with fail
              · have ht : (!Sort.ltInt (G j') (G a)) = true := by assumption
                have hb : lowP (G a) (G j') = false := by simpa [lowP] using ht
                rw [HG.out, HG.out] at hb
                have HD := Lib.hid ((HP2.out.down (by omega) hb).drewN nq)
                clear hb
                go_wp2
                go_roundw
                case rel => exact ⟨j' - 1, by congr 1; omega, by omega, by omega, HD.out⟩
                case measure => simp [nOf]; omega
              · have ht : (!Sort.ltInt (G j') (G a)) = false := by assumption
                have hb : lowP (G a) (G j') = true := by simpa [lowP] using ht
                rw [HG.out, HG.out] at hb
                have HLJ := Lib.hid hb
                have hlt := Pt.lt HLI.out HLJ.out hle2
                clear hb ht
                have HP3 := Lib.hid (HP2.out.drewN nq)
                clear hcw hfw HP2
                generalize wr.drewN nq = W3 at HP3 ⊢
                have hcw : ∀ t, t < d.size → W3.cell? ⟨blk, off + t, none⟩ = some (.int .u64 (G t)) := fun t ht => by rw [HG.out]; exact HP3.out.su.c t (by rw [HP3.out.size]; exact ht)
                have hfw : ∀ t, t < d.size → W3.frozen? ⟨blk, off + t, none⟩ = false := fun t ht => HP3.out.su.f t (by rw [HP3.out.size]; exact ht)
                have hsw := HP3.out.su.swapped i' j' (by rw [HP3.out.size]; omega) (by rw [HP3.out.size]; omega)
                have hS := HP3.out.swap HLI.out HLJ.out (by omega) hlt (by omega) hb hsw
                rw [← HG.out, ← HG.out] at hS
                have HS := Lib.hid hS
                clear hsw hS
                go_wp2_with fail
                go_region
                go_wp2_with fail
                clear hcw hfw HP3 HLI HLJ HG
                go_loopw [10, 11] (fun vi vj wr => LoR lowP w blk off a b d (G0 a) vi vj wr) (fun vi vj _ => ijOf vi vj)
                case atStart => exact ⟨i' + 1, j' - 1, _, by simp, by congr 1; omega, by omega, by omega, by omega, HS.out⟩
                case round =>
                  clear hlt hle2 hij2 hjj hle hij' hii hij hai hjb HS
                  obtain ⟨i, j, dk, rfl, rfl, hai, hij, hjb, hP⟩ := hrel
                  have HP := Lib.hid hP
                  obtain ⟨G, hG⟩ : ∃ G : Nat → Int, ∀ t, G t = dk[t]! := ⟨fun t => dk[t]!, fun _ => rfl⟩
                  have HG := Lib.hid hG
                  clear hP hG
                  (try go_wp2_with fail)
                  go_loopw [10] (fun vi wr => UpR lowP w blk off a b d (G0 a) i j dk vi wr) (fun vi _ => j + 1 - nOf vi)
                  case atStart => exact ⟨i, rfl, Nat.le_refl _, hij, HP.out⟩
                  case round =>
                    obtain ⟨i', rfl, hii, hij', hPu⟩ := hrel
                    have HU1 := Lib.hid hPu
                    clear hPu HP
                    have hcw : ∀ t, t < d.size → wr.cell? ⟨blk, off + t, none⟩ = some (.int .u64 (G t)) := fun t ht => by rw [HG.out]; exact HU1.out.su.c t (by rw [HU1.out.size]; exact ht)
                    have hfw : ∀ t, t < d.size → wr.frozen? ⟨blk, off + t, none⟩ = false := fun t ht => HU1.out.su.f t (by rw [HU1.out.size]; exact ht)
                    by_cases hle : i' ≤ j
                    · go_wp2_with fail
                      go_big_quiet (first | (go_at_call 50; refine Calls.quiet_of_same (less_any _ _ _)))
                      go_wp2_with fail
                      · have ht : Sort.ltInt (G i') (G a) = true := by assumption
                        have hb : lowP (G a) (G i') = true := by simpa [lowP] using ht
                        rw [HG.out, HG.out] at hb
                        have HD := Lib.hid ((HU1.out.up hb).drewN nq)
                        clear hb
                        go_wp2
                        go_roundw
                        case rel => exact ⟨i' + 1, by simp, by omega, by omega, HD.out⟩
                        case measure => simp [nOf]; omega
                      · have ht : Sort.ltInt (G i') (G a) = false := by assumption
                        have hb : lowP (G a) (G i') = false := by simpa [lowP] using ht
                        rw [HG.out, HG.out] at hb
                        have HLI := Lib.hid hb
                        clear hb ht
                        have HP1 := Lib.hid (HU1.out.drewN nq)
                        clear hcw hfw HU1
                        generalize wr.drewN nq = W2 at HP1 ⊢
                        go_loopw [11] (fun vj wr => DnR lowP w blk off a b d (G0 a) i' j dk vj wr) (fun vj _ => nOf vj)
                        case atStart => exact ⟨j, rfl, Nat.le_refl _, hij', HP1.out⟩
                        case round =>
                          obtain ⟨j', rfl, hjj, hij2, hP2⟩ := hrel
                          have HP2 := Lib.hid hP2
                          clear hP2 HP1
                          have hcw : ∀ t, t < d.size → wr.cell? ⟨blk, off + t, none⟩ = some (.int .u64 (G t)) := fun t ht => by rw [HG.out]; exact HP2.out.su.c t (by rw [HP2.out.size]; exact ht)
                          have hfw : ∀ t, t < d.size → wr.frozen? ⟨blk, off + t, none⟩ = false := fun t ht => HP2.out.su.f t (by rw [HP2.out.size]; exact ht)
                          by_cases hle2 : i' ≤ j'
                          · go_wp2_with fail
                            go_big_quiet (first | (go_at_call 50; refine Calls.quiet_of_same (less_any _ _ _)))
                            go_wp2_with fail
                            · have ht : (!Sort.ltInt (G j') (G a)) = true := by assumption
                              have hb : lowP (G a) (G j') = false := by simpa [lowP] using ht
                              rw [HG.out, HG.out] at hb
                              have HD := Lib.hid ((HP2.out.down (by omega) hb).drewN nq)
                              clear hb
                              go_wp2
                              go_roundw
                              case rel => exact ⟨j' - 1, by congr 1; omega, by omega, by omega, HD.out⟩
                              case measure => simp [nOf]; omega
                            · have ht : (!Sort.ltInt (G j') (G a)) = false := by assumption
                              have hb : lowP (G a) (G j') = true := by simpa [lowP] using ht
                              rw [HG.out, HG.out] at hb
                              have HLJ := Lib.hid hb
                              have hlt := Pt.lt HLI.out HLJ.out hle2
                              clear hb ht
                              have HP3 := Lib.hid (HP2.out.drewN nq)
                              clear hcw hfw HP2
                              generalize wr.drewN nq = W3 at HP3 ⊢
                              have hcw : ∀ t, t < d.size → W3.cell? ⟨blk, off + t, none⟩ = some (.int .u64 (G t)) := fun t ht => by rw [HG.out]; exact HP3.out.su.c t (by rw [HP3.out.size]; exact ht)
                              have hfw : ∀ t, t < d.size → W3.frozen? ⟨blk, off + t, none⟩ = false := fun t ht => HP3.out.su.f t (by rw [HP3.out.size]; exact ht)
                              have hsw := HP3.out.su.swapped i' j' (by rw [HP3.out.size]; omega) (by rw [HP3.out.size]; omega)
                              have hS := HP3.out.swap HLI.out HLJ.out (by omega) hlt (by omega) hb hsw
                              rw [← HG.out, ← HG.out] at hS
                              have HS := Lib.hid hS
                              clear hsw hS
                              go_wp2_with fail
                              go_region
                              go_wp2_with fail
                              go_roundw
                              case rel => exact ⟨i' + 1, j' - 1, _, by simp, by congr 1; omega, by omega, by omega, by omega, HS.out⟩
                              case measure => simp [ijOf]; omega
                          · go_wp2_with fail
                            go_big_quiet (first | (go_at_call 50; refine Calls.quiet_of_same (less_any _ _ _)))
                            have HP3 := Lib.hid (HP2.out.drewN nq)
                            clear hcw hfw HP2
                            generalize wr.drewN nq = W3 at HP3 ⊢
                            have hcw : ∀ t, t < d.size → W3.cell? ⟨blk, off + t, none⟩ = some (.int .u64 (G t)) := fun t ht => by rw [HG.out]; exact HP3.out.su.c t (by rw [HP3.out.size]; exact ht)
                            have hfw : ∀ t, t < d.size → W3.frozen? ⟨blk, off + t, none⟩ = false := fun t ht => HP3.out.su.f t (by rw [HP3.out.size]; exact ht)
                            have hadd : a < d.size := by omega
                            have hjd : j' < d.size := by omega
                            by_cases hja2 : a = j'
                            · skip
                              subst hja2
                              have hsw := HP3.out.su.swapped a a (by rw [HP3.out.size]; omega) (by rw [HP3.out.size]; omega)
                              have hL := HP3.out.last (by omega) (by omega) (by omega) hb (fun t h1 h2 => HP3.out.2.2.1 t h1 (by omega))
                              rw [← HG.out] at hsw
                              have HL := Lib.hid hL
                              have HS := Lib.hid hsw
                              clear hsw hL
                              go_wp2_with fail
                              go_region
                              go_wp2_with fail
                              refine bodyPost_ret (v := .tuple #[.int .i64 a, .bool false]) (by simp [results, Try.results52, go_sem]) rfl ⟨a, false, _, rfl, by omega, by omega, HL.out.1, HL.out.2.1, HL.out.2.2.1, HL.out.2.2.2, HS.out⟩
                            · skip
                              skip
                              have hsw := HP3.out.su.swapped j' a (by rw [HP3.out.size]; omega) (by rw [HP3.out.size]; omega)
                              have hL := HP3.out.last (by omega) (by omega) (by omega) hb (fun t h1 h2 => HP3.out.2.2.1 t h1 (by omega))
                              rw [← HG.out, ← HG.out] at hsw
                              have HL := Lib.hid hL
                              have HS := Lib.hid hsw
                              clear hsw hL
                              go_wp2_with fail
                              go_region
                              go_wp2_with fail
                              refine bodyPost_ret (v := .tuple #[.int .i64 j', .bool false]) (by simp [results, Try.results52, go_sem]) rfl ⟨j', false, _, rfl, by omega, by omega, HL.out.1, HL.out.2.1, HL.out.2.2.1, HL.out.2.2.2, HS.out⟩
                    · go_wp2_with fail
                      go_big_quiet (first | (go_at_call 50; refine Calls.quiet_of_same (less_any _ _ _)))
                      go_wp2_with fail
                      have HP1 := Lib.hid (HU1.out.drewN nq)
                      clear hcw hfw HU1
                      generalize wr.drewN nq = W2 at HP1 ⊢
                      go_loopw [11] (fun vj wr => DnR lowP w blk off a b d (G0 a) i' j dk vj wr) (fun vj _ => nOf vj)
                      case atStart => exact ⟨j, rfl, Nat.le_refl _, hij', HP1.out⟩
                      case round =>
                        obtain ⟨j', rfl, hjj, hij2, hP2⟩ := hrel
                        have HP2 := Lib.hid hP2
                        clear hP2 HP1
                        have hcw : ∀ t, t < d.size → wr.cell? ⟨blk, off + t, none⟩ = some (.int .u64 (G t)) := fun t ht => by rw [HG.out]; exact HP2.out.su.c t (by rw [HP2.out.size]; exact ht)
                        have hfw : ∀ t, t < d.size → wr.frozen? ⟨blk, off + t, none⟩ = false := fun t ht => HP2.out.su.f t (by rw [HP2.out.size]; exact ht)
                        by_cases hle2 : i' ≤ j'
                        · exfalso; omega
                        · go_wp2_with fail
                          go_big_quiet (first | (go_at_call 50; refine Calls.quiet_of_same (less_any _ _ _)))
                          have HP3 := Lib.hid (HP2.out.drewN nq)
                          clear hcw hfw HP2
                          generalize wr.drewN nq = W3 at HP3 ⊢
                          have hcw : ∀ t, t < d.size → W3.cell? ⟨blk, off + t, none⟩ = some (.int .u64 (G t)) := fun t ht => by rw [HG.out]; exact HP3.out.su.c t (by rw [HP3.out.size]; exact ht)
                          have hfw : ∀ t, t < d.size → W3.frozen? ⟨blk, off + t, none⟩ = false := fun t ht => HP3.out.su.f t (by rw [HP3.out.size]; exact ht)
                          have hadd : a < d.size := by omega
                          have hjd : j' < d.size := by omega
                          by_cases hja2 : a = j'
                          · skip
                            subst hja2
                            have hsw := HP3.out.su.swapped a a (by rw [HP3.out.size]; omega) (by rw [HP3.out.size]; omega)
                            have hL := HP3.out.last (by omega) (by omega) (by omega) hb (fun t h1 h2 => HP3.out.2.2.1 t h1 (by omega))
                            rw [← HG.out] at hsw
                            have HL := Lib.hid hL
                            have HS := Lib.hid hsw
                            clear hsw hL
                            go_wp2_with fail
                            go_region
                            go_wp2_with fail
                            refine bodyPost_ret (v := .tuple #[.int .i64 a, .bool false]) (by simp [results, Try.results52, go_sem]) rfl ⟨a, false, _, rfl, by omega, by omega, HL.out.1, HL.out.2.1, HL.out.2.2.1, HL.out.2.2.2, HS.out⟩
                          · skip
                            skip
                            have hsw := HP3.out.su.swapped j' a (by rw [HP3.out.size]; omega) (by rw [HP3.out.size]; omega)
                            have hL := HP3.out.last (by omega) (by omega) (by omega) hb (fun t h1 h2 => HP3.out.2.2.1 t h1 (by omega))
                            rw [← HG.out, ← HG.out] at hsw
                            have HL := Lib.hid hL
                            have HS := Lib.hid hsw
                            clear hsw hL
                            go_wp2_with fail
                            go_region
                            go_wp2_with fail
                            refine bodyPost_ret (v := .tuple #[.int .i64 j', .bool false]) (by simp [results, Try.results52, go_sem]) rfl ⟨j', false, _, rfl, by omega, by omega, HL.out.1, HL.out.2.1, HL.out.2.2.1, HL.out.2.2.2, HS.out⟩
            · go_wp2_with fail
              go_big_quiet (first | (go_at_call 50; refine Calls.quiet_of_same (less_any _ _ _)))
              have HP3 := Lib.hid (HP2.out.drewN nq)
              clear hcw hfw HP2
              generalize wr.drewN nq = W3 at HP3 ⊢
              have hcw : ∀ t, t < d.size → W3.cell? ⟨blk, off + t, none⟩ = some (.int .u64 (G t)) := fun t ht => by rw [HG.out]; exact HP3.out.su.c t (by rw [HP3.out.size]; exact ht)
              have hfw : ∀ t, t < d.size → W3.frozen? ⟨blk, off + t, none⟩ = false := fun t ht => HP3.out.su.f t (by rw [HP3.out.size]; exact ht)
              have hadd : a < d.size := by omega
              have hjd : j' < d.size := by omega
              by_cases hja2 : a = j'
              · skip
                subst hja2
                have hsw := HP3.out.su.swapped a a (by rw [HP3.out.size]; omega) (by rw [HP3.out.size]; omega)
                have hL := HP3.out.last (by omega) (by omega) (by omega) hb (fun t h1 h2 => HP3.out.2.2.1 t h1 (by omega))
                rw [← HG.out] at hsw
                have HL := Lib.hid hL
                have HS := Lib.hid hsw
                clear hsw hL
                go_wp2_with fail
                go_region
                go_wp2_with fail
                refine bodyPost_ret (v := .tuple #[.int .i64 a, .bool true]) (by simp [results, Try.results52, go_sem]) rfl ⟨a, true, _, rfl, by omega, by omega, HL.out.1, HL.out.2.1, HL.out.2.2.1, HL.out.2.2.2, HS.out⟩
              · skip
                skip
                have hsw := HP3.out.su.swapped j' a (by rw [HP3.out.size]; omega) (by rw [HP3.out.size]; omega)
                have hL := HP3.out.last (by omega) (by omega) (by omega) hb (fun t h1 h2 => HP3.out.2.2.1 t h1 (by omega))
                rw [← HG.out, ← HG.out] at hsw
                have HL := Lib.hid hL
                have HS := Lib.hid hsw
                clear hsw hL
                go_wp2_with fail
                go_region
                go_wp2_with fail
                refine bodyPost_ret (v := .tuple #[.int .i64 j', .bool true]) (by simp [results, Try.results52, go_sem]) rfl ⟨j', true, _, rfl, by omega, by omega, HL.out.1, HL.out.2.1, HL.out.2.2.1, HL.out.2.2.2, HS.out⟩
      · go_wp2_with fail
        go_big_quiet (first | (go_at_call 50; refine Calls.quiet_of_same (less_any _ _ _)))
        go_wp2_with fail
        have HP1 := Lib.hid (HU1.out.drewN nq)
        clear hcw hfw HU1
        generalize wr.drewN nq = W2 at HP1 ⊢
        go_loopw [11] (fun vj wr => DnR lowP w blk off a b d (G0 a) i' j dk vj wr) (fun vj _ => nOf vj)
        case atStart => exact ⟨j, rfl, Nat.le_refl _, hij', HP1.out⟩
        case round =>
          obtain ⟨j', rfl, hjj, hij2, hP2⟩ := hrel
          have HP2 := Lib.hid hP2
          clear hP2 HP1
          have hcw : ∀ t, t < d.size → wr.cell? ⟨blk, off + t, none⟩ = some (.int .u64 (G t)) := fun t ht => by rw [HG.out]; exact HP2.out.su.c t (by rw [HP2.out.size]; exact ht)
          have hfw : ∀ t, t < d.size → wr.frozen? ⟨blk, off + t, none⟩ = false := fun t ht => HP2.out.su.f t (by rw [HP2.out.size]; exact ht)
          by_cases hle2 : i' ≤ j'
          · exfalso; omega
          · go_wp2_with fail
            go_big_quiet (first | (go_at_call 50; refine Calls.quiet_of_same (less_any _ _ _)))
            have HP3 := Lib.hid (HP2.out.drewN nq)
            clear hcw hfw HP2
            generalize wr.drewN nq = W3 at HP3 ⊢
            have hcw : ∀ t, t < d.size → W3.cell? ⟨blk, off + t, none⟩ = some (.int .u64 (G t)) := fun t ht => by rw [HG.out]; exact HP3.out.su.c t (by rw [HP3.out.size]; exact ht)
            have hfw : ∀ t, t < d.size → W3.frozen? ⟨blk, off + t, none⟩ = false := fun t ht => HP3.out.su.f t (by rw [HP3.out.size]; exact ht)
            have hadd : a < d.size := by omega
            have hjd : j' < d.size := by omega
            by_cases hja2 : a = j'
            · skip
              subst hja2
              have hsw := HP3.out.su.swapped a a (by rw [HP3.out.size]; omega) (by rw [HP3.out.size]; omega)
              have hL := HP3.out.last (by omega) (by omega) (by omega) hb (fun t h1 h2 => HP3.out.2.2.1 t h1 (by omega))
              rw [← HG.out] at hsw
              have HL := Lib.hid hL
              have HS := Lib.hid hsw
              clear hsw hL
              go_wp2_with fail
              go_region
              go_wp2_with fail
              refine bodyPost_ret (v := .tuple #[.int .i64 a, .bool true]) (by simp [results, Try.results52, go_sem]) rfl ⟨a, true, _, rfl, by omega, by omega, HL.out.1, HL.out.2.1, HL.out.2.2.1, HL.out.2.2.2, HS.out⟩
            · skip
              skip
              have hsw := HP3.out.su.swapped j' a (by rw [HP3.out.size]; omega) (by rw [HP3.out.size]; omega)
              have hL := HP3.out.last (by omega) (by omega) (by omega) hb (fun t h1 h2 => HP3.out.2.2.1 t h1 (by omega))
              rw [← HG.out, ← HG.out] at hsw
              have HL := Lib.hid hL
              have HS := Lib.hid hsw
              clear hsw hL
              go_wp2_with fail
              go_region
              go_wp2_with fail
              refine bodyPost_ret (v := .tuple #[.int .i64 j', .bool true]) (by simp [results, Try.results52, go_sem]) rfl ⟨j', true, _, rfl, by omega, by omega, HL.out.1, HL.out.2.1, HL.out.2.2.1, HL.out.2.2.2, HS.out⟩
  · skip
    have hsw := HH.out.swapped a pivot (by omega) (by omega)
    have hS := Pt.start lowP (pv := pivot) hap hpb hb hsw
    rw [← HG0.out, ← HG0.out] at hS
    have HP0 := Lib.hid hS
    clear hsw hS
    skip
    obtain ⟨i, hi⟩ : ∃ i, i = a + 1 := ⟨_, rfl⟩
    obtain ⟨j, hj⟩ : ∃ j, j = b - 1 := ⟨_, rfl⟩
    obtain ⟨dk, hdk⟩ : ∃ dk, dk = Sort.swp d a pivot := ⟨_, rfl⟩
    have ei : (a : Int) + 1 = (i : Int) := by omega
    have ej : (b : Int) - 1 = (j : Int) := by omega
    have HP := HP0
    rw [← hi, ← hj, ← hdk] at HP
    have hai : a < i := by omega
    have hij : i ≤ j + 1 := by omega
    have hjb : j < b := by omega
    obtain ⟨G, hG⟩ : ∃ G : Nat → Int, ∀ t, G t = dk[t]! := ⟨fun t => dk[t]!, fun _ => rfl⟩
    have HG := Lib.hid hG
    clear hG HP0 hi hj hdk
    go_wp2_with fail
    go_region
    go_wp2_with fail
    clear ei ej hcw hfw HG0 HH
    (try go_wp2_with fail)
    go_loopw [10] (fun vi wr => UpR lowP w blk off a b d (G0 pivot) i j dk vi wr) (fun vi _ => j + 1 - nOf vi)
    case atStart => exact ⟨i, rfl, Nat.le_refl _, hij, HP.out⟩
    case round =>
      obtain ⟨i', rfl, hii, hij', hPu⟩ := hrel
      have HU1 := Lib.hid hPu
      clear hPu HP
      have hcw : ∀ t, t < d.size → wr.cell? ⟨blk, off + t, none⟩ = some (.int .u64 (G t)) := fun t ht => by rw [HG.out]; exact HU1.out.su.c t (by rw [HU1.out.size]; exact ht)
      have hfw : ∀ t, t < d.size → wr.frozen? ⟨blk, off + t, none⟩ = false := fun t ht => HU1.out.su.f t (by rw [HU1.out.size]; exact ht)
      by_cases hle : i' ≤ j
      · go_wp2_with fail
        go_big_quiet (first | (go_at_call 50; refine Calls.quiet_of_same (less_any _ _ _)))
        go_wp2_with fail
        · have ht : Sort.ltInt (G i') (G a) = true := by assumption
          have hb : lowP (G a) (G i') = true := by simpa [lowP] using ht
          rw [HG.out, HG.out] at hb
          have HD := Lib.hid ((HU1.out.up hb).drewN nq)
          clear hb
          go_wp2
          go_roundw
          case rel => exact ⟨i' + 1, by simp, by omega, by omega, HD.out⟩
          case measure => simp [nOf]; omega
        · have ht : Sort.ltInt (G i') (G a) = false := by assumption
          have hb : lowP (G a) (G i') = false := by simpa [lowP] using ht
          rw [HG.out, HG.out] at hb
          have HLI := Lib.hid hb
          clear hb ht
          have HP1 := Lib.hid (HU1.out.drewN nq)
          clear hcw hfw HU1
          generalize wr.drewN nq = W2 at HP1 ⊢
          go_loopw [11] (fun vj wr => DnR lowP w blk off a b d (G0 pivot) i' j dk vj wr) (fun vj _ => nOf vj)
          case atStart => exact ⟨j, rfl, Nat.le_refl _, hij', HP1.out⟩
          case round =>
            obtain ⟨j', rfl, hjj, hij2, hP2⟩ := hrel
            have HP2 := Lib.hid hP2
            clear hP2 HP1
            have hcw : ∀ t, t < d.size → wr.cell? ⟨blk, off + t, none⟩ = some (.int .u64 (G t)) := fun t ht => by rw [HG.out]; exact HP2.out.su.c t (by rw [HP2.out.size]; exact ht)
            have hfw : ∀ t, t < d.size → wr.frozen? ⟨blk, off + t, none⟩ = false := fun t ht => HP2.out.su.f t (by rw [HP2.out.size]; exact ht)
            by_cases hle2 : i' ≤ j'
            · go_wp2_with fail
              go_big_quiet (first | (go_at_call 50; refine Calls.quiet_of_same (less_any _ _ _)))
              go_wp2_with fail
              · have ht : (!Sort.ltInt (G j') (G a)) = true := by assumption
                have hb : lowP (G a) (G j') = false := by simpa [lowP] using ht
                rw [HG.out, HG.out] at hb
                have HD := Lib.hid ((HP2.out.down (by omega) hb).drewN nq)
                clear hb
                go_wp2
                go_roundw
                case rel => exact ⟨j' - 1, by congr 1; omega, by omega, by omega, HD.out⟩
                case measure => simp [nOf]; omega
              · have ht : (!Sort.ltInt (G j') (G a)) = false := by assumption
                have hb : lowP (G a) (G j') = true := by simpa [lowP] using ht
                rw [HG.out, HG.out] at hb
                have HLJ := Lib.hid hb
                have hlt := Pt.lt HLI.out HLJ.out hle2
                clear hb ht
                have HP3 := Lib.hid (HP2.out.drewN nq)
                clear hcw hfw HP2
                generalize wr.drewN nq = W3 at HP3 ⊢
                have hcw : ∀ t, t < d.size → W3.cell? ⟨blk, off + t, none⟩ = some (.int .u64 (G t)) := fun t ht => by rw [HG.out]; exact HP3.out.su.c t (by rw [HP3.out.size]; exact ht)
                have hfw : ∀ t, t < d.size → W3.frozen? ⟨blk, off + t, none⟩ = false := fun t ht => HP3.out.su.f t (by rw [HP3.out.size]; exact ht)
                have hsw := HP3.out.su.swapped i' j' (by rw [HP3.out.size]; omega) (by rw [HP3.out.size]; omega)
                have hS := HP3.out.swap HLI.out HLJ.out (by omega) hlt (by omega) hb hsw
                rw [← HG.out, ← HG.out] at hS
                have HS := Lib.hid hS
                clear hsw hS
                go_wp2_with fail
                go_region
                go_wp2_with fail
                clear hcw hfw HP3 HLI HLJ HG
                go_loopw [10, 11] (fun vi vj wr => LoR lowP w blk off a b d (G0 pivot) vi vj wr) (fun vi vj _ => ijOf vi vj)
                case atStart => exact ⟨i' + 1, j' - 1, _, by simp, by congr 1; omega, by omega, by omega, by omega, HS.out⟩
                case round =>
                  clear hlt hle2 hij2 hjj hle hij' hii hij hai hjb HS
                  obtain ⟨i, j, dk, rfl, rfl, hai, hij, hjb, hP⟩ := hrel
                  have HP := Lib.hid hP
                  obtain ⟨G, hG⟩ : ∃ G : Nat → Int, ∀ t, G t = dk[t]! := ⟨fun t => dk[t]!, fun _ => rfl⟩
                  have HG := Lib.hid hG
                  clear hP hG
                  (try go_wp2_with fail)
                  go_loopw [10] (fun vi wr => UpR lowP w blk off a b d (G0 pivot) i j dk vi wr) (fun vi _ => j + 1 - nOf vi)
                  case atStart => exact ⟨i, rfl, Nat.le_refl _, hij, HP.out⟩
                  case round =>
                    obtain ⟨i', rfl, hii, hij', hPu⟩ := hrel
                    have HU1 := Lib.hid hPu
                    clear hPu HP
                    have hcw : ∀ t, t < d.size → wr.cell? ⟨blk, off + t, none⟩ = some (.int .u64 (G t)) := fun t ht => by rw [HG.out]; exact HU1.out.su.c t (by rw [HU1.out.size]; exact ht)
                    have hfw : ∀ t, t < d.size → wr.frozen? ⟨blk, off + t, none⟩ = false := fun t ht => HU1.out.su.f t (by rw [HU1.out.size]; exact ht)
                    by_cases hle : i' ≤ j
                    · go_wp2_with fail
                      go_big_quiet (first | (go_at_call 50; refine Calls.quiet_of_same (less_any _ _ _)))
                      go_wp2_with fail
                      · have ht : Sort.ltInt (G i') (G a) = true := by assumption
                        have hb : lowP (G a) (G i') = true := by simpa [lowP] using ht
                        rw [HG.out, HG.out] at hb
                        have HD := Lib.hid ((HU1.out.up hb).drewN nq)
                        clear hb
                        go_wp2
                        go_roundw
                        case rel => exact ⟨i' + 1, by simp, by omega, by omega, HD.out⟩
                        case measure => simp [nOf]; omega
                      · have ht : Sort.ltInt (G i') (G a) = false := by assumption
                        have hb : lowP (G a) (G i') = false := by simpa [lowP] using ht
                        rw [HG.out, HG.out] at hb
                        have HLI := Lib.hid hb
                        clear hb ht
                        have HP1 := Lib.hid (HU1.out.drewN nq)
                        clear hcw hfw HU1
                        generalize wr.drewN nq = W2 at HP1 ⊢
                        go_loopw [11] (fun vj wr => DnR lowP w blk off a b d (G0 pivot) i' j dk vj wr) (fun vj _ => nOf vj)
                        case atStart => exact ⟨j, rfl, Nat.le_refl _, hij', HP1.out⟩
                        case round =>
                          obtain ⟨j', rfl, hjj, hij2, hP2⟩ := hrel
                          have HP2 := Lib.hid hP2
                          clear hP2 HP1
                          have hcw : ∀ t, t < d.size → wr.cell? ⟨blk, off + t, none⟩ = some (.int .u64 (G t)) := fun t ht => by rw [HG.out]; exact HP2.out.su.c t (by rw [HP2.out.size]; exact ht)
                          have hfw : ∀ t, t < d.size → wr.frozen? ⟨blk, off + t, none⟩ = false := fun t ht => HP2.out.su.f t (by rw [HP2.out.size]; exact ht)
                          by_cases hle2 : i' ≤ j'
                          · go_wp2_with fail
                            go_big_quiet (first | (go_at_call 50; refine Calls.quiet_of_same (less_any _ _ _)))
                            go_wp2_with fail
                            · have ht : (!Sort.ltInt (G j') (G a)) = true := by assumption
                              have hb : lowP (G a) (G j') = false := by simpa [lowP] using ht
                              rw [HG.out, HG.out] at hb
                              have HD := Lib.hid ((HP2.out.down (by omega) hb).drewN nq)
                              clear hb
                              go_wp2
                              go_roundw
                              case rel => exact ⟨j' - 1, by congr 1; omega, by omega, by omega, HD.out⟩
                              case measure => simp [nOf]; omega
                            · have ht : (!Sort.ltInt (G j') (G a)) = false := by assumption
                              have hb : lowP (G a) (G j') = true := by simpa [lowP] using ht
                              rw [HG.out, HG.out] at hb
                              have HLJ := Lib.hid hb
                              have hlt := Pt.lt HLI.out HLJ.out hle2
                              clear hb ht
                              have HP3 := Lib.hid (HP2.out.drewN nq)
                              clear hcw hfw HP2
                              generalize wr.drewN nq = W3 at HP3 ⊢
                              have hcw : ∀ t, t < d.size → W3.cell? ⟨blk, off + t, none⟩ = some (.int .u64 (G t)) := fun t ht => by rw [HG.out]; exact HP3.out.su.c t (by rw [HP3.out.size]; exact ht)
                              have hfw : ∀ t, t < d.size → W3.frozen? ⟨blk, off + t, none⟩ = false := fun t ht => HP3.out.su.f t (by rw [HP3.out.size]; exact ht)
                              have hsw := HP3.out.su.swapped i' j' (by rw [HP3.out.size]; omega) (by rw [HP3.out.size]; omega)
                              have hS := HP3.out.swap HLI.out HLJ.out (by omega) hlt (by omega) hb hsw
                              rw [← HG.out, ← HG.out] at hS
                              have HS := Lib.hid hS
                              clear hsw hS
                              go_wp2_with fail
                              go_region
                              go_wp2_with fail
                              go_roundw
                              case rel => exact ⟨i' + 1, j' - 1, _, by simp, by congr 1; omega, by omega, by omega, by omega, HS.out⟩
                              case measure => simp [ijOf]; omega
                          · go_wp2_with fail
                            go_big_quiet (first | (go_at_call 50; refine Calls.quiet_of_same (less_any _ _ _)))
                            have HP3 := Lib.hid (HP2.out.drewN nq)
                            clear hcw hfw HP2
                            generalize wr.drewN nq = W3 at HP3 ⊢
                            have hcw : ∀ t, t < d.size → W3.cell? ⟨blk, off + t, none⟩ = some (.int .u64 (G t)) := fun t ht => by rw [HG.out]; exact HP3.out.su.c t (by rw [HP3.out.size]; exact ht)
                            have hfw : ∀ t, t < d.size → W3.frozen? ⟨blk, off + t, none⟩ = false := fun t ht => HP3.out.su.f t (by rw [HP3.out.size]; exact ht)
                            have hadd : a < d.size := by omega
                            have hjd : j' < d.size := by omega
                            by_cases hja2 : a = j'
                            · skip
                              subst hja2
                              have hsw := HP3.out.su.swapped a a (by rw [HP3.out.size]; omega) (by rw [HP3.out.size]; omega)
                              have hL := HP3.out.last (by omega) (by omega) (by omega) hb (fun t h1 h2 => HP3.out.2.2.1 t h1 (by omega))
                              rw [← HG.out] at hsw
                              have HL := Lib.hid hL
                              have HS := Lib.hid hsw
                              clear hsw hL
                              go_wp2_with fail
                              go_region
                              go_wp2_with fail
                              refine bodyPost_ret (v := .tuple #[.int .i64 a, .bool false]) (by simp [results, Try.results52, go_sem]) rfl ⟨a, false, _, rfl, by omega, by omega, HL.out.1, HL.out.2.1, HL.out.2.2.1, HL.out.2.2.2, HS.out⟩
                            · skip
                              skip
                              have hsw := HP3.out.su.swapped j' a (by rw [HP3.out.size]; omega) (by rw [HP3.out.size]; omega)
                              have hL := HP3.out.last (by omega) (by omega) (by omega) hb (fun t h1 h2 => HP3.out.2.2.1 t h1 (by omega))
                              rw [← HG.out, ← HG.out] at hsw
                              have HL := Lib.hid hL
                              have HS := Lib.hid hsw
                              clear hsw hL
                              go_wp2_with fail
                              go_region
                              go_wp2_with fail
                              refine bodyPost_ret (v := .tuple #[.int .i64 j', .bool false]) (by simp [results, Try.results52, go_sem]) rfl ⟨j', false, _, rfl, by omega, by omega, HL.out.1, HL.out.2.1, HL.out.2.2.1, HL.out.2.2.2, HS.out⟩
                    · go_wp2_with fail
                      go_big_quiet (first | (go_at_call 50; refine Calls.quiet_of_same (less_any _ _ _)))
                      go_wp2_with fail
                      have HP1 := Lib.hid (HU1.out.drewN nq)
                      clear hcw hfw HU1
                      generalize wr.drewN nq = W2 at HP1 ⊢
                      go_loopw [11] (fun vj wr => DnR lowP w blk off a b d (G0 pivot) i' j dk vj wr) (fun vj _ => nOf vj)
                      case atStart => exact ⟨j, rfl, Nat.le_refl _, hij', HP1.out⟩
                      case round =>
                        obtain ⟨j', rfl, hjj, hij2, hP2⟩ := hrel
                        have HP2 := Lib.hid hP2
                        clear hP2 HP1
                        have hcw : ∀ t, t < d.size → wr.cell? ⟨blk, off + t, none⟩ = some (.int .u64 (G t)) := fun t ht => by rw [HG.out]; exact HP2.out.su.c t (by rw [HP2.out.size]; exact ht)
                        have hfw : ∀ t, t < d.size → wr.frozen? ⟨blk, off + t, none⟩ = false := fun t ht => HP2.out.su.f t (by rw [HP2.out.size]; exact ht)
                        by_cases hle2 : i' ≤ j'
                        · exfalso; omega
                        · go_wp2_with fail
                          go_big_quiet (first | (go_at_call 50; refine Calls.quiet_of_same (less_any _ _ _)))
                          have HP3 := Lib.hid (HP2.out.drewN nq)
                          clear hcw hfw HP2
                          generalize wr.drewN nq = W3 at HP3 ⊢
                          have hcw : ∀ t, t < d.size → W3.cell? ⟨blk, off + t, none⟩ = some (.int .u64 (G t)) := fun t ht => by rw [HG.out]; exact HP3.out.su.c t (by rw [HP3.out.size]; exact ht)
                          have hfw : ∀ t, t < d.size → W3.frozen? ⟨blk, off + t, none⟩ = false := fun t ht => HP3.out.su.f t (by rw [HP3.out.size]; exact ht)
                          have hadd : a < d.size := by omega
                          have hjd : j' < d.size := by omega
                          by_cases hja2 : a = j'
                          · skip
                            subst hja2
                            have hsw := HP3.out.su.swapped a a (by rw [HP3.out.size]; omega) (by rw [HP3.out.size]; omega)
                            have hL := HP3.out.last (by omega) (by omega) (by omega) hb (fun t h1 h2 => HP3.out.2.2.1 t h1 (by omega))
                            rw [← HG.out] at hsw
                            have HL := Lib.hid hL
                            have HS := Lib.hid hsw
                            clear hsw hL
                            go_wp2_with fail
                            go_region
                            go_wp2_with fail
                            refine bodyPost_ret (v := .tuple #[.int .i64 a, .bool false]) (by simp [results, Try.results52, go_sem]) rfl ⟨a, false, _, rfl, by omega, by omega, HL.out.1, HL.out.2.1, HL.out.2.2.1, HL.out.2.2.2, HS.out⟩
                          · skip
                            skip
                            have hsw := HP3.out.su.swapped j' a (by rw [HP3.out.size]; omega) (by rw [HP3.out.size]; omega)
                            have hL := HP3.out.last (by omega) (by omega) (by omega) hb (fun t h1 h2 => HP3.out.2.2.1 t h1 (by omega))
                            rw [← HG.out, ← HG.out] at hsw
                            have HL := Lib.hid hL
                            have HS := Lib.hid hsw
                            clear hsw hL
                            go_wp2_with fail
                            go_region
                            go_wp2_with fail
                            refine bodyPost_ret (v := .tuple #[.int .i64 j', .bool false]) (by simp [results, Try.results52, go_sem]) rfl ⟨j', false, _, rfl, by omega, by omega, HL.out.1, HL.out.2.1, HL.out.2.2.1, HL.out.2.2.2, HS.out⟩
            · go_wp2_with fail
              go_big_quiet (first | (go_at_call 50; refine Calls.quiet_of_same (less_any _ _ _)))
              have HP3 := Lib.hid (HP2.out.drewN nq)
              clear hcw hfw HP2
              generalize wr.drewN nq = W3 at HP3 ⊢
              have hcw : ∀ t, t < d.size → W3.cell? ⟨blk, off + t, none⟩ = some (.int .u64 (G t)) := fun t ht => by rw [HG.out]; exact HP3.out.su.c t (by rw [HP3.out.size]; exact ht)
              have hfw : ∀ t, t < d.size → W3.frozen? ⟨blk, off + t, none⟩ = false := fun t ht => HP3.out.su.f t (by rw [HP3.out.size]; exact ht)
              have hadd : a < d.size := by omega
              have hjd : j' < d.size := by omega
              by_cases hja2 : a = j'
              · skip
                subst hja2
                have hsw := HP3.out.su.swapped a a (by rw [HP3.out.size]; omega) (by rw [HP3.out.size]; omega)
                have hL := HP3.out.last (by omega) (by omega) (by omega) hb (fun t h1 h2 => HP3.out.2.2.1 t h1 (by omega))
                rw [← HG.out] at hsw
                have HL := Lib.hid hL
                have HS := Lib.hid hsw
                clear hsw hL
                go_wp2_with fail
                go_region
                go_wp2_with fail
                refine bodyPost_ret (v := .tuple #[.int .i64 a, .bool true]) (by simp [results, Try.results52, go_sem]) rfl ⟨a, true, _, rfl, by omega, by omega, HL.out.1, HL.out.2.1, HL.out.2.2.1, HL.out.2.2.2, HS.out⟩
              · skip
                skip
                have hsw := HP3.out.su.swapped j' a (by rw [HP3.out.size]; omega) (by rw [HP3.out.size]; omega)
                have hL := HP3.out.last (by omega) (by omega) (by omega) hb (fun t h1 h2 => HP3.out.2.2.1 t h1 (by omega))
                rw [← HG.out, ← HG.out] at hsw
                have HL := Lib.hid hL
                have HS := Lib.hid hsw
                clear hsw hL
                go_wp2_with fail
                go_region
                go_wp2_with fail
                refine bodyPost_ret (v := .tuple #[.int .i64 j', .bool true]) (by simp [results, Try.results52, go_sem]) rfl ⟨j', true, _, rfl, by omega, by omega, HL.out.1, HL.out.2.1, HL.out.2.2.1, HL.out.2.2.2, HS.out⟩
      · go_wp2_with fail
        go_big_quiet (first | (go_at_call 50; refine Calls.quiet_of_same (less_any _ _ _)))
        go_wp2_with fail
        have HP1 := Lib.hid (HU1.out.drewN nq)
        clear hcw hfw HU1
        generalize wr.drewN nq = W2 at HP1 ⊢
        go_loopw [11] (fun vj wr => DnR lowP w blk off a b d (G0 pivot) i' j dk vj wr) (fun vj _ => nOf vj)
        case atStart => exact ⟨j, rfl, Nat.le_refl _, hij', HP1.out⟩
        case round =>
          obtain ⟨j', rfl, hjj, hij2, hP2⟩ := hrel
          have HP2 := Lib.hid hP2
          clear hP2 HP1
          have hcw : ∀ t, t < d.size → wr.cell? ⟨blk, off + t, none⟩ = some (.int .u64 (G t)) := fun t ht => by rw [HG.out]; exact HP2.out.su.c t (by rw [HP2.out.size]; exact ht)
          have hfw : ∀ t, t < d.size → wr.frozen? ⟨blk, off + t, none⟩ = false := fun t ht => HP2.out.su.f t (by rw [HP2.out.size]; exact ht)
          by_cases hle2 : i' ≤ j'
          · exfalso; omega
          · go_wp2_with fail
            go_big_quiet (first | (go_at_call 50; refine Calls.quiet_of_same (less_any _ _ _)))
            have HP3 := Lib.hid (HP2.out.drewN nq)
            clear hcw hfw HP2
            generalize wr.drewN nq = W3 at HP3 ⊢
            have hcw : ∀ t, t < d.size → W3.cell? ⟨blk, off + t, none⟩ = some (.int .u64 (G t)) := fun t ht => by rw [HG.out]; exact HP3.out.su.c t (by rw [HP3.out.size]; exact ht)
            have hfw : ∀ t, t < d.size → W3.frozen? ⟨blk, off + t, none⟩ = false := fun t ht => HP3.out.su.f t (by rw [HP3.out.size]; exact ht)
            have hadd : a < d.size := by omega
            have hjd : j' < d.size := by omega
            by_cases hja2 : a = j'
            · skip
              subst hja2
              have hsw := HP3.out.su.swapped a a (by rw [HP3.out.size]; omega) (by rw [HP3.out.size]; omega)
              have hL := HP3.out.last (by omega) (by omega) (by omega) hb (fun t h1 h2 => HP3.out.2.2.1 t h1 (by omega))
              rw [← HG.out] at hsw
              have HL := Lib.hid hL
              have HS := Lib.hid hsw
              clear hsw hL
              go_wp2_with fail
              go_region
              go_wp2_with fail
              refine bodyPost_ret (v := .tuple #[.int .i64 a, .bool true]) (by simp [results, Try.results52, go_sem]) rfl ⟨a, true, _, rfl, by omega, by omega, HL.out.1, HL.out.2.1, HL.out.2.2.1, HL.out.2.2.2, HS.out⟩
            · skip
              skip
              have hsw := HP3.out.su.swapped j' a (by rw [HP3.out.size]; omega) (by rw [HP3.out.size]; omega)
              have hL := HP3.out.last (by omega) (by omega) (by omega) hb (fun t h1 h2 => HP3.out.2.2.1 t h1 (by omega))
              rw [← HG.out, ← HG.out] at hsw
              have HL := Lib.hid hL
              have HS := Lib.hid hsw
              clear hsw hL
              go_wp2_with fail
              go_region
              go_wp2_with fail
              refine bodyPost_ret (v := .tuple #[.int .i64 j', .bool true]) (by simp [results, Try.results52, go_sem]) rfl ⟨j', true, _, rfl, by omega, by omega, HL.out.1, HL.out.2.1, HL.out.2.2.1, HL.out.2.2.2, HS.out⟩
end Go.Proofs.Ytkkolodolmppnaa.So
