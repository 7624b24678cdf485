/-
  Contract of slices.pdqsortOrdered at uint64: from a on, below b, the row is permuted and sorted; nothing else that was there is written.
-/
import Derived.Test.YtkkolodolmppnaaSoGlue
import Derived.Test.YtkkolodolmppnaaSoHeap
import Derived.Test.YtkkolodolmppnaaSoRev
import Derived.Test.YtkkolodolmppnaaSoPivot
import Derived.Test.YtkkolodolmppnaaSoBreak
import Derived.Test.YtkkolodolmppnaaSoPins
import Derived.Test.YtkkolodolmppnaaSoPart
import Derived.Test.YtkkolodolmppnaaSoPartE
import Derived.Deep.Cut
import Derived.Deep.CutRange
import Derived.Deep.LoopGhost
namespace Go.Proofs.Ytkkolodolmppnaa.So
open Go.RowKit
set_option linter.unusedVariables false

theorem SU.below {w W V : World} {blk off : Nat} {d : Array Int} (h : SU w blk off d W) (hb : blk < W.heap.size) (hB : Below W.heap.size W V) : SU w blk off d V :=
  ⟨fun t ht => ⟨(World.cell?_of_block (w := W) (a := ⟨blk, off + t, none⟩) (hB.block blk hb)).trans (h.c t ht), (World.frozen?_of_block (w := W) (a := ⟨blk, off + t, none⟩) (hB.block blk hb)).trans (h.f t ht)⟩, grown_trans h.2 (grown_any hB)⟩
theorem SU.at {w W : World} {blk off : Nat} {d : Array Int} (h : SU w blk off d W) (hb : blk < w.heap.size) : blk < W.heap.size := Nat.lt_of_lt_of_le hb h.2.size
/-- What stands ahead of each round. -/
def PdR (w : World) (blk off A B lim0 : Nat) (D : Array Int) (k : Nat) (s1 s2 s3 s8 s9 : Value) (wr : World) : Prop :=
  ∃ (a b lim : Nat) (wb wp : Bool) (d : Array Int), s1 = .int .i64 a ∧ s2 = .int .i64 b ∧ s3 = .int .i64 lim ∧ s8 = .bool wb ∧ s9 = .bool wp ∧
    a ≤ b ∧ b ≤ D.size ∧ b - a ≤ k ∧ k ≤ B - A ∧ lim ≤ lim0 ∧ d.size = D.size ∧ Sort.Below Sort.ltInt a b d ∧ Whole A B D a b d ∧ SU w blk off d wr
theorem eighth_eq {x y p q : Nat} (h1 : q ≤ p) (h2 : y ≤ x) : decide (((x : Int) - (y : Int)) / 8 ≤ (p : Int) - (q : Int)) = decide ((x - y) / 8 ≤ p - q) := by
  congr 1
  apply propext
  omega

set_option maxHeartbeats 8000000 in
set_option maxRecDepth 1000000 in
theorem pdq_any : ∀ (N blk off cap A B lim0 : Nat) (D : Array Int) (w : World), B - A < N → HU w blk off D → blk < w.heap.size → A ≤ B → B ≤ D.size → D.size < 1152921504606846976 → lim0 < 1152921504606846976 → Sort.Below Sort.ltInt A B D →
    Calls Try.prog 39 #[.slice (some ⟨blk, off, none⟩) D.size cap, .int .i64 A, .int .i64 B, .int .i64 lim0] w fun e w' =>
      ∃ d' : Array Int, e = .returned (.tuple #[]) ∧ Sort.PermIn A B D d' ∧ Sort.SortedIn Sort.ltInt A B d' ∧ SU w blk off d' w' := by
  intro N
  induction N with
  | zero => intro _ _ _ _ _ _ _ _ h; exact absurd h (Nat.not_lt_zero _)
  | succ N ih =>
    intro blk off cap A B lim0 D w hN hH hblk hAB hB hsz hlim0 hBel0
    have IH := Lib.hid ih
    have HH := Lib.hid (SU.start hH)
    have HB0 := Lib.hid hBel0
    clear ih hH hBel0
    go_enter Try.func39, Try.ntmps39
    go_wp2
    go_loopg [1, 2, 3, 8, 9] (B - A) (fun k s1 s2 s3 s8 s9 wr => PdR w blk off A B lim0 D k s1 s2 s3 s8 s9 wr)
    case atStart => exact ⟨A, B, lim0, true, true, D, rfl, rfl, rfl, rfl, rfl, hAB, hB, Nat.le_refl _, Nat.le_refl _, Nat.le_refl _, rfl, HB0.out, fun R h1 h2 => ⟨h1, h2⟩, HH.out⟩
    case round =>
      obtain ⟨a, b, lim, wb, wp, d, rfl, rfl, rfl, rfl, rfl, hab, hb, hk, hkN, hlim, hds, hBel, hW, hS⟩ := hrel
      have SZ := Lib.hid hds
      have BL := Lib.hid hBel
      have WH := Lib.hid hW
      have SS := Lib.hid hS
      have hblk1 := hS.at hblk
      clear hds hBel hW hS HH HB0
      by_cases h12 : b - a ≤ 12
      · have h12z : (b : Int) - (a : Int) ≤ 12 := by omega
        have hc := ins_any blk off cap a b d wr SS.out.1 hab (by rw [SZ.out]; exact hb) (by rw [SZ.out]; omega)
        rw [SZ.out] at hc
        go_wp2_with (go_at_call 44; refine hc.mono ?_; rintro e w1 ⟨rfl, hw1⟩)
        (try simp only [Exit.inBlock, Exit.then]); refine bodyPost_ret (results_none rfl _ _ _) rfl ?_
        have hi := Sort.insertionSort_holds (lt := Sort.ltInt) Sort.swo_ltInt d a b hab (by rw [SZ.out]; exact hb)
        have hw := WH.out _ hi.1 hi.2
        exact ⟨_, rfl, hw.1, hw.2, SS.out.trans hw1⟩
      · have h12z : ¬ ((b : Int) - (a : Int) ≤ 12) := by omega
        by_cases hl0 : lim = 0
        · subst hl0
          have hc := heap_any blk off cap a b d wr SS.out.1 hab (by rw [SZ.out]; exact hb) (by rw [SZ.out]; omega)
          rw [SZ.out] at hc
          go_wp2_with (go_at_call 45; refine hc.mono ?_; rintro e w1 ⟨rfl, hw1⟩)
          (try simp only [Exit.inBlock, Exit.then]); refine bodyPost_ret (results_none rfl _ _ _) rfl ?_
          have hi := Sort.heapSort_holds (lt := Sort.ltInt) Sort.swo_ltInt d a b hab (by rw [SZ.out]; exact hb)
          have hw := WH.out _ hi.1 hi.2
          exact ⟨_, rfl, hw.1, hw.2, SS.out.trans hw1⟩
        · have hl0z : ¬ ((lim : Int) = 0) := by omega
          go_upto_if 35 with fail
          go_cut [3] from 19 to 133 (fun s3 wc => ∃ (lim1 : Nat) (d1 : Array Int), s3 = .int .i64 lim1 ∧ lim1 ≤ lim0 ∧ Sort.PermIn a b d d1 ∧ SU w blk off d1 wc)
          case first =>
            cases wb
            · have hc := break_any blk off cap a b d wr SS.out.1 hblk1 (by omega) (by rw [SZ.out]; exact hb) (by rw [SZ.out]; exact hsz)
              rw [SZ.out] at hc
              go_wp2_with (go_at_call 46; refine hc.mono ?_; rintro e w1 ⟨d1, rfl, hp1, hw1⟩)
              go_meet
              case rel => exact ⟨lim - 1, d1, by congr 1; omega, by omega, hp1, SS.out.trans hw1⟩
            · go_wp2_with fail
              go_meet
              case rel => exact ⟨lim, d, rfl, hlim, Sort.permIn_refl _ _ _, SS.out⟩
          case rest =>
            obtain ⟨lim1, d1, rfl, hlim1, hp1, hS1⟩ := hcut
            have hz1 : d1.size = D.size := hp1.1.trans SZ.out
            have W1 := WH.out.perm hp1
            have B1 := BL.out.perm (by rw [SZ.out]; exact hb) hp1
            clear SS WH BL SZ hp1
            have hc17 := pivot_any blk off cap a b d1 wc hS1.1 (hS1.at hblk) (by omega) (by omega) (by omega)
            rw [hz1] at hc17
            go_upto_if 50 with (go_at_call 47; refine hc17.mono ?_; rintro e w2 ⟨pv, hh, rfl, hpa, hpb, hh2, hw2⟩)
            have hS2 := hS1.below (hS1.at hblk) hw2
            clear hc17 hw2
            go_cut [11, 12] from 19 to 133 (fun s11 s12 wc => ∃ (pv h : Nat) (d2 : Array Int), s11 = .int .i64 pv ∧ s12 = .int .i64 h ∧ a ≤ pv ∧ pv < b ∧ Sort.PermIn a b d1 d2 ∧ SU w blk off d2 wc)
            case first =>
              by_cases hdec : hh = 2
              · subst hdec
                have hc18 := rev_any blk off cap a b d1 w2 hS2.1 hab (by omega) (by omega)
                rw [hz1] at hc18
                go_wp2_with (go_at_call 48; refine hc18.mono ?_; rintro e w3 ⟨rfl, hw3⟩)
                go_meet
                case rel => exact ⟨(b - 1) - (pv - a), 1, _, by congr 1; omega, rfl, by omega, by omega, Sort.reverseRange_holds d1 a b hab (by omega), hS2.trans hw3⟩
              · have hdz : ¬ ((hh : Int) = 2) := by omega
                go_wp2_with fail
                go_meet
                case rel => exact ⟨pv, hh, d1, rfl, rfl, hpa, hpb, Sort.permIn_refl _ _ _, hS2⟩
            case rest =>
              clear hpa hpb hh2 pv hh hS2
              obtain ⟨pv, h, d2, rfl, rfl, hpa, hpb, hp2, hS2⟩ := hcut
              have hz2 : d2.size = D.size := hp2.1.trans hz1
              have W2 := W1.perm hp2
              have B2 := B1.perm (by omega) hp2
              clear W1 B1 hS1 hp2
              go_upto_region 15 with fail
              go_cut [12, 68] from 19 to 133 (fun s12 s68 wx => ∃ c : Bool, s12 = .int .i64 h ∧ s68 = .bool c ∧ wx = wc)
              case first =>
                cases wb <;> cases wp <;> by_cases hh1 : (h : Int) = 1 <;>
                  (go_wp2_with fail
                   go_meet
                   exact ⟨_, rfl, rfl, rfl⟩)
              case rest =>
                obtain ⟨c, rfl, rfl, rfl⟩ := hcut
                go_upto_if 68 with fail
                go_cut [] from 19 to 133 (fun wx => ∃ d3 : Array Int, Sort.PermIn a b d2 d3 ∧ SU w blk off d3 wx)
                case first =>
                  cases c
                  · go_wp2_with fail
                    go_meet
                    case rel => exact ⟨d2, Sort.permIn_refl _ _ _, hS2⟩
                  · have hc19 := pins_any blk off cap a b d2 wc hS2.1 (by omega) (by omega) B2 (by omega)
                    rw [hz2] at hc19
                    go_wp2_with (go_at_call 49; refine hc19.mono ?_; rintro e w4 ⟨ok, d3, rfl, hp3, hso, hw4⟩; cases ok)
                    all_goals first
                      | (go_meet
                         exact ⟨d3, hp3, hS2.trans hw4⟩)
                      | ((try simp only [Exit.inBlock, Exit.then]); refine bodyPost_ret (results_none rfl _ _ _) rfl ?_
                         have hw := W2 d3 hp3 (by simpa using hso)
                         first | exact ⟨d3, rfl, hw.1, hw.2, hS2.trans hw4⟩ | exact ⟨rfl, d3, hw.1, hw.2, hS2.trans hw4⟩)
                case rest =>
                  clear hS2
                  obtain ⟨d3, hp3, hS3⟩ := hcut
                  have hz3 : d3.size = D.size := hp3.1.trans hz2
                  have W3 := W2.perm hp3
                  have B3 := B2.perm (by omega) hp3
                  clear W2 B2 hp3
                  obtain ⟨G, hG⟩ : ∃ G : Nat → Int, ∀ t, G t = d3[t]! := ⟨fun t => d3[t]!, fun _ => rfl⟩
                  have hcw : ∀ t, t < D.size → wc.cell? ⟨blk, off + t, none⟩ = some (.int .u64 (G t)) := fun t ht => by rw [hG]; exact hS3.c t (by omega)
                  have hfw : ∀ t, t < D.size → wc.frozen? ⟨blk, off + t, none⟩ = false := fun t ht => hS3.f t (by omega)
                  have HG := Lib.hid hG
                  have S3 := Lib.hid hS3
                  have W3 := Lib.hid W3
                  have B3 := Lib.hid B3
                  have Z3 := Lib.hid hz3
                  clear hG hS3 hz1 hz2 hz3
                  go_upto_region 17 with fail
                  go_cut [87] from 19 to 133 (fun s87 wx => ∃ q : Bool, s87 = .bool q ∧ (q = true → 0 < a ∧ Sort.ltInt d3[a - 1]! d3[pv]! = false) ∧ SU w blk off d3 wx)
                  case first =>
                    rcases Nat.eq_zero_or_pos a with ha0 | ha0
                    · have ha0z : decide ((a : Int) > 0) = false := decide_eq_false (by omega)
                      go_big_quiet (first | (go_at_call 50; refine Calls.quiet_of_same (less_any _ _ _)))
                      go_wp2_with fail
                      go_meet
                      case rel => exact ⟨false, rfl, (fun h => by cases h), S3.out.drewN nq⟩
                    · have ha0z : (a : Int) > 0 := by omega
                      go_big_quiet (first | (go_at_call 50; refine Calls.quiet_of_same (less_any _ _ _)))
                      go_wp2_with fail
                      go_meet
                      case rel => exact ⟨_, rfl, fun h => ⟨ha0, by rw [← HG.out, ← HG.out]; simpa using h⟩, S3.out.drewN nq⟩
                  case rest =>
                    clear hcw hfw HG S3
                    clear G
                    obtain ⟨q, rfl, hq, hS4⟩ := hcut
                    have hz3 := Z3.out
                    cases q
                    · have hc22 := part_any blk off cap a b pv d3 wc hS4.1 hpa hpb (by omega) (by omega)
                      rw [hz3] at hc22
                      clear hz3
                      go_upto_if 113 with (go_at_call 52; refine hc22.mono ?_; rintro e w7 ⟨mid, ap, d4, rfl, hm1, hm2, hp4, hpm, hle, hri, hw7⟩)
                      have hz4 : d4.size = D.size := hp4.1.trans Z3.out
                      have hQ : Parted a b mid d3[pv]! d4 := ⟨hpm, fun t h1 h2 => ltT.1 (hle t h1 h2), fun t h1 h2 => ltF.1 (hri t h1 h2)⟩
                      have hS7 := hS4.trans hw7
                      have Q7 := Lib.hid hQ
                      have P7 := Lib.hid hp4
                      have S7 := Lib.hid hS7
                      clear hc22 hq hpm hle hri hw7 hQ hp4 hS7 hS4
                      by_cases h4 : mid - a < b - mid
                      · have h4z : (mid : Int) - (a : Int) < (b : Int) - (mid : Int) := by omega
                        have hih := IH.out blk off cap a mid lim1 d4 w7 (by omega) S7.out.1 (S7.out.at hblk) (by omega) (by omega) (by omega) (by omega) ((B3.out.perm (by rw [Z3.out]; omega) P7.out).mono (by omega))
                        rw [hz4] at hih
                        go_wp2_with (go_at_call 39; refine hih.mono ?_; rintro e w8 ⟨d5, rfl, hp5, hs5, hw8⟩)
                        have hgl := glueL W3.out hm1 hm2 (by rw [Z3.out]; omega) P7.out Q7.out hp5 hs5
                        go_roundg (b - (mid + 1))
                        case measure => omega
                        case rel =>
                          refine ⟨mid + 1, b, lim1, _, ap, d5, by simp, rfl, rfl, rfl, rfl, by omega, by omega, Nat.le_refl _, by omega, hlim1, hp5.1.trans hz4, hgl.1, hgl.2, S7.out.trans hw8⟩
                      · have h4z : ¬ ((mid : Int) - (a : Int) < (b : Int) - (mid : Int)) := by omega
                        have hih := IH.out blk off cap (mid + 1) b lim1 d4 w7 (by omega) S7.out.1 (S7.out.at hblk) (by omega) (by omega) (by omega) (by omega) Q7.out.belowR
                        rw [hz4] at hih
                        go_wp2_with (go_at_call 39; refine hih.mono ?_; rintro e w8 ⟨d5, rfl, hp5, hs5, hw8⟩)
                        have hgl := glueR W3.out hm1 hm2 (by rw [Z3.out]; omega) B3.out P7.out Q7.out hp5 hs5
                        go_roundg (mid - a)
                        case measure => omega
                        case rel =>
                          refine ⟨a, mid, lim1, _, ap, d5, rfl, rfl, rfl, rfl, rfl, by omega, by omega, Nat.le_refl _, by omega, hlim1, hp5.1.trans hz4, hgl.1, hgl.2, S7.out.trans hw8⟩
                    · have hc21 := partE_any blk off cap a b pv d3 wc hS4.1 hpa hpb (by omega) (by omega)
                      rw [hz3] at hc21
                      have hq2 := hq rfl
                      clear hz3 hq
                      go_wp2_with (go_at_call 51; refine hc21.mono ?_; rintro e w7 ⟨mid, d4, rfl, hm1, hm2, hp4, hle, hri, hw7⟩)
                      have hgl := glueE W3.out hq2.1 hpa hpb (by rw [Z3.out]; omega) B3.out hq2.2 hm1 hm2 hp4 hle hri
                      go_roundg (b - mid)
                      case measure => omega
                      case rel => exact ⟨mid, b, lim1, wb, wp, d4, rfl, rfl, rfl, rfl, rfl, hm2, hb, Nat.le_refl _, by omega, hlim1, hp4.1.trans Z3.out, hgl.1, hgl.2, hS4.trans hw7⟩
end Go.Proofs.Ytkkolodolmppnaa.So
