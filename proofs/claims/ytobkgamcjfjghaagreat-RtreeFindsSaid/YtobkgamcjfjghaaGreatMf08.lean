/-
  Contracts of slices.stableCmpFunc, SortStableFunc at places, of which there are fewer than twenty: the row holds a permutation.
-/
import Derived.Test.YtobkgamcjfjghaaGreatMf07
import Derived.Sort.Lot0
import Derived.Test.YtobkgamcjfjghaaGreatMf03
import Derived.Deep.RegionHeld3
import Derived.BigGuard
import Derived.IntWalk
import Derived.CellFam
/-
  Contract of slices.insertionSortCmpFunc at places, by a comparator of which nothing is known but that it tells a number: the row holds a permutation of what it held; nothing else that was there is written.
-/
namespace Go.Proofs.YtobkgamcjfjghaaGreat.Rs
open Go.RowKit Go.Proofs.YtobkgamcjfjghaaGreat.So
set_option linter.unusedVariables false
set_option linter.unusedSimpArgs false
set_option maxHeartbeats 4000000
set_option maxRecDepth 100000
/-- The row's cells hold d, and may be written. -/
abbrev HI (W : World) (blk off : Nat) (d : Array Int) : Prop := Sort.Holds (Value.int .i64) W blk off d
/-- W has come of w: of what was there nothing but the row's block has been written, and the row holds d. -/
def SI (w : World) (blk off : Nat) (d : Array Int) (W : World) : Prop := HI W blk off d ∧ w.grownBy W (some blk)
theorem SI.start {w : World} {blk off : Nat} {d : Array Int} (h : HI w blk off d) : SI w blk off d w := ⟨h, World.grownBy.refl _ _⟩
theorem SI.trans {w W V : World} {blk off : Nat} {d d' : Array Int} (h : SI w blk off d W) (k : SI W blk off d' V) : SI w blk off d' V := ⟨k.1, grown_trans h.2 k.2⟩
theorem SI.drew {w W : World} {blk off : Nat} {d : Array Int} (h : SI w blk off d W) : SI w blk off d W.drew := ⟨h.1, grown_drewN h.2 1⟩
theorem SI.drewN {w W : World} {blk off : Nat} {d : Array Int} (h : SI w blk off d W) (n : Nat) : SI w blk off d (W.drewN n) := ⟨h.1, grown_drewN h.2 n⟩
theorem SI.c {w W : World} {blk off : Nat} {d : Array Int} (h : SI w blk off d W) (t : Nat) (ht : t < d.size) : W.cell? ⟨blk, off + t, none⟩ = some (.int .i64 d[t]!) := (h.1 t ht).1
theorem SI.f {w W : World} {blk off : Nat} {d : Array Int} (h : SI w blk off d W) (t : Nat) (ht : t < d.size) : W.frozen? ⟨blk, off + t, none⟩ = false := (h.1 t ht).2
theorem HI.lt {W : World} {blk off : Nat} {d : Array Int} (h : HI W blk off d) (h0 : 0 < d.size) : blk < W.heap.size := World.block_lt_of_cell? W ⟨blk, off + 0, none⟩ (h 0 h0).1
theorem SI.below {w W V : World} {blk off : Nat} {d : Array Int} (h : SI w blk off d W) (hb : Below W.heap.size W V) : SI w blk off d V := by
  refine ⟨fun t ht => ?_, grown_trans h.2 (grown_any hb)⟩
  have e : V.heap[blk]? = W.heap[blk]? := hb.block blk (World.block_lt_of_cell? W ⟨blk, off + t, none⟩ (h.1 t ht).1)
  exact ⟨(World.cell?_of_block (w := W) (a := ⟨blk, off + t, none⟩) e).trans (h.c t ht), (World.frozen?_of_block (w := W) (a := ⟨blk, off + t, none⟩) e).trans (h.f t ht)⟩
theorem SI.swap {w W : World} {blk off : Nat} {d : Array Int} (h : SI w blk off d W) (i j : Nat) (hi : i < d.size) (hj : j < d.size) :
    SI w blk off (Sort.swp d i j) ((W.setCell ⟨blk, off + i, none⟩ (.int .i64 d[j]!)).setCell ⟨blk, off + j, none⟩ (.int .i64 d[i]!)) := by
  refine ⟨?_, grown_set (grown_set h.2 _) _⟩
  have e := Sort.putRow_swp (Value.int .i64) W blk off d i j hi hj
  rw [Sort.putRow_self _ W blk off d h.1] at e
  show Sort.Holds (Value.int .i64) _ blk off _
  rw [e]
  exact Sort.holds_putRow (Value.int .i64) W blk off d _ h.1 (Sort.size_swp d i j)
/-- All are places. -/
def Pl (n : Nat) (d : Array Int) : Prop := ∀ i, 0 ≤ i → i < d.size → ∃ x : Nat, d[i]! = (x : Int) ∧ x < n
theorem Pl.perm {n : Nat} {d d' : Array Int} (h : Pl n d) (p : Sort.PermIn 0 d.size d d') : Pl n d' := by
  have := Sort.permIn_all d d' 0 d.size (fun z => ∃ x : Nat, z = (x : Int) ∧ x < n) (Nat.le_refl _) p h
  intro i h0 hi
  exact this i h0 (by rw [p.1] at hi; exact hi)
/-- The comparator tells a number of two places, whatever has been written to the row. -/
def CmpW (w : World) (blk n : Nat) (p2 p3 : Value) : Prop := ∀ W, w.grownBy W (some blk) → ∀ x y : Nat, x < n → y < n → Calls Tryz.prog 116 #[.int .i64 (x : Int), .int .i64 (y : Int), p2, p3] W fun e w' => ∃ m : Int, e = .returned (.int .i64 m) ∧ Below W.heap.size W w'
def InO (w : World) (blk off a b : Nat) (d : Array Int) (vi : Value) (wr : World) : Prop :=
  ∃ (i : Nat) (dk : Array Int), vi = .int .i64 i ∧ a < i ∧ i ≤ b + 1 ∧ Sort.PermIn 0 d.size d dk ∧ SI w blk off dk wr
def InI (w : World) (blk off a i : Nat) (d : Array Int) (vj : Value) (wr : World) : Prop :=
  ∃ (j : Nat) (dj : Array Int), vj = .int .i64 j ∧ a ≤ j ∧ j ≤ i ∧ Sort.PermIn 0 d.size d dj ∧ SI w blk off dj wr
theorem insert_any (blk off cap a b n : Nat) (p2 p3 : Value) (d : Array Int) (w : World) (hH : HI w blk off d) (hP : Pl n d) (hab : a ≤ b) (hb : b ≤ d.size) (hsz : d.size ≤ 1000) (hC : CmpW w blk n p2 p3) :
    Calls Tryz.prog 126 #[.slice (some ⟨blk, off, none⟩) d.size cap, .int .i64 a, .int .i64 b, .func (.func 116) #[] #[p2, p3]] w fun e w' =>
      e = .returned (.tuple #[]) ∧ ∃ d', Sort.PermIn 0 d.size d d' ∧ SI w blk off d' w' := by
  have HH := Lib.hid hH
  have HP := Lib.hid hP
  have HC := Lib.hid hC
  clear hH hP hC
  go_enter Tryz.func126, Tryz.ntmps126
  go_wp2
  go_loopw [8] (fun vi wr => InO w blk off a b d vi wr) (fun vi _ => b + 1 - nOf vi)
  case atStart => exact ⟨a + 1, d, by simp, by omega, by omega, Sort.permIn_refl _ _ _, SI.start HH.out⟩
  case round =>
    obtain ⟨i, dk, rfl, hai, hib, hp, hs⟩ := hrel
    have HPk := Lib.hid hp
    have HS := Lib.hid hs
    clear hp hs
    go_wp2
    · rename i < b => hlt
      have HLT := Lib.hid (show i < b from hlt)
      have hib2 : i ≤ d.size := by omega
      clear hlt
      go_loopw [9] (fun vj wr => InI w blk off a i d vj wr) (fun vj _ => nOf vj)
      case atStart => exact ⟨i, dk, rfl, by omega, Nat.le_refl _, HPk.out, HS.out⟩
      case round =>
        clear HPk HS
        obtain ⟨j, dj, rfl, haj, hji, hp, hs⟩ := hrel
        have HPj := Lib.hid hp
        have HSj := Lib.hid hs
        have hsz2 : dj.size = d.size := hp.1
        clear hp hs
        by_cases hja : a < j
        · obtain ⟨x, hx, hxn⟩ := (HP.out.perm HPj.out) j (by omega) (by have := HLT.out; omega)
          obtain ⟨y, hy, hyn⟩ := (HP.out.perm HPj.out) (j - 1) (by omega) (by have := HLT.out; omega)
          have c1 := HSj.out.c j (by have := HLT.out; omega)
          have c2 := HSj.out.c (j - 1) (by have := HLT.out; omega)
          have f1 := HSj.out.f j (by have := HLT.out; omega)
          have f2 := HSj.out.f (j - 1) (by have := HLT.out; omega)
          rw [hx] at c1
          rw [hy] at c2
          have CC := Lib.hid (fun W (hg : w.grownBy W (some blk)) => HC.out W hg x y hxn hyn)
          have HXY := Lib.hid (And.intro hx hy)
          clear hx hy
          have BL : blk < wr.heap.size := World.block_lt_of_cell? wr ⟨blk, off + j, none⟩ c1
          have HS : Hid (∀ W, Below wr.heap.size wr W → W.cell? ⟨blk, off + j, none⟩ = some (.int .i64 (x : Int)) ∧ W.cell? ⟨blk, off + (j - 1), none⟩ = some (.int .i64 (y : Int)) ∧ Below wr.heap.size wr W) := Lib.hid fun W hB => by
            have q1 : ∀ x, W.cell? ⟨blk, x, none⟩ = wr.cell? ⟨blk, x, none⟩ := fun x => World.cell?_of_block (w := wr) (w' := W) (a := ⟨blk, x, none⟩) (hB.block blk BL)
            simp only [q1]
            exact ⟨c1, c2, hB⟩
          have hjz : (a : Int) < (j : Int) := by omega
          have hjd : j < d.size := by have := HLT.out; omega
          have hje : j - 1 < d.size := by omega
          have hjw : IntKind.i64.wrap ((j : Int) - 1) = ((j - 1 : Nat) : Int) := by
            have e : ((j : Int) - 1) = ((j - 1 : Nat) : Int) := by omega
            rw [e]
            exact IntWalk.i64_in _ (by omega)
          go_wp2_with fail
          refine wp_region_held_drew (S := (fun W => W.cell? ⟨blk, off + j, none⟩ = some (.int .i64 (x : Int)) ∧ W.cell? ⟨blk, off + (j - 1), none⟩ = some (.int .i64 (y : Int)) ∧ Below wr.heap.size wr W)) (by kernel_rfl) (HS.out _ (Below.drew (Below.refl _ _))) (fun hHeld => ?_)
          refine wpAnyH_take (i := 0) (v := ?v0) rfl (by kernel_rfl) (by kernel_rfl) (by kernel_rfl) (fun _ _ _ h => h) (Or.inl ⟨by rfl, ?y0⟩) hHeld ?r0
          case y0 => (intro W hSw; simp only [List.getElem_toArray, List.getElem_cons_zero]; go_simp; try (with_reducible rfl))
          simp only [List.getElem_toArray, List.getElem_cons_zero, Act.put, List.setIfInBounds_toArray, List.set_cons_zero, List.set_cons_succ]
          refine wpAnyH_take (i := 1) (v := ?v1) rfl (by kernel_rfl) (by kernel_rfl) (by kernel_rfl) (fun _ _ _ h => h) (Or.inl ⟨by rfl, ?y1⟩) hHeld ?r1
          case y1 => (intro W hSw; simp only [List.getElem_toArray, List.getElem_cons_succ, List.getElem_cons_zero]; go_simp; try (with_reducible rfl))
          simp only [List.getElem_toArray, List.getElem_cons_succ, List.getElem_cons_zero, Act.put, List.setIfInBounds_toArray, List.set_cons_zero, List.set_cons_succ]
          refine wpAnyH_take (i := 2) (v := ?v2) rfl (by kernel_rfl) (by kernel_rfl) (by kernel_rfl) (fun _ _ _ h => h) (Or.inl ⟨by rfl, ?y2⟩) hHeld ?r2
          case y2 => (intro W hSw; simp only [List.getElem_toArray, List.getElem_cons_succ, List.getElem_cons_zero]; go_simp; try (with_reducible rfl))
          simp only [List.getElem_toArray, List.getElem_cons_succ, List.getElem_cons_zero, Act.put, List.setIfInBounds_toArray, List.set_cons_zero, List.set_cons_succ]
          refine wpAnyH_take (i := 3) (v := ?v3) rfl (by kernel_rfl) (by kernel_rfl) (by kernel_rfl) (fun _ _ _ h => h) (Or.inl ⟨by rfl, ?y3⟩) hHeld ?r3
          case y3 => (intro W hSw; simp only [List.getElem_toArray, List.getElem_cons_succ, List.getElem_cons_zero]; go_simp; try (with_reducible rfl))
          simp only [List.getElem_toArray, List.getElem_cons_succ, List.getElem_cons_zero, Act.put, List.setIfInBounds_toArray, List.set_cons_zero, List.set_cons_succ]
          refine wpAnyH_take (i := 4) (v := ?v4) rfl (by kernel_rfl) (by kernel_rfl) (by kernel_rfl) (fun _ _ _ h => h) (Or.inl ⟨by rfl, ?y4⟩) hHeld ?r4
          case y4 => (intro W hSw; simp only [List.getElem_toArray, List.getElem_cons_succ, List.getElem_cons_zero]; go_simp; try (with_reducible rfl))
          simp only [List.getElem_toArray, List.getElem_cons_succ, List.getElem_cons_zero, Act.put, List.setIfInBounds_toArray, List.set_cons_zero, List.set_cons_succ]
          refine wpAnyH_take (i := 5) (v := ?v5) rfl (by kernel_rfl) (by kernel_rfl) (by kernel_rfl) (fun _ _ _ h => h) (Or.inl ⟨by rfl, ?y5⟩) hHeld ?r5
          case y5 => (intro W hSw; simp only [List.getElem_toArray, List.getElem_cons_succ, List.getElem_cons_zero]; go_simp; try (with_reducible rfl))
          simp only [List.getElem_toArray, List.getElem_cons_succ, List.getElem_cons_zero, Act.put, List.setIfInBounds_toArray, List.set_cons_zero, List.set_cons_succ]
          refine wpAnyH_take (i := 6) (v := ?v6) rfl (by kernel_rfl) (by kernel_rfl) (by kernel_rfl) (fun _ _ _ h => h) (Or.inl ⟨by rfl, ?y6⟩) hHeld ?r6
          case y6 => (intro W hSw; simp only [List.getElem_toArray, List.getElem_cons_succ, List.getElem_cons_zero]; go_simp; try (with_reducible rfl))
          simp only [List.getElem_toArray, List.getElem_cons_succ, List.getElem_cons_zero, Act.put, List.setIfInBounds_toArray, List.set_cons_zero, List.set_cons_succ]
          refine wpAnyH_take (i := 7) (v := ?v7) rfl (by kernel_rfl) (by kernel_rfl) (by kernel_rfl) (fun _ _ _ h => h) (Or.inl ⟨by rfl, ?y7⟩) hHeld ?r7
          case y7 => (intro W hSw; simp only [List.getElem_toArray, List.getElem_cons_succ, List.getElem_cons_zero]; go_simp; try (with_reducible rfl))
          simp only [List.getElem_toArray, List.getElem_cons_succ, List.getElem_cons_zero, Act.put, List.setIfInBounds_toArray, List.set_cons_zero, List.set_cons_succ]
          refine wpAnyH_take (i := 8) (v := ?v8) rfl (by kernel_rfl) (by kernel_rfl) (by kernel_rfl) (fun _ _ _ h => h) (Or.inl ⟨by rfl, ?y8⟩) hHeld ?r8
          case y8 => (intro W hSw; simp only [List.getElem_toArray, List.getElem_cons_succ, List.getElem_cons_zero]; go_simp; try (with_reducible rfl))
          simp only [List.getElem_toArray, List.getElem_cons_succ, List.getElem_cons_zero, Act.put, List.setIfInBounds_toArray, List.set_cons_zero, List.set_cons_succ]
          refine wpAnyH_take (i := 9) (v := ?v9) rfl (by kernel_rfl) (by kernel_rfl) (by kernel_rfl) (fun _ _ _ h => h) (Or.inl ⟨by rfl, ?y9⟩) hHeld ?r9
          case y9 => (intro W hSw; simp only [List.getElem_toArray, List.getElem_cons_succ, List.getElem_cons_zero]; go_simp; try (with_reducible rfl))
          simp only [List.getElem_toArray, List.getElem_cons_succ, List.getElem_cons_zero, Act.put, List.setIfInBounds_toArray, List.set_cons_zero, List.set_cons_succ]
          refine wpAnyH_take (i := 10) (v := ?v10) rfl (by kernel_rfl) (by kernel_rfl) (by kernel_rfl) (fun _ _ _ h => h) (Or.inl ⟨by rfl, ?y10⟩) hHeld ?r10
          case y10 => (intro W hSw; simp only [List.getElem_toArray, List.getElem_cons_succ, List.getElem_cons_zero]; go_simp; try (with_reducible rfl))
          simp only [List.getElem_toArray, List.getElem_cons_succ, List.getElem_cons_zero, Act.put, List.setIfInBounds_toArray, List.set_cons_zero, List.set_cons_succ]
          refine wpAnyH_take (i := 11) (v := ?v11) rfl (by kernel_rfl) (by kernel_rfl) (by kernel_rfl) (fun _ _ _ h => h) (Or.inl ⟨by rfl, ?y11⟩) hHeld ?r11
          case y11 => (intro W hSw; simp only [List.getElem_toArray, List.getElem_cons_succ, List.getElem_cons_zero]; go_simp; try (with_reducible rfl))
          simp only [List.getElem_toArray, List.getElem_cons_succ, List.getElem_cons_zero, Act.put, List.setIfInBounds_toArray, List.set_cons_zero, List.set_cons_succ]
          refine wpAnyH_take (i := 12) (v := ?v12) rfl (by kernel_rfl) (by kernel_rfl) (by kernel_rfl) (fun _ _ _ h => h) (Or.inl ⟨by rfl, ?y12⟩) hHeld ?r12
          case y12 => (intro W hSw; simp only [List.getElem_toArray, List.getElem_cons_succ, List.getElem_cons_zero]; go_simp; try (with_reducible rfl))
          simp only [List.getElem_toArray, List.getElem_cons_succ, List.getElem_cons_zero, Act.put, List.setIfInBounds_toArray, List.set_cons_zero, List.set_cons_succ]
          refine wpAnyH_take (i := 13) (v := ?v13) rfl (by kernel_rfl) (by kernel_rfl) (by kernel_rfl) (fun _ _ _ h => h) (Or.inl ⟨by rfl, ?y13⟩) hHeld ?r13
          case y13 => (intro W hSw; simp only [List.getElem_toArray, List.getElem_cons_succ, List.getElem_cons_zero]; go_simp; try (with_reducible rfl))
          simp only [List.getElem_toArray, List.getElem_cons_succ, List.getElem_cons_zero, Act.put, List.setIfInBounds_toArray, List.set_cons_zero, List.set_cons_succ]
          refine wpAnyH_ready (rs := [14]) (by kernel_rfl) (by simp) (AllReadyH.cons rfl (fun K hK => ?_) AllReadyH.nil)
          simp only [List.getElem_toArray, List.getElem_cons_succ, List.getElem_cons_zero]
          go_simp
          go_at_call 116; refine (CC.out _ (grown_trans HSj.out.2 (grown_any hHeld.2.2))).mono ?_; rintro e w1 ⟨m, rfl, hb1⟩
          try go_wp2_with fail
          refine hK.out _ _ (by exact HS.out _ (hHeld.2.2.trans (hb1.mono hHeld.2.2.size))) (fun hHeld1 => ?_)
          clear hK K hHeld
          have hHeld := hHeld1; clear hHeld1
          try simp only [List.getElem_toArray, List.getElem_cons_succ, List.getElem_cons_zero, Act.put, List.setIfInBounds_toArray, List.set_cons_zero, List.set_cons_succ]
          refine wpAnyH_take (i := 15) (v := ?v15) rfl (by kernel_rfl) (by kernel_rfl) (by kernel_rfl) (fun _ _ _ h => h) (Or.inl ⟨by rfl, ?y15⟩) hHeld ?r15
          case y15 => (intro W hSw; simp only [List.getElem_toArray, List.getElem_cons_succ, List.getElem_cons_zero]; go_simp; try (with_reducible rfl))
          simp only [List.getElem_toArray, List.getElem_cons_succ, List.getElem_cons_zero, Act.put, List.setIfInBounds_toArray, List.set_cons_zero, List.set_cons_succ]
          refine wpAnyH_take (i := 16) (v := ?v16) rfl (by kernel_rfl) (by kernel_rfl) (by kernel_rfl) (fun _ _ _ h => h) (Or.inl ⟨by rfl, ?y16⟩) hHeld ?r16
          case y16 => (intro W hSw; simp only [List.getElem_toArray, List.getElem_cons_succ, List.getElem_cons_zero]; go_simp; try (with_reducible rfl))
          simp only [List.getElem_toArray, List.getElem_cons_succ, List.getElem_cons_zero, Act.put, List.setIfInBounds_toArray, List.set_cons_zero, List.set_cons_succ]
          refine wpAnyH_done (by kernel_rfl) ?_ _
          have SB := Lib.hid (HSj.out.below hHeld.2.2)
          clear hHeld c1 c2 f1 f2
          obtain ⟨G, hG⟩ : ∃ G : Nat → Int, ∀ t, G t = dj[t]! := ⟨fun t => dj[t]!, fun _ => rfl⟩
          have hcw : ∀ t, t < d.size → w1.cell? ⟨blk, off + t, none⟩ = some (.int .i64 (G t)) := fun t ht => by rw [hG]; exact SB.out.c t (by omega)
          have hfw : ∀ t, t < d.size → w1.frozen? ⟨blk, off + t, none⟩ = false := fun t ht => SB.out.f t (by omega)
          have HG := Lib.hid hG
          have HSZ := Lib.hid hsz2
          clear hG hsz2
          go_wp2_with fail
          · go_region
            all_goals go_wp2_with fail
            go_roundw
            case rel =>
              refine ⟨j - 1, Sort.swp dj j (j - 1), by congr 1, by omega, by omega, ?_, ?_⟩
              · exact Sort.permIn_trans _ _ _ _ _ HPj.out (by
                  have := Sort.swp_permIn dj 0 d.size j (j - 1) (Nat.zero_le _) (by omega) (Nat.zero_le _) (by omega) (by rw [HSZ.out]; exact Nat.le_refl _)
                  exact this)
              · rw [HG.out, HG.out]
                exact (SB.out.swap j (j - 1) (by rw [HSZ.out]; omega) (by rw [HSZ.out]; omega)).drew
            case measure => have := HLT.out; simp [nOf]; omega
          · go_roundw
            case rel => exact ⟨i + 1, dj, by go_num, by omega, by have := HLT.out; omega, HPj.out, SB.out⟩
            case measure => have := HLT.out; simp [nOf]; omega
        · have hjz : ¬ (a : Int) < (j : Int) := by omega
          go_wp2_with fail
          refine wp_region_held_drew (S := (fun W => Below wr.heap.size wr W)) (by kernel_rfl) (Below.drew (Below.refl _ _)) (fun hHeld => ?_)
          refine wpAnyH_take (i := 0) (v := ?vf0) rfl (by kernel_rfl) (by kernel_rfl) (by kernel_rfl) (fun _ _ _ h => h) (Or.inl ⟨by rfl, ?yf0⟩) hHeld ?rf0
          case yf0 => (intro W hSw; simp only [List.getElem_toArray, List.getElem_cons_zero]; go_simp; try (with_reducible rfl))
          simp only [List.getElem_toArray, List.getElem_cons_zero, Act.put, List.setIfInBounds_toArray, List.set_cons_zero, List.set_cons_succ]
          refine wpAnyH_take (i := 1) (v := ?vf1) rfl (by kernel_rfl) (by kernel_rfl) (by kernel_rfl) (fun _ _ _ h => h) (Or.inl ⟨by rfl, ?yf1⟩) hHeld ?rf1
          case yf1 => (intro W hSw; simp only [List.getElem_toArray, List.getElem_cons_succ, List.getElem_cons_zero]; go_simp; try (with_reducible rfl))
          simp only [List.getElem_toArray, List.getElem_cons_succ, List.getElem_cons_zero, Act.put, List.setIfInBounds_toArray, List.set_cons_zero, List.set_cons_succ]
          refine wpAnyH_take (i := 2) (v := ?vf2) rfl (by kernel_rfl) (by kernel_rfl) (by kernel_rfl) (fun _ _ _ h => h) (Or.inl ⟨by rfl, ?yf2⟩) hHeld ?rf2
          case yf2 => (intro W hSw; simp only [List.getElem_toArray, List.getElem_cons_succ, List.getElem_cons_zero]; go_simp; try (with_reducible rfl))
          simp only [List.getElem_toArray, List.getElem_cons_succ, List.getElem_cons_zero, Act.put, List.setIfInBounds_toArray, List.set_cons_zero, List.set_cons_succ]
          refine wpAnyH_take (i := 3) (v := ?vf3) rfl (by kernel_rfl) (by kernel_rfl) (by kernel_rfl) (fun _ _ _ h => h) (Or.inl ⟨by rfl, ?yf3⟩) hHeld ?rf3
          case yf3 => (intro W hSw; simp only [List.getElem_toArray, List.getElem_cons_succ, List.getElem_cons_zero]; go_simp; try (with_reducible rfl))
          simp only [List.getElem_toArray, List.getElem_cons_succ, List.getElem_cons_zero, Act.put, List.setIfInBounds_toArray, List.set_cons_zero, List.set_cons_succ]
          refine wpAnyH_take (i := 4) (v := undef) rfl (by kernel_rfl) (by kernel_rfl) (by kernel_rfl) (fun _ _ _ h => h) (Or.inr ⟨by rfl, rfl⟩) hHeld ?_
          simp only [List.getElem_toArray, List.getElem_cons_succ, List.getElem_cons_zero, Act.put, List.setIfInBounds_toArray, List.set_cons_zero, List.set_cons_succ]
          refine wpAnyH_take (i := 5) (v := undef) rfl (by kernel_rfl) (by kernel_rfl) (by kernel_rfl) (fun _ _ _ h => h) (Or.inr ⟨by rfl, rfl⟩) hHeld ?_
          simp only [List.getElem_toArray, List.getElem_cons_succ, List.getElem_cons_zero, Act.put, List.setIfInBounds_toArray, List.set_cons_zero, List.set_cons_succ]
          refine wpAnyH_take (i := 6) (v := undef) rfl (by kernel_rfl) (by kernel_rfl) (by kernel_rfl) (fun _ _ _ h => h) (Or.inr ⟨by rfl, rfl⟩) hHeld ?_
          simp only [List.getElem_toArray, List.getElem_cons_succ, List.getElem_cons_zero, Act.put, List.setIfInBounds_toArray, List.set_cons_zero, List.set_cons_succ]
          refine wpAnyH_take (i := 7) (v := undef) rfl (by kernel_rfl) (by kernel_rfl) (by kernel_rfl) (fun _ _ _ h => h) (Or.inr ⟨by rfl, rfl⟩) hHeld ?_
          simp only [List.getElem_toArray, List.getElem_cons_succ, List.getElem_cons_zero, Act.put, List.setIfInBounds_toArray, List.set_cons_zero, List.set_cons_succ]
          refine wpAnyH_take (i := 8) (v := undef) rfl (by kernel_rfl) (by kernel_rfl) (by kernel_rfl) (fun _ _ _ h => h) (Or.inr ⟨by rfl, rfl⟩) hHeld ?_
          simp only [List.getElem_toArray, List.getElem_cons_succ, List.getElem_cons_zero, Act.put, List.setIfInBounds_toArray, List.set_cons_zero, List.set_cons_succ]
          refine wpAnyH_take (i := 9) (v := undef) rfl (by kernel_rfl) (by kernel_rfl) (by kernel_rfl) (fun _ _ _ h => h) (Or.inr ⟨by rfl, rfl⟩) hHeld ?_
          simp only [List.getElem_toArray, List.getElem_cons_succ, List.getElem_cons_zero, Act.put, List.setIfInBounds_toArray, List.set_cons_zero, List.set_cons_succ]
          refine wpAnyH_take (i := 10) (v := undef) rfl (by kernel_rfl) (by kernel_rfl) (by kernel_rfl) (fun _ _ _ h => h) (Or.inr ⟨by rfl, rfl⟩) hHeld ?_
          simp only [List.getElem_toArray, List.getElem_cons_succ, List.getElem_cons_zero, Act.put, List.setIfInBounds_toArray, List.set_cons_zero, List.set_cons_succ]
          refine wpAnyH_take (i := 11) (v := undef) rfl (by kernel_rfl) (by kernel_rfl) (by kernel_rfl) (fun _ _ _ h => h) (Or.inr ⟨by rfl, rfl⟩) hHeld ?_
          simp only [List.getElem_toArray, List.getElem_cons_succ, List.getElem_cons_zero, Act.put, List.setIfInBounds_toArray, List.set_cons_zero, List.set_cons_succ]
          refine wpAnyH_take (i := 12) (v := undef) rfl (by kernel_rfl) (by kernel_rfl) (by kernel_rfl) (fun _ _ _ h => h) (Or.inr ⟨by rfl, rfl⟩) hHeld ?_
          simp only [List.getElem_toArray, List.getElem_cons_succ, List.getElem_cons_zero, Act.put, List.setIfInBounds_toArray, List.set_cons_zero, List.set_cons_succ]
          refine wpAnyH_take (i := 13) (v := undef) rfl (by kernel_rfl) (by kernel_rfl) (by kernel_rfl) (fun _ _ _ h => h) (Or.inr ⟨by rfl, rfl⟩) hHeld ?_
          simp only [List.getElem_toArray, List.getElem_cons_succ, List.getElem_cons_zero, Act.put, List.setIfInBounds_toArray, List.set_cons_zero, List.set_cons_succ]
          refine wpAnyH_take (i := 14) (v := undef) rfl (by kernel_rfl) (by kernel_rfl) (by kernel_rfl) (fun _ _ _ h => h) (Or.inr ⟨by rfl, rfl⟩) hHeld ?_
          simp only [List.getElem_toArray, List.getElem_cons_succ, List.getElem_cons_zero, Act.put, List.setIfInBounds_toArray, List.set_cons_zero, List.set_cons_succ]
          refine wpAnyH_take (i := 15) (v := undef) rfl (by kernel_rfl) (by kernel_rfl) (by kernel_rfl) (fun _ _ _ h => h) (Or.inr ⟨by rfl, rfl⟩) hHeld ?_
          simp only [List.getElem_toArray, List.getElem_cons_succ, List.getElem_cons_zero, Act.put, List.setIfInBounds_toArray, List.set_cons_zero, List.set_cons_succ]
          refine wpAnyH_take (i := 16) (v := ?vf16) rfl (by kernel_rfl) (by kernel_rfl) (by kernel_rfl) (fun _ _ _ h => h) (Or.inl ⟨by rfl, ?yf16⟩) hHeld ?rf16
          case yf16 => (intro W hSw; simp only [List.getElem_toArray, List.getElem_cons_succ, List.getElem_cons_zero]; go_simp; try (with_reducible rfl))
          simp only [List.getElem_toArray, List.getElem_cons_succ, List.getElem_cons_zero, Act.put, List.setIfInBounds_toArray, List.set_cons_zero, List.set_cons_succ]
          refine wpAnyH_done (by kernel_rfl) ?_ _
          clear hHeld
          go_wp2_with fail
          go_roundw
          case rel => exact ⟨i + 1, dj, by go_num, by omega, by have := HLT.out; omega, HPj.out, HSj.out.drew⟩
          case measure => have := HLT.out; simp [nOf]; omega
    · have hge : ¬ i < b := by assumption
      go_end0
      exact ⟨rfl, dk, HPk.out, HS.out⟩
end Go.Proofs.YtobkgamcjfjghaaGreat.Rs
namespace Go.Proofs.YtobkgamcjfjghaaGreat.Rs
open Go.RowKit Go.Proofs.YtobkgamcjfjghaaGreat.So
set_option linter.unusedVariables false
set_option linter.unusedSimpArgs false
set_option maxHeartbeats 4000000
set_option maxRecDepth 100000
def Sorted (w : World) (blk off : Nat) (d : Array Int) (e : Ending) (w' : World) : Prop := e = .returned (.tuple #[]) ∧ ∃ d', Sort.PermIn 0 d.size d d' ∧ SI w blk off d' w'
theorem stable_any (blk off cap n : Nat) (p2 p3 : Value) (d : Array Int) (w : World) (hH : HI w blk off d) (hP : Pl n d) (hsz : d.size < 20) (hC : CmpW w blk n p2 p3) :
    Calls Tryz.prog 124 #[.slice (some ⟨blk, off, none⟩) d.size cap, .int .i64 d.size, .func (.func 116) #[] #[p2, p3]] w (Sorted w blk off d) := by
  have CI := Lib.hid (insert_any blk off cap 0 d.size n p2 p3 d w hH hP (Nat.zero_le _) (Nat.le_refl _) (by omega) hC)
  clear hH hP hC
  obtain ⟨m, hm⟩ : ∃ m, m = d.size := ⟨_, rfl⟩
  have h1 : ¬ (20 : Int) ≤ (m : Int) := by omega
  have h2 : ¬ (20 : Int) < (m : Int) := by omega
  rw [← hm] at CI hsz ⊢
  have HM := Lib.hid hm
  clear hm
  go_enter Tryz.func124, Tryz.ntmps124
  go_wp2_with fail
  go_loopw [7, 8] (fun v7 v8 wr => v7 = .int .i64 0 ∧ v8 = .int .i64 20 ∧ wr = w) (fun _ _ _ => 0)
  case atStart => exact ⟨rfl, rfl, rfl⟩
  case round =>
    obtain ⟨rfl, rfl, rfl⟩ := hrel
    go_wp2_with fail
    refine Calls.mono CI.out ?_
    rintro e w1 ⟨rfl, d', hp, hs⟩
    have HD := Lib.hid (And.intro hp hs)
    clear hp hs
    go_wp2_with fail
    go_loopw [6, 7, 8, 9] (fun v6 v7 v8 v9 wr => v6 = .int .i64 20 ∧ wr = w1) (fun _ _ _ _ _ => 0)
    case atStart => exact ⟨rfl, rfl⟩
    case round =>
      obtain ⟨rfl, rfl⟩ := hrel
      go_wp2_with fail
      go_end0
      rw [HM.out] at HD
      exact ⟨rfl, d', HD.out.1, HD.out.2⟩
theorem sortStable_any (blk off cap n : Nat) (p2 p3 : Value) (d : Array Int) (w : World) (hH : HI w blk off d) (hP : Pl n d) (hsz : d.size < 20) (hC : CmpW w blk n p2 p3) :
    Calls Tryz.prog 115 #[.slice (some ⟨blk, off, none⟩) d.size cap, .func (.func 116) #[] #[p2, p3]] w (Sorted w blk off d) := by
  have CI := Lib.hid (stable_any blk off cap n p2 p3 d w hH hP hsz hC)
  clear hH hP hC
  obtain ⟨m, hm⟩ : ∃ m, m = d.size := ⟨_, rfl⟩
  rw [← hm] at CI hsz ⊢
  have HM := Lib.hid hm
  clear hm
  go_enter Tryz.func115, Tryz.ntmps115
  go_wp2_with fail
  refine Calls.mono CI.out ?_
  rintro e w1 ⟨rfl, hd⟩
  go_wp2_with fail
  go_end0
  exact ⟨rfl, hd⟩
end Go.Proofs.YtobkgamcjfjghaaGreat.Rs
