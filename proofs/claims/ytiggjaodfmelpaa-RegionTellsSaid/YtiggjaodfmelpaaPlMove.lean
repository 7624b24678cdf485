/-
  The contract of Move of layer 3 (poly), for any list of at most 70 points and any point. Memory that was there is left as it was; the points that it tells lie in a new block.
-/
import Derived.Test.YtiggjaodfmelpaaPlTop
import Derived.Test.YtiggjaodfmelpaaPtAdd
import Derived.LaidEql
import Derived.KernelRfl
import Derived.OwnWalk
namespace Go.Proofs.Ytiggjaodfmelpaa.Pl
open Go.RowKit Go.Proofs.Ytiggjaodfmelpaa.Pt Go.Proofs.Ytiggjaodfmelpaa.Rc Go.Proofs.Ytiggjaodfmelpaa.Pts
set_option linter.unusedVariables false

theorem neq_range (w : World) : (binOp .neq 32 (.iface 37 (.int .i64 11)) .nilIface).run Try.prog w = .ok (.bool true) w := by kernel_rfl
theorem neq_nil (w : World) : (binOp .neq 32 .nilIface .nilIface).run Try.prog w = .ok (.bool false) w := by kernel_rfl

/-- A row of n points in block g, that may be written; the first ones are these. -/
def Row (W : World) (g n : Nat) (ps : List Pnt) : Prop := (∀ j, j < n * 2 → (W.cell? ⟨g, j, none⟩).isSome = true) ∧ (∀ j, W.frozen? ⟨g, j, none⟩ = false) ∧ ∀ (k : Nat) (h : k < ps.length), W.cell? ⟨g, k * 2, none⟩ = some (.int .i64 ps[k].1) ∧ W.cell? ⟨g, k * 2 + 1, none⟩ = some (.int .i64 ps[k].2)
theorem Row.below {W w1 : World} {g n B : Nat} {ps : List Pnt} (h : Row W g n ps) (hb : Below B W w1) (hg : g < B) : Row w1 g n ps := by
  obtain ⟨a, b, c⟩ := h
  have hc := fun o => hb.cell (p := ⟨g, o, none⟩) hg
  have hf := fun o => hb.frozen (p := ⟨g, o, none⟩) hg
  exact ⟨fun j hj => by rw [hc j]; exact a j hj, fun j => by rw [hf j]; exact b j, fun k hk => ⟨by rw [hc]; exact (c k hk).1, by rw [hc]; exact (c k hk).2⟩⟩
theorem Row.lt {W : World} {g n : Nat} {ps : List Pnt} (h : Row W g n ps) (hn : 0 < n) : g < W.heap.size := by
  obtain ⟨u, hu⟩ := Option.isSome_iff_exists.1 (h.1 0 (by omega))
  exact World.block_lt_of_cell? W ⟨g, 0, none⟩ hu
theorem Row.put {W : World} {g n : Nat} {ps : List Pnt} (h : Row W g n ps) (k : Nat) (hk : ps.length = k) (hn : k < n) (x y : Int) :
    Row ((W.setCell ⟨g, k * 2, none⟩ (.int .i64 x)).setCell ⟨g, k * 2 + 1, none⟩ (.int .i64 y)) g n (ps ++ [(x, y)]) := by
  obtain ⟨a, b, c⟩ := h
  have oth : ∀ j, j ≠ k * 2 → j ≠ k * 2 + 1 → ((W.setCell ⟨g, k * 2, none⟩ (.int .i64 x)).setCell ⟨g, k * 2 + 1, none⟩ (.int .i64 y)).cell? ⟨g, j, none⟩ = W.cell? ⟨g, j, none⟩ := fun j h1 h2 => by
    rw [World.cell?_setCell_other _ _ _ _ (fun e => h2 (by simpa using (congrArg Addr.off e).symm)), World.cell?_setCell_other _ _ _ _ (fun e => h1 (by simpa using (congrArg Addr.off e).symm))]
  have fst : ((W.setCell ⟨g, k * 2, none⟩ (.int .i64 x)).setCell ⟨g, k * 2 + 1, none⟩ (.int .i64 y)).cell? ⟨g, k * 2, none⟩ = some (.int .i64 x) := by
    rw [World.cell?_setCell_other _ _ _ _ (fun e => absurd (congrArg Addr.off e) (by simp))]
    exact World.cell?_setCell_same' _ _ _ (a _ (by omega))
  have snd : ((W.setCell ⟨g, k * 2, none⟩ (.int .i64 x)).setCell ⟨g, k * 2 + 1, none⟩ (.int .i64 y)).cell? ⟨g, k * 2 + 1, none⟩ = some (.int .i64 y) := by
    refine World.cell?_setCell_same' _ _ _ ?_
    rw [World.cell?_setCell_other _ _ _ _ (fun e => absurd (congrArg Addr.off e) (by simp))]
    exact a _ (by omega)
  refine ⟨fun j hj => ?_, fun j => by rw [frozen_set, frozen_set]; exact b j, fun i hi => ?_⟩
  · by_cases h1 : j = k * 2
    · subst h1; rw [fst]; rfl
    · by_cases h2 : j = k * 2 + 1
      · subst h2; rw [snd]; rfl
      · rw [oth j h1 h2]; exact a j hj
  · rw [List.length_append] at hi
    simp at hi
    by_cases hik : i < ps.length
    · rw [oth _ (by omega) (by omega), oth _ (by omega) (by omega), List.getElem_append_left hik]
      exact c i hik
    · have hie : i = k := by omega
      subst hie
      rw [List.getElem_append_right (by omega)]
      simp [hk, fst, snd]
theorem Row.pts {W : World} {g n : Nat} {ps : List Pnt} (h : Row W g n ps) (hn : 0 < n) : PtsAt W W.heap.size (some ⟨g, 0, none⟩) ps := fun _ => ⟨g, 0, rfl, h.lt hn, fun k hk => by simpa using h.2.2 k hk⟩
theorem Row.old {W : World} {g n : Nat} {ps : List Pnt} (h : Row W g n ps) (k : Nat) (hn : k < n) :
    ∃ u1 u2, W.cell? ⟨g, k * 2, none⟩ = some u1 ∧ W.cell? ⟨g, k * 2 + 1, none⟩ = some u2 ∧ W.frozen? ⟨g, k * 2, none⟩ = false ∧ W.frozen? ⟨g, k * 2 + 1, none⟩ = false := by
  obtain ⟨u1, h1⟩ := Option.isSome_iff_exists.1 (h.1 (k * 2) (by omega))
  obtain ⟨u2, h2⟩ := Option.isSome_iff_exists.1 (h.1 (k * 2 + 1) (by omega))
  exact ⟨u1, u2, h1, h2, h.2.1 _, h.2.1 _⟩
theorem Row.made {W : World} {base e g n cap : Nat} {xs : List Value} (h : W.ownsRow base e 2 (.slice (some ⟨g, 0, none⟩) n cap) n xs) : Row W g n [] := by
  refine ⟨fun j hj => ?_, fun j => h.frozenAt j, fun k hk => by simp at hk⟩
  rw [h.cellAt j hj]
  have := h.1
  rw [List.getElem?_eq_getElem (by omega)]; rfl

/-- May this one be moved? -/
def stepB (d p : Pnt) : Bool := pmay d && pmay (addP p d)
theorem fine_yes {l : List Pnt} {d : Pnt} (h0 : 0 < l.length) (h : ∀ i (hi : i < l.length), stepB d l[i] = true) : fineB l d = true := by
  unfold fineB
  have h1 := h 0 h0
  unfold stepB at h1 h
  rw [Bool.and_eq_true] at h1
  rw [Bool.and_eq_true, List.all_eq_true]
  refine ⟨h1.1, fun p hp => ?_⟩
  obtain ⟨i, hi, rfl⟩ := List.getElem_of_mem hp
  have := h i hi
  rw [Bool.and_eq_true] at this
  exact this.2
theorem fine_no {l : List Pnt} {d : Pnt} {k : Nat} (hk : k < l.length) (h : stepB d l[k] = false) : fineB l d = false := by
  rw [← Bool.not_eq_true]
  unfold fineB
  rw [Bool.and_eq_true, List.all_eq_true]
  rintro ⟨h1, h2⟩
  have := h2 _ (List.getElem_mem hk)
  unfold stepB at h
  rw [h1, this] at h
  cases h
theorem take_move {l : List Pnt} {d : Pnt} {k : Nat} (hk : k < l.length) : moveL (l.take (k + 1)) d = moveL (l.take k) d ++ [(l[k].1 + d.1, l[k].2 + d.2)] := by
  unfold moveL
  rw [List.take_succ_eq_append_getElem hk, List.map_append]; rfl

theorem add_fine (p d : Pnt) (w : World) (hp : pmay p = true) (h : stepB d p = true) :
    Calls Try.prog 53 #[.agg #[.int .i64 p.1, .int .i64 p.2], .agg #[.int .i64 d.1, .int .i64 d.2]] w fun e w' => e = .returned (.tuple #[.agg #[.int .i64 (p.1 + d.1), .int .i64 (p.2 + d.2)], .nilIface]) ∧ Below w.heap.size w w' := by
  unfold stepB at h
  rw [Bool.and_eq_true] at h
  exact add_ok p.1 p.2 d.1 d.2 w hp h.1 h.2
theorem add_bad (p d : Pnt) (w : World) (hp : pmay p = true) (h : stepB d p = false) :
    Calls Try.prog 53 #[.agg #[.int .i64 p.1, .int .i64 p.2], .agg #[.int .i64 d.1, .int .i64 d.2]] w fun e w' => e = .returned (.tuple #[.agg #[.int .i64 0, .int .i64 0], .iface 37 (.int .i64 11)]) ∧ Below w.heap.size w w' := by
  unfold stepB at h
  cases h1 : pmay d
  · exact add_no2 p.1 p.2 d.1 d.2 w hp h1
  · rw [h1] at h
    exact add_no3 p.1 p.2 d.1 d.2 w hp h1 h

set_option maxHeartbeats 1000000 in
theorem move_arg (l : List Pnt) (A : Option Addr) (c : Nat) (d : Pnt) (w : World) (hA : PtsAt w w.heap.size A l) (hn : l.length ≤ 70) (hs : simpleB l = false) :
    Calls Try.prog 52 #[.slice A l.length c, .agg #[.int .i64 d.1, .int .i64 d.2]] w fun e w' => e = .returned (.tuple #[.slice none 0 0, .iface 37 (.int .i64 1)]) ∧ Below w.heap.size w w' := by
  have C1 := Lib.hid (fun W (h : Below w.heap.size w W) => simple_any l A c W ((hA.later h).wide h.size) hn)
  rw [hs] at C1
  obtain ⟨n, e⟩ : ∃ n, n = l.length := ⟨_, rfl⟩
  rw [← e] at C1 ⊢
  clear e hA hs hn
  have L := Lib.hid (Kp.add0 ⟨Nat.le_refl _, Below.refl w.heap.size w⟩ w.heap.size rfl (.int .i64 d.1) (.int .i64 d.2) 28)
  go_enter Try.func52, Try.ntmps52
  go_wp2_with fail
  refine (C1.out _ (Kp.end2 L.out)).mono ?_
  rintro e w1 ⟨rfl, hb1⟩
  have K1 := Kp.keep2 hb1 L.out
  clear hb1 L
  go_wp2_with fail
  refine bodyPost_ret (v := .tuple #[.slice none 0 0, .iface 37 (.int .i64 1)]) (by simp [results, Try.results52, go_sem]) rfl ⟨rfl, Kp.end2 K1⟩

theorem A.infoPt : (Try.prog.info? 28).map (fun i => (i.zero, i.size, i.bytes)) = some (some (.agg #[.int .i64 0, .int .i64 0]), 2, 16) := by kernel_rfl

def MoveRel (v : World) (g : Nat) (l : List Pnt) (d : Pnt) (i : Value) (wr : World) : Prop :=
  ∃ k : Nat, k ≤ l.length ∧ i = .int .i64 k ∧ (∀ j (hj : j < l.length), j < k → stepB d l[j] = true) ∧ Row wr g l.length (moveL (l.take k) d) ∧ Below v.heap.size v wr

set_option maxHeartbeats 2000000 in
theorem move_new (l : List Pnt) (A : Option Addr) (c : Nat) (d : Pnt) (w : World) (hA : PtsAt w w.heap.size A l) (hs : simpleB l = true) :
    Calls Try.prog 52 #[.slice A l.length c, .agg #[.int .i64 d.1, .int .i64 d.2]] w fun e w' => Below w.heap.size w w' ∧
      ((fineB l d = true ∧ ∃ g, e = .returned (.tuple #[.slice (some ⟨g, 0, none⟩) l.length l.length, .nilIface]) ∧ PtsAt w' w'.heap.size (some ⟨g, 0, none⟩) (moveL l d) ∧ w.heap.size ≤ g) ∨
       (fineB l d = false ∧ e = .returned (.tuple #[.slice none 0 0, .iface 37 (.int .i64 11)]))) := by
  obtain ⟨hm, h3, hn⟩ := simpleB_all hs
  have C1 := Lib.hid (fun W (h : Below w.heap.size w W) => simple_any l A c W ((hA.later h).wide h.size) (by omega))
  rw [hs] at C1
  have HA := Lib.hid hA
  obtain ⟨b, off, rfl, hb, hc⟩ := hA (by intro h; subst h; simp at h3)
  have HC := Lib.hid hc
  have HM := Lib.hid hm
  obtain ⟨n, e⟩ : ∃ n, n = l.length := ⟨_, rfl⟩
  rw [← e] at C1 h3 hn ⊢
  have E := Lib.hid e
  clear e hA hs hm hc
  have L := Lib.hid (Kp.add0 ⟨Nat.le_refl _, Below.refl w.heap.size w⟩ w.heap.size rfl (.int .i64 d.1) (.int .i64 d.2) 28)
  obtain ⟨i0, hi, hz0, hz1, hz2⟩ := info_parts A.infoPt
  have n1 := neq_range
  have n2 := neq_nil
  go_enter Try.func52, Try.ntmps52
  go_wp2_with fail
  refine (C1.out _ (Kp.end2 L.out)).mono ?_
  rintro e w1 ⟨rfl, hb1⟩
  have K1 := Lib.hid (Kp.keep2 hb1 L.out)
  clear hb1 L C1
  go_wp2_with (first | (at_make; refine wpList_make_full _ rfl _ _ 24 rfl w1.heap.size 28 i0 (.agg #[.int .i64 0, .int .i64 0]) 2 Try.underlying24 hi hz0 hz1 .i64 .i64 _ _ n rfl rfl rfl rfl (by rw [hz2]; omega) (by unfold maxLen; omega) (Nat.le_refl _) ?_; intro w2 hown hgrow))
  have R0 := Lib.hid (Row.made hown)
  have B2 := Lib.hid ((Below.refl w1.heap.size w1).grown hgrow (Nat.le_refl _) (fun k hk => by cases hk))
  clear hown hgrow
  obtain ⟨g, hg⟩ : ∃ g, g = w1.heap.size := ⟨_, rfl⟩
  rw [← hg] at R0 ⊢
  have G := Lib.hid hg
  clear hg
  go_wp2_with fail
  go_loopw [20] (fun i wr => MoveRel w1 g l d i wr) (fun i _ => n - (intOf i).toNat)
  case atStart => exact ⟨0, Nat.zero_le _, rfl, fun _ _ h => by omega, by rw [← E.out]; exact R0.out, B2.out⟩
  case round =>
    clear B2 R0
    obtain ⟨k, hk, rfl, hok, hR, hB⟩ := hrel
    rw [← E.out] at hR
    have HOK := Lib.hid hok
    clear hok
    by_cases hlt : k < n
    · have hkl : k < l.length := by rw [← E.out]; exact hlt
      have hBw : Below w.heap.size w wr := (Kp.end2 K1.out).trans (hB.mono (Kp.end2 K1.out).size)
      obtain ⟨p, hp⟩ : ∃ p, p = l[k] := ⟨_, rfl⟩
      have c1 : wr.cell? ⟨b, off + k * 2, none⟩ = some (.int .i64 p.1) := by rw [hp]; exact (hBw.cell (p := ⟨b, off + k * 2, none⟩) hb).trans (HC.out k hkl).1
      have c2 : wr.cell? ⟨b, off + k * 2 + 1, none⟩ = some (.int .i64 p.2) := by rw [hp]; exact (hBw.cell (p := ⟨b, off + k * 2 + 1, none⟩) hb).trans (HC.out k hkl).2
      have m1 : pmay p = true := by rw [hp]; exact List.all_eq_true.1 HM.out _ (List.getElem_mem hkl)
      have HP := Lib.hid hp
      clear hp
      have hk0 : (0 : Int) ≤ (k : Int) := by omega
      have hk1 : (k : Int) < (n : Int) := by omega
      have hgl : g < wr.heap.size := hR.lt (by omega)
      have K2 := Lib.hid (Kp.add2 ⟨cell_later hB K1.out.1, cell_later hB K1.out.2.1, hB.size, hB⟩ wr.heap.size rfl (.int .i64 p.1) (.int .i64 p.2) 28)
      have R2 := Lib.hid (hR.below ((Below.refl wr.heap.size wr).alloc (Nat.le_refl _) (.cells #[.int .i64 p.1, .int .i64 p.2] 28)) hgl)
      have z2 := K2.out
      clear hR hBw
      go_wp2_with fail
      cases hst : stepB d p
      · refine (add_bad p d _ m1 hst).mono ?_
        rintro e w3 ⟨rfl, hb3⟩
        have K3 := Kp.keep4 hb3 K2.out
        clear hb3 c1 c2 z2 K2 R2
        have HF := Lib.hid (fine_no (l := l) hkl (show stepB d l[k] = false by rw [← HP.out]; exact hst))
        have BB := Kp.end6 (Kp.add4 K3 w3.heap.size rfl (.int .i64 0) (.int .i64 0) 28)
        go_wp2_with fail
        refine bodyPost_ret (v := .tuple #[.slice none 0 0, .iface 37 (.int .i64 11)]) (by simp [results, Try.results52, go_sem]) rfl ⟨?_, Or.inr ⟨HF.out, rfl⟩⟩
        exact (Kp.end2 K1.out).trans (BB.mono (Kp.end2 K1.out).size)
      · refine (add_fine p d _ m1 hst).mono ?_
        rintro e w3 ⟨rfl, hb3⟩
        have K3 := Kp.keep4 hb3 K2.out
        have R3 := R2.out.below hb3 (by simp; omega)
        have hg3 : g < w3.heap.size := by have := hb3.size; simp at this; omega
        have BB := Kp.end4 K3
        obtain ⟨u1, u2, o1, o2, f1, f2⟩ := R3.old k hlt
        have R5 := Lib.hid (R3.put k (by unfold moveL; rw [List.length_map, List.length_take]; omega) hlt (p.1 + d.1) (p.2 + d.2))
        clear hb3 c1 c2 z2 K2 R2 K3 R3
        go_wp2_with fail
        go_roundw
        case rel =>
          refine ⟨k + 1, by omega, by go_num, fun j hj hjk => ?_, ?_, ?_⟩
          · by_cases hjk2 : j = k
            · subst hjk2; rw [← HP.out]; exact hst
            · exact HOK.out j hj (by omega)
          · rw [take_move hkl, ← HP.out, ← E.out]; exact R5.out.below ((Below.refl _ _).alloc (Nat.le_refl _) _) (R5.out.lt (by omega))
          · exact ((BB.setCell (by rw [← G.out]; exact Nat.le_refl _) _).setCell (by rw [← G.out]; exact Nat.le_refl _) _).alloc (by have := BB.size; simp; omega) _
        case measure => simp [intOf]; omega
    · have hkn : k = n := by have := E.out; omega
      have HF := Lib.hid (fine_yes (l := l) (d := d) (by have := E.out; omega) (fun i hi => HOK.out i hi (by have := E.out; omega)))
      have HR : Hid (PtsAt wr wr.heap.size (some ⟨g, 0, none⟩) (moveL l d)) := Lib.hid (by
        have h := hR.pts (by omega)
        rw [hkn, E.out, List.take_of_length_le (Nat.le_refl _)] at h
        exact h)
      clear hkn hR
      go_wp2_with fail
      refine bodyPost_ret (v := .tuple #[.slice (some ⟨g, 0, none⟩) n n, .nilIface]) (by simp [results, Try.results52, go_sem]) rfl ⟨?_, Or.inl ⟨HF.out, g, rfl, HR.out, by have := (Kp.end2 K1.out).size; rw [← G.out] at this; exact this⟩⟩
      exact (Kp.end2 K1.out).trans (hB.mono (Kp.end2 K1.out).size)
theorem move_some (l : List Pnt) (A : Option Addr) (c : Nat) (d : Pnt) (w : World) (hA : PtsAt w w.heap.size A l) (hs : simpleB l = true) :
    Calls Try.prog 52 #[.slice A l.length c, .agg #[.int .i64 d.1, .int .i64 d.2]] w fun e w' => Below w.heap.size w w' ∧
      ((fineB l d = true ∧ ∃ g, e = .returned (.tuple #[.slice (some ⟨g, 0, none⟩) l.length l.length, .nilIface]) ∧ PtsAt w' w'.heap.size (some ⟨g, 0, none⟩) (moveL l d)) ∨
       (fineB l d = false ∧ e = .returned (.tuple #[.slice none 0 0, .iface 37 (.int .i64 11)]))) :=
  (move_new l A c d w hA hs).mono fun e w' ⟨hb, h⟩ => ⟨hb, h.imp (fun ⟨hf, g, he, hp, _⟩ => ⟨hf, g, he, hp⟩) id⟩
end Go.Proofs.Ytiggjaodfmelpaa.Pl
