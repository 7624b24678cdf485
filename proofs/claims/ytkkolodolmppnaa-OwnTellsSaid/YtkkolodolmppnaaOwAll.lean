/-
  Contract of layer 18 (own): All: the owners of a cover, rising, each once. Memory that was there is left as it was.
-/
import Derived.Test.YtkkolodolmppnaaOwOf
import Derived.Test.YtkkolodolmppnaaCvCells
import Derived.Test.YtkkolodolmppnaaOwShelf
import Derived.Sort.Row
namespace Go.Proofs.Ytkkolodolmppnaa.Ow
open Go.RowKit Go.Proofs.Ytkkolodolmppnaa.Pt Go.Proofs.Ytkkolodolmppnaa.Rc Go.Proofs.Ytkkolodolmppnaa.Mo Go.Proofs.Ytkkolodolmppnaa.Cv
set_option linter.unusedVariables false
set_option linter.unusedSimpArgs false

theorem A.infoOwI : (Try.prog.info? 3).map (fun i => (i.zero, i.size, i.bytes)) = some (some (.int .i64 0), 1, 8) := by kernel_rfl
theorem oneI (xs : List Int) : ∀ u ∈ xs.map (Value.int .i64), u.oneCell' = true := by
  intro u hu
  obtain ⟨x, _, rfl⟩ := List.mem_map.1 hu
  rfl
/-- v is a slice, not nil, that holds numbers. -/
def RdI (W : World) (v : Value) (xs : List Int) : Prop :=
  ∃ b cap : Nat, v = .slice (some ⟨b, 0, none⟩) xs.length cap ∧ b < W.heap.size ∧ ∀ t (h : t < xs.length), W.cell? ⟨b, t, none⟩ = some (.int .i64 xs[t])
theorem own_hi {W : World} {base : Nat} {t : TypeId} {v : Value} {xs : List Int} (h : W.ownsRow base t 1 v xs.length (xs.map (Value.int .i64))) (h0 : 0 < xs.length) : ∃ g cap, v = .slice (some ⟨g, 0, none⟩) xs.length cap ∧ base ≤ g ∧ g < W.heap.size ∧ xs.length ≤ cap ∧ Sort.Holds (Value.int .i64) W g 0 xs.toArray := by
  have h2 := h
  rcases h.2 with ⟨rfl, e⟩ | ⟨g, cap, cur, rfl, hb, hh, hcap, _⟩
  · omega
  · refine ⟨g, cap, rfl, hb, (Array.getElem?_eq_some_iff.1 hh).1, by omega, fun k hk => ?_⟩
    have hk2 : k < xs.length := by simpa using hk
    have := h2.cellAt k (by omega)
    rw [Nat.zero_add]
    refine ⟨?_, h2.frozenAt k⟩
    show W.cell? ⟨g, k, none⟩ = _
    rw [this]
    simp [hk2]
theorem put_grown {w : World} {g n : Nat} (d : Array Int) : w.grownBy (Sort.putRow (Value.int .i64) (Sort.ahead w n) g 0 d) (some g) := by
  refine ⟨rfl, rfl, rfl, by simp, fun k hk hne => ?_⟩
  have : g ≠ k := fun e => hne (by rw [e])
  simp [Sort.putRow, Sort.mapBlock, Sort.ahead, Array.getElem?_modify, this]
theorem put_reads {w : World} {g n m cap : Nat} {xs zs : List Int} (h : Sort.Holds (Value.int .i64) w g 0 xs.toArray) (hg : g < w.heap.size) (hl : zs.length + m = xs.length) :
    RdI (Sort.putRow (Value.int .i64) (Sort.ahead w n) g 0 (zs ++ List.replicate m 0).toArray) (.slice (some ⟨g, 0, none⟩) zs.length cap) zs := by
  refine ⟨g, cap, rfl, by simpa using hg, fun t ht => ?_⟩
  have h1 : Sort.Holds (Value.int .i64) (Sort.ahead w n) g 0 xs.toArray := h
  have h2 := Sort.holds_putRow (Value.int .i64) (Sort.ahead w n) g 0 xs.toArray (zs ++ List.replicate m 0).toArray h1 (by simp; omega)
  have h3 := (h2 t (by simp; omega)).1
  rw [Nat.zero_add] at h3
  rw [h3]
  have : (zs ++ List.replicate m 0).toArray[t]! = zs[t] := by
    rw [getElem!_pos _ t (by simp; omega)]
    simp [List.getElem_append_left ht]
  rw [this]
def AlR (v : World) (g b : Nat) (ys : List Int) (vo vi : Value) (wr : World) : Prop :=
  ∃ j : Nat, vi = .int .i64 j ∧ j ≤ ys.length ∧ wr.ownsRow v.heap.size 3 1 vo j (((ys.take j).map (owI g b)).map (Value.int .i64)) ∧ Below v.heap.size v wr
theorem take_own {ys : List Int} {g b j : Nat} (h : j < ys.length) : ((ys.take (j + 1)).map (owI g b)).map (Value.int .i64) = ((ys.take j).map (owI g b)).map (Value.int .i64) ++ [.int .i64 (owI g b ys[j])] := by
  rw [List.take_succ_eq_append_getElem h, List.map_append, List.map_append]; rfl

set_option maxHeartbeats 2000000 in
theorem all_arg (s b x1 y1 x2 y2 : Int) (w : World) (h : (shB s && brB b) = false) : Calls Try.prog 10 #[.int .i64 s, .int .i64 b, .agg #[.int .i64 x1, .int .i64 y1, .int .i64 x2, .int .i64 y2]] w fun e w' => e = .returned (.tuple #[.slice none 0 0, .iface 37 (.int .i64 1)]) ∧ Below w.heap.size w w' := by
  have q1 := neq_arg_nil
  have C1 := Lib.hid (fun W => divide_no s b W h)
  clear h
  have L0 := (fun h => Kp.adq0 h w.heap.size rfl (.int .i64 x1) (.int .i64 y1) (.int .i64 x2) (.int .i64 y2) 25) ⟨Nat.le_refl _, Below.refl w.heap.size w⟩
  have L := Lib.hid L0
  clear L0
  have z := L.out
  go_enter Try.func10, Try.ntmps10
  go_wp2_with fail
  refine (C1.out _).mono ?_
  rintro e w1 ⟨rfl, hb1⟩
  have K1 := Lib.hid ((Kp.two hb1 (Kp.two hb1 (Kp.ends hb1))) L.out)
  clear hb1 z L
  have M1 := Lib.hid ((Kp.two (Kp.behind _ (.cells #[.int .u64 0, .int .u64 0] 45)) (Kp.two (Kp.behind _ (.cells #[.int .u64 0, .int .u64 0] 45)) (fun h => Kp.add0 h w1.heap.size rfl (.int .u64 0) (.int .u64 0) 45))) K1.out)
  have y1 := K1.out
  clear K1
  have z1 := M1.out
  go_wp2_with fail
  refine bodyPost_ret (v := .tuple #[.slice none 0 0, .iface 37 (.int .i64 1)]) (by simp [results, Try.results10, go_sem]) rfl ⟨rfl, ?_⟩
  exact M1.out.2.2.2.2.2.2.2

set_option maxHeartbeats 2000000 in
theorem all_far (k b : Nat) (x1 y1 x2 y2 : Int) (w : World) (h1 : 24 ≤ k) (h2 : k ≤ 31) (h3 : 1 ≤ b) (h4 : b ≤ 64) (hr : rmayB x1 y1 x2 y2 = false) : Calls Try.prog 10 #[.int .i64 k, .int .i64 b, .agg #[.int .i64 x1, .int .i64 y1, .int .i64 x2, .int .i64 y2]] w fun e w' => e = .returned (.tuple #[.slice none 0 0, .iface 37 (.int .i64 1)]) ∧ Below w.heap.size w w' := by
  obtain ⟨g, eg⟩ : ∃ g, g = gF k := ⟨_, rfl⟩
  have C1 := Lib.hid (fun W => divide_yes k b W h1 h2 h3 h4)
  have C2 := Lib.hid (fun W => cells_no k x1 y1 x2 y2 W (by rw [hr, Bool.and_false]))
  rw [← eg] at C1
  have q1 := neq_nil_nil
  have q2 := neq_arg_nil
  clear eg h1 h2 h3 h4 hr
  have L0 := (fun h => Kp.adq0 h w.heap.size rfl (.int .i64 x1) (.int .i64 y1) (.int .i64 x2) (.int .i64 y2) 25) ⟨Nat.le_refl _, Below.refl w.heap.size w⟩
  have L := Lib.hid L0
  clear L0
  have z := L.out
  go_enter Try.func10, Try.ntmps10
  go_wp2_with fail
  refine (C1.out _).mono ?_
  rintro e w1 ⟨rfl, hb1⟩
  have K1 := Lib.hid ((Kp.two hb1 (Kp.two hb1 (Kp.ends hb1))) L.out)
  clear hb1 z L
  have M1 := Lib.hid ((Kp.two (Kp.behind _ (.cells #[.int .u64 b, .int .u64 ((g : Int) + 1)] 45)) (Kp.two (Kp.behind _ (.cells #[.int .u64 b, .int .u64 ((g : Int) + 1)] 45)) (fun h => Kp.add0 h w1.heap.size rfl (.int .u64 b) (.int .u64 ((g : Int) + 1)) 45))) K1.out)
  have y1 := K1.out
  clear K1
  have z1 := M1.out
  go_wp2_with fail
  refine (C2.out _).mono ?_
  rintro e w2 ⟨rfl, hb2⟩
  have K2 := Lib.hid ((Kp.two hb2 (Kp.two hb2 (Kp.two hb2 (Kp.ends hb2)))) M1.out)
  clear hb2 z1 y1 M1
  have z2 := K2.out
  go_wp2_with fail
  refine bodyPost_ret (v := .tuple #[.slice none 0 0, .iface 37 (.int .i64 1)]) (by simp [results, Try.results10, go_sem]) rfl ⟨rfl, ?_⟩
  exact K2.out.2.2.2.2.2.2.2

def AllE (g b c1 r1 c2 r2 : Nat) (w : World) (e : Ending) (w' : World) : Prop :=
  ∃ (u : Value) (zs : List Int), e = .returned (.tuple #[u, .nilIface]) ∧ Rise zs ∧ (∀ x, x ∈ zs ↔ ∃ i j, r1 ≤ i ∧ i ≤ r2 ∧ c1 ≤ j ∧ j ≤ c2 ∧ x = owI g b (codeI j i)) ∧ zs.length ≤ 191 * 191 ∧ RdI w' u zs ∧ Below w.heap.size w w'
set_option maxHeartbeats 4000000 in
set_option maxRecDepth 100000 in
theorem all_yes (k b : Nat) (x1 y1 x2 y2 : Int) (c1 r1 c2 r2 : Nat) (w : World) (h1 : 24 ≤ k) (h2 : k ≤ 31) (h3 : 1 ≤ b) (h4 : b ≤ 64) (h : rmayB x1 y1 x2 y2 = true) (e1 : colI k x1 = c1) (e2 : colI k y1 = r1) (e3 : colI k x2 = c2) (e4 : colI k y2 = r2)
    (hc : c1 ≤ c2) (hr : r1 ≤ r2) (hc2 : c2 ≤ 2 ^ (31 - k)) (hr2 : r2 ≤ 2 ^ (31 - k)) :
    Calls Try.prog 10 #[.int .i64 k, .int .i64 b, .agg #[.int .i64 x1, .int .i64 y1, .int .i64 x2, .int .i64 y2]] w fun e w' => AllE (gF k) b c1 r1 c2 r2 w e w' := by
  have hl := lst_lt h1 h2
  have hg := gF_lt h1 h2
  have HC := Lib.hid (fun (i j : Nat) (hi : i ≤ r2) (hj : j ≤ c2) => code_le (c := j) (r := i) h1 h2 (Nat.le_trans hj hc2) (Nat.le_trans hi hr2))
  obtain ⟨g, eg⟩ : ∃ g, g = gF k := ⟨_, rfl⟩
  have C1 := Lib.hid (fun W => divide_yes k b W h1 h2 h3 h4)
  have C2 := Lib.hid (fun W => cells_yes k x1 y1 x2 y2 c1 r1 c2 r2 W h1 h2 h e1 e2 e3 e4 hc hr (by omega) (by omega))
  rw [← eg] at C1 hg HC ⊢
  have q1 := neq_nil_nil
  obtain ⟨i0, hi, hz0, hz1, hz2⟩ := info_cut A.infoOwI
  have HHC := Lib.hid (And.intro hc hr)
  have B90 : c2 ≤ 190 ∧ r2 ≤ 190 := ⟨by omega, by omega⟩
  clear eg h1 h2 e1 e2 e3 e4 h hc2 hr2
  have L0 := (fun h => Kp.adq0 h w.heap.size rfl (.int .i64 x1) (.int .i64 y1) (.int .i64 x2) (.int .i64 y2) 25) ⟨Nat.le_refl _, Below.refl w.heap.size w⟩
  have L := Lib.hid L0
  clear L0
  have z := L.out
  go_enter Try.func10, Try.ntmps10
  go_wp2_with fail
  refine (C1.out _).mono ?_
  rintro e w1 ⟨rfl, hb1⟩
  have K1 := Lib.hid ((Kp.two hb1 (Kp.two hb1 (Kp.ends hb1))) L.out)
  clear hb1 z L
  have M1 := Lib.hid ((Kp.two (Kp.behind _ (.cells #[.int .u64 b, .int .u64 ((g : Int) + 1)] 45)) (Kp.two (Kp.behind _ (.cells #[.int .u64 b, .int .u64 ((g : Int) + 1)] 45)) (fun h => Kp.add0 h w1.heap.size rfl (.int .u64 b) (.int .u64 ((g : Int) + 1)) 45))) K1.out)
  have y1 := K1.out
  clear K1
  have z1 := M1.out
  go_wp2_with fail
  refine (C2.out _).mono ?_
  rintro e w2 ⟨u, ps, ys, rfl, hps, hpp, hup, hrd, hb2⟩
  have K2 := Lib.hid ((Kp.two hb2 (Kp.two hb2 (Kp.two hb2 (Kp.ends hb2)))) M1.out)
  clear z1 y1 M1 hb2
  have D0 : w2.cell? ⟨w1.heap.size, 0, none⟩ = some (.int .u64 b) := K2.out.2.2.2.2.1
  have D1 : w2.cell? ⟨w1.heap.size, 1, none⟩ = some (.int .u64 ((g : Int) + 1)) := K2.out.2.2.2.2.2.1
  have DS : w1.heap.size < w2.heap.size := World.block_lt_of_cell? w2 ⟨w1.heap.size, 0, none⟩ D0
  have DD := Lib.hid (And.intro D0 (And.intro D1 DS))
  have YM := Lib.hid (fun x => (hpp.mem_iff (a := x)).trans (hps.2.1 x))
  have YU := Lib.hid hup
  have hmx : ys.length ≤ 191 * 191 := by rw [hpp.length_eq, hps.2.2]; obtain ⟨u1, u2⟩ := B90; exact Nat.mul_le_mul (by omega) (by omega)
  have hpos : 0 < ys.length := by rw [hpp.length_eq, hps.2.2]; obtain ⟨u1, u2⟩ := HHC.out; exact Nat.mul_pos (by omega) (by omega)
  have KB := Lib.hid (K2.out.2.2.2.2.2.2.2)
  have RD := Lib.hid hrd
  obtain ⟨b1, o1, cap1, rfl, hb1l, _, _, hcl⟩ := hrd
  have HCL := Lib.hid hcl
  obtain ⟨n, hn⟩ : ∃ n, n = ys.length := ⟨_, rfl⟩
  have HN := Lib.hid hn
  rw [← hn] at hmx hpos ⊢
  clear hps hpp hup D0 D1 DS K2 RD hcl hn C1 C2 hc hr
  go_wp2_with fail
  go_loopw [11, 34] (fun vo vi wr => AlR w2 g b ys vo vi wr) (fun _ vi _ => n - (intOf vi).toNat)
  case atStart => exact ⟨0, rfl, Nat.zero_le _, World.ownsRow_nil _ _ _ _, Below.refl _ _⟩
  case round =>
    obtain ⟨j, rfl, hj, hO, hB⟩ := hrel
    have HO := Lib.hid hO
    have HB := Lib.hid hB
    rw [← HN.out] at hj
    clear hO hB
    by_cases hlt : j < n
    · have hlz : (j : Int) < (n : Int) := by omega
      have hj0 : (0 : Int) ≤ (j : Int) := by omega
      have hjl : j < ys.length := by rw [← HN.out]; exact hlt
      obtain ⟨p, q, p1, p2, p3, p4, p5⟩ := (YM.out ys[j]).1 (List.getElem_mem hjl)
      have hle := HC.out p q p2 p4
      obtain ⟨N, eN⟩ : ∃ N, N = codeF 31 q p := ⟨_, rfl⟩
      rw [← eN] at hle
      have hyN : ys[j] = (N : Int) := by rw [p5, eN]; rfl
      have ca : wr.cell? ⟨b1, o1 + j, none⟩ = some (.int .u64 (N : Int)) := by rw [← hyN]; exact cell_later HB.out (HCL.out j hjl)
      have d0 := cell_later HB.out DD.out.1
      have d1 := cell_later HB.out DD.out.2.1
      have HY := Lib.hid hyN
      clear p1 p2 p3 p4 p5 eN hyN
      go_wp2_with fail
      refine (owner_any g b N _ hg h4 (by omega)).mono ?_
      rintro e w3 ⟨rfl, hb3⟩
      obtain ⟨X, hX⟩ : ∃ X : Int, X = (owF g b N : Nat) := ⟨_, rfl⟩
      have HX := Lib.hid hX
      rw [← hX]
      have OW := Lib.hid ((own_later HO.out hb3).alloc (.cells #[.int .i64 X] 3))
      have BW := Lib.hid (((HB.out.trans (hb3.mono HB.out.size)).alloc (Nat.le_trans HB.out.size hb3.size) (.cells #[.int .i64 X] 3)))
      have NW := Lib.hid (cell_one_new w3 (.int .i64 X) 3)
      obtain ⟨XS, hXS⟩ : ∃ XS, XS = ((ys.take j).map (owI g b)).map (Value.int .i64) := ⟨_, rfl⟩
      rw [← hXS] at OW
      have HXS := Lib.hid hXS
      clear hX d0 d1 ca hb3 hXS
      go_wp2_with (first | (at_builtin; refine wpList_append_own_at _ rfl _ _ 34 rfl w2.heap.size 3 i0 (.int .i64 0) 1 8 Try.underlying34 hi hz0 hz1 hz2 rfl (by decide) _ _ _ rfl OW.out ⟨w3.heap.size, 0, none⟩ 1 1 [.int .i64 X] rfl rfl NW.out (oneI [X]) (by unfold maxLen; omega) (by omega) BW.out.size ?_))
      intro v1 w4 hown hgrow _ _
      have HBn := Lib.hid (own_below BW.out OW.out hgrow)
      have HOn := Lib.hid hown
      have HT := Lib.hid (take_own (g := g) (b := b) hjl)
      have HE : Hid (X = owI g b ys[j]) := Lib.hid (by rw [HX.out, HY.out, owI_nat])
      clear hgrow hown
      go_wp2
      go_roundw
      case rel => first | exact ⟨j + 1, by first | rfl | simp, by rw [← HN.out]; omega, by rw [HT.out, ← HE.out, ← HXS.out]; exact HOn.out, HBn.out⟩ | ((repeat apply Exists.intro); exact ⟨⟨j + 1, by first | rfl | simp, by rw [← HN.out]; omega, by rw [HT.out, ← HE.out, ← HXS.out]; exact HOn.out, HBn.out⟩, rfl⟩)
      case measure => simp [intOf]; omega
    · have hlz : ¬ (j : Int) < (n : Int) := by omega
      have hjn : j = ys.length := by rw [← HN.out]; omega
      have hO := HO.out
      rw [List.take_of_length_le (by omega)] at hO
      obtain ⟨zs, ez⟩ : ∃ zs, zs = ys.map (owI g b) := ⟨_, rfl⟩
      have hzl : zs.length = n := by rw [ez, List.length_map, HN.out]
      rw [← ez, show j = zs.length by rw [hzl]; omega] at hO
      obtain ⟨gb, cap, rfl, hg1, hg2, hcap, hHI⟩ := own_hi hO (by omega)
      have CC := Lib.hid (Try.slices_Compact_int gb 0 cap zs wr hHI (by omega) hcap)
      have HZ := Lib.hid (compact_rise (l := zs) (by rw [ez]; exact List.pairwise_map.2 (YU.out.imp fun h => owI_mono h)))
      have HLE := Lib.hid (compact_len zs)
      have HHI := Lib.hid hHI
      have HG := Lib.hid (And.intro hg1 hg2)
      have HM : Hid (∀ x, x ∈ zs ↔ ∃ i j, r1 ≤ i ∧ i ≤ r2 ∧ c1 ≤ j ∧ j ≤ c2 ∧ x = owI g b (codeI j i)) := Lib.hid (fun x => by
        rw [ez, List.mem_map]
        constructor
        · rintro ⟨y, hy, rfl⟩
          obtain ⟨i, j, a1, a2, a3, a4, a5⟩ := (YM.out y).1 hy
          exact ⟨i, j, a1, a2, a3, a4, by rw [a5]⟩
        · rintro ⟨i, j, a1, a2, a3, a4, a5⟩
          exact ⟨codeI j i, (YM.out _).2 ⟨i, j, a1, a2, a3, a4, rfl⟩, a5.symm⟩)
      have ZL := Lib.hid hzl
      rw [hzl] at CC ⊢
      clear hO hHI hg1 hg2 hcap ez hzl hjn
      go_wp2_with fail
      refine CC.out.mono ?_
      rintro e w5 ⟨rfl, q, rfl⟩
      go_wp2_with fail
      refine bodyPost_ret (v := .tuple #[.slice (some ⟨gb, 0, none⟩) (Lib.compact zs).length cap, .nilIface]) (by simp [results, Try.results10, go_sem]) rfl ?_
      unfold AllE
      refine ⟨_, _, rfl, HZ.out.1, fun x => (HZ.out.2 x).trans (HM.out x), by have := HLE.out; have := ZL.out; omega, put_reads HHI.out HG.out.2 (by have := HLE.out; have := ZL.out; omega), ?_⟩
      exact KB.out.trans ((HB.out.grown (put_grown _) HB.out.size fun k hk => by cases hk; exact HG.out.1).mono KB.out.size)
end Go.Proofs.Ytkkolodolmppnaa.Ow
