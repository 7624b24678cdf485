/-
  Contracts of layer 18 (own): Of; and the document's answer Of. Memory that was there is left as it was.
-/
import Derived.Test.YtkkolodolmppnaaOwCore
import Derived.Test.YtkkolodolmppnaaKeepR
namespace Go.Proofs.Ytkkolodolmppnaa.Ow
open Go.RowKit Go.Proofs.Ytkkolodolmppnaa.Pt Go.Proofs.Ytkkolodolmppnaa.Rc Go.Proofs.Ytkkolodolmppnaa.Mo Go.Proofs.Ytkkolodolmppnaa.Cv
set_option linter.unusedVariables false
set_option linter.unusedSimpArgs false

set_option maxHeartbeats 2000000 in
theorem of_arg (s b x y : Int) (w : World) (h : (shB s && brB b) = false) : Calls Try.prog 9 #[.int .i64 s, .int .i64 b, .agg #[.int .i64 x, .int .i64 y]] w fun e w' => e = .returned (.tuple #[.int .i64 0, .iface 37 (.int .i64 1)]) ∧ Below w.heap.size w w' := by
  have q1 := neq_arg_nil
  have C1 := Lib.hid (fun W => divide_no s b W h)
  clear h
  have L0 := (fun h => Kp.add0 h w.heap.size rfl (.int .i64 x) (.int .i64 y) 23) ⟨Nat.le_refl _, Below.refl w.heap.size w⟩
  have L := Lib.hid L0
  clear L0
  have z := L.out
  go_enter Try.func9, Try.ntmps9
  go_wp2_with fail
  refine (C1.out _).mono ?_
  rintro e w1 ⟨rfl, hb1⟩
  have K1 := Lib.hid ((Kp.two hb1 (Kp.ends hb1)) L.out)
  clear hb1 z L
  have M1 := Lib.hid ((Kp.two (Kp.behind _ (.cells #[.int .u64 0, .int .u64 0] 45)) (fun h => Kp.add0 h w1.heap.size rfl (.int .u64 0) (.int .u64 0) 45)) K1.out)
  have y1 := K1.out
  clear K1
  have z1 := M1.out
  go_wp2_with fail
  refine bodyPost_ret (v := .tuple #[.int .i64 0, .iface 37 (.int .i64 1)]) (by simp [results, Try.results9, go_sem]) rfl ⟨rfl, ?_⟩
  exact M1.out.2.2.2.2.2

set_option maxHeartbeats 2000000 in
theorem of_far (k b : Nat) (x y : Int) (w : World) (h1 : 24 ≤ k) (h2 : k ≤ 31) (h3 : 1 ≤ b) (h4 : b ≤ 64) (hm : mayB x y = false) : Calls Try.prog 9 #[.int .i64 k, .int .i64 b, .agg #[.int .i64 x, .int .i64 y]] w fun e w' => e = .returned (.tuple #[.int .i64 0, .iface 37 (.int .i64 11)]) ∧ Below w.heap.size w w' := by
  obtain ⟨g, eg⟩ : ∃ g, g = gF k := ⟨_, rfl⟩
  have C1 := Lib.hid (fun W => divide_yes k b W h1 h2 h3 h4)
  have C2 := Lib.hid (fun W => cell_far k x y W (shB_of h1 h2) hm)
  rw [← eg] at C1
  have q1 := neq_nil_nil
  have q2 := neq_range_nil
  clear eg h1 h2 h3 h4 hm
  have L0 := (fun h => Kp.add0 h w.heap.size rfl (.int .i64 x) (.int .i64 y) 23) ⟨Nat.le_refl _, Below.refl w.heap.size w⟩
  have L := Lib.hid L0
  clear L0
  have z := L.out
  go_enter Try.func9, Try.ntmps9
  go_wp2_with fail
  refine (C1.out _).mono ?_
  rintro e w1 ⟨rfl, hb1⟩
  have K1 := Lib.hid ((Kp.two hb1 (Kp.ends hb1)) L.out)
  clear hb1 z L
  have M1 := Lib.hid ((Kp.two (Kp.behind _ (.cells #[.int .u64 b, .int .u64 ((g : Int) + 1)] 45)) (fun h => Kp.add0 h w1.heap.size rfl (.int .u64 b) (.int .u64 ((g : Int) + 1)) 45)) K1.out)
  have y1 := K1.out
  clear K1
  have z1 := M1.out
  go_wp2_with fail
  refine (C2.out _).mono ?_
  rintro e w2 ⟨rfl, hb2⟩
  have K2 := Lib.hid ((Kp.two hb2 (Kp.two hb2 (Kp.ends hb2))) M1.out)
  clear hb2 z1 y1 M1
  have z2 := K2.out
  go_wp2_with fail
  refine bodyPost_ret (v := .tuple #[.int .i64 0, .iface 37 (.int .i64 11)]) (by simp [results, Try.results9, go_sem]) rfl ⟨rfl, ?_⟩
  exact K2.out.2.2.2.2.2

set_option maxHeartbeats 2000000 in
theorem of_yes (k b : Nat) (x y : Int) (c r : Nat) (w : World) (h1 : 24 ≤ k) (h2 : k ≤ 31) (h3 : 1 ≤ b) (h4 : b ≤ 64) (hm : mayB x y = true) (e1 : colI k x = c) (e2 : colI k y = r) (hc : c ≤ 2 ^ (31 - k)) (hr : r ≤ 2 ^ (31 - k)) : Calls Try.prog 9 #[.int .i64 k, .int .i64 b, .agg #[.int .i64 x, .int .i64 y]] w fun e w' => e = .returned (.tuple #[.int .i64 (owF (gF k) b (codeF 31 c r) : Nat), .nilIface]) ∧ Below w.heap.size w w' := by
  obtain ⟨g, eg⟩ : ∃ g, g = gF k := ⟨_, rfl⟩
  have C1 := Lib.hid (fun W => divide_yes k b W h1 h2 h3 h4)
  have C2 := Lib.hid (fun W => cell_yes k x y W h1 h2 hm)
  rw [e1, e2] at C2
  have hl := lst_lt h1 h2
  have hg := gF_lt h1 h2
  have hcg := code_le h1 h2 hc hr
  have C3 := Lib.hid (fun W => code_yes c r W (by omega) (by omega))
  obtain ⟨n, en⟩ : ∃ n, n = codeF 31 c r := ⟨_, rfl⟩
  rw [← eg] at C1 hg hcg ⊢
  rw [← en] at C3 hcg ⊢
  have C4 := Lib.hid (fun W => owner_any g b n W hg h4 (by omega))
  have q1 := neq_nil_nil
  clear eg h1 h2 h3 h4 hm en hl hg hcg e1 e2 hc hr
  have L0 := (fun h => Kp.add0 h w.heap.size rfl (.int .i64 x) (.int .i64 y) 23) ⟨Nat.le_refl _, Below.refl w.heap.size w⟩
  have L := Lib.hid L0
  clear L0
  have z := L.out
  go_enter Try.func9, Try.ntmps9
  go_wp2_with fail
  refine (C1.out _).mono ?_
  rintro e w1 ⟨rfl, hb1⟩
  have K1 := Lib.hid ((Kp.two hb1 (Kp.ends hb1)) L.out)
  clear hb1 z L
  have M1 := Lib.hid ((Kp.two (Kp.behind _ (.cells #[.int .u64 b, .int .u64 ((g : Int) + 1)] 45)) (fun h => Kp.add0 h w1.heap.size rfl (.int .u64 b) (.int .u64 ((g : Int) + 1)) 45)) K1.out)
  have y1 := K1.out
  clear K1
  have z1 := M1.out
  go_wp2_with fail
  refine (C2.out _).mono ?_
  rintro e w2 ⟨rfl, hb2⟩
  have K2 := Lib.hid ((Kp.two hb2 (Kp.two hb2 (Kp.ends hb2))) M1.out)
  clear hb2 z1 y1 M1
  have z2 := K2.out
  go_wp2_with fail
  refine (C3.out _).mono ?_
  rintro e w9 ⟨rfl, rfl⟩
  go_wp2_with fail
  refine (C4.out _).mono ?_
  rintro e w3 ⟨rfl, hb3⟩
  have K3 := Lib.hid ((Kp.two hb3 (Kp.two hb3 (Kp.ends hb3))) K2.out)
  clear hb3 z2 K2
  have z3 := K3.out
  go_wp2_with fail
  refine bodyPost_ret (v := .tuple #[.int .i64 (owF g b n : Nat), .nilIface]) (by simp [results, Try.results9, go_sem]) rfl ⟨rfl, ?_⟩
  exact K3.out.2.2.2.2.2

set_option maxHeartbeats 2000000 in
theorem refOf_any (k b : Nat) (x y : Int) (c r : Nat) (w : World) (h1 : 24 ≤ k) (h2 : k ≤ 31) (h4 : b ≤ 64) (hm : mayB x y = true) (e1 : colI k x = c) (e2 : colI k y = r) (hc : c ≤ 2 ^ (31 - k)) (hr : r ≤ 2 ^ (31 - k)) : Calls Try.prog 11 #[.int .i64 k, .int .i64 b, .agg #[.int .i64 x, .int .i64 y]] w fun e w' => e = .returned (.int .i64 (owF (gF k) b (codeF 31 c r) : Nat)) ∧ Below w.heap.size w w' := by
  have C1 := Lib.hid (fun W => refCell_any k x W h1 h2 (mayB_bd hm).1)
  have C2 := Lib.hid (fun W => refCell_any k y W h1 h2 (mayB_bd hm).2)
  rw [e1] at C1
  rw [e2] at C2
  have hl := lst_lt h1 h2
  have hg := gF_lt h1 h2
  have hcg := code_le h1 h2 hc hr
  have C3 := Lib.hid (fun W => refCode_any 31 c r W (by omega) (by omega) (by omega))
  have C4 := Lib.hid (fun W => refOwner_any k b (codeF 31 c r) W h1 h2 h4 (by omega))
  obtain ⟨n, en⟩ : ∃ n, n = codeF 31 c r := ⟨_, rfl⟩
  obtain ⟨g, eg⟩ : ∃ g, g = gF k := ⟨_, rfl⟩
  rw [← eg] at C4 ⊢
  rw [← en] at C3 C4 ⊢
  have C1 := Lib.hid (fun W => (C1.out W).mono (fun e w' (h : _ ∧ W = w') => (⟨h.1, h.2 ▸ Below.refl _ _⟩ : _ ∧ Below W.heap.size W w')))
  have C2 := Lib.hid (fun W => (C2.out W).mono (fun e w' (h : _ ∧ W = w') => (⟨h.1, h.2 ▸ Below.refl _ _⟩ : _ ∧ Below W.heap.size W w')))
  have C3 := Lib.hid (fun W => (C3.out W).mono (fun e w' (h : _ ∧ W = w') => (⟨h.1, h.2 ▸ Below.refl _ _⟩ : _ ∧ Below W.heap.size W w')))
  have C4 := Lib.hid (fun W => (C4.out W).mono (fun e w' (h : _ ∧ W = w') => (⟨h.1, h.2 ▸ Below.refl _ _⟩ : _ ∧ Below W.heap.size W w')))
  clear eg h1 h2 h4 hm en hl hg hcg e1 e2 hc hr
  have L0 := (fun h => Kp.add0 h w.heap.size rfl (.int .i64 x) (.int .i64 y) 23) ⟨Nat.le_refl _, Below.refl w.heap.size w⟩
  have L := Lib.hid L0
  clear L0
  have z := L.out
  go_enter Try.func11, Try.ntmps11
  go_wp2_with fail
  have HK := L.out
  refine wp_region_held_drew (S := (fun W => W.cell? ⟨w.heap.size, 0, none⟩ = some (.int .i64 x) ∧ W.cell? ⟨w.heap.size, 1, none⟩ = some (.int .i64 y) ∧ w.heap.size ≤ W.heap.size ∧ Below w.heap.size w W)) (by kernel_rfl) (by exact ⟨HK.1, HK.2.1, HK.2.2.1, HK.2.2.2.drew⟩) (fun hHeld => ?_)
  refine wpAnyH_take (i := 0) (v := ?vN0) rfl (by kernel_rfl) (by kernel_rfl) (by kernel_rfl) (fun _ _ _ h => h) (Or.inl ⟨by rfl, ?yN0⟩) hHeld ?rN0
  case yN0 => (intro W hSw; simp only [List.getElem_toArray, List.getElem_cons_zero]; go_simp; try (with_reducible rfl))
  simp only [List.getElem_toArray, List.getElem_cons_zero, Act.put, List.setIfInBounds_toArray, List.set_cons_zero, List.set_cons_succ]
  refine wpAnyH_take (i := 1) (v := ?vN1) rfl (by kernel_rfl) (by kernel_rfl) (by kernel_rfl) (fun _ _ _ h => h) (Or.inl ⟨by rfl, ?yN1⟩) hHeld ?rN1
  case yN1 => (intro W hSw; simp only [List.getElem_toArray, List.getElem_cons_succ, List.getElem_cons_zero]; go_simp; try (with_reducible rfl))
  simp only [List.getElem_toArray, List.getElem_cons_succ, List.getElem_cons_zero, Act.put, List.setIfInBounds_toArray, List.set_cons_zero, List.set_cons_succ]
  refine wpAnyH_take (i := 2) (v := ?vN2) rfl (by kernel_rfl) (by kernel_rfl) (by kernel_rfl) (fun _ _ _ h => h) (Or.inl ⟨by rfl, ?yN2⟩) hHeld ?rN2
  case yN2 => (intro W hSw; simp only [List.getElem_toArray, List.getElem_cons_succ, List.getElem_cons_zero]; go_simp; try (with_reducible rfl))
  simp only [List.getElem_toArray, List.getElem_cons_succ, List.getElem_cons_zero, Act.put, List.setIfInBounds_toArray, List.set_cons_zero, List.set_cons_succ]
  refine wpAnyH_take (i := 3) (v := ?vN3) rfl (by kernel_rfl) (by kernel_rfl) (by kernel_rfl) (fun _ _ _ h => h) (Or.inl ⟨by rfl, ?yN3⟩) hHeld ?rN3
  case yN3 => (intro W hSw; simp only [List.getElem_toArray, List.getElem_cons_succ, List.getElem_cons_zero]; go_simp; try (with_reducible rfl))
  simp only [List.getElem_toArray, List.getElem_cons_succ, List.getElem_cons_zero, Act.put, List.setIfInBounds_toArray, List.set_cons_zero, List.set_cons_succ]
  refine wpAnyH_take (i := 4) (v := ?vN4) rfl (by kernel_rfl) (by kernel_rfl) (by kernel_rfl) (fun _ _ _ h => h) (Or.inl ⟨by rfl, ?yN4⟩) hHeld ?rN4
  case yN4 => (intro W hSw; simp only [List.getElem_toArray, List.getElem_cons_succ, List.getElem_cons_zero]; go_simp; try (with_reducible rfl))
  simp only [List.getElem_toArray, List.getElem_cons_succ, List.getElem_cons_zero, Act.put, List.setIfInBounds_toArray, List.set_cons_zero, List.set_cons_succ]
  refine wpAnyH_take (i := 6) (v := ?vN6) rfl (by kernel_rfl) (by kernel_rfl) (by kernel_rfl) (fun _ _ _ h => h) (Or.inl ⟨by rfl, ?yN6⟩) hHeld ?rN6
  case yN6 => (intro W hSw; simp only [List.getElem_toArray, List.getElem_cons_succ, List.getElem_cons_zero]; go_simp; try (with_reducible rfl))
  simp only [List.getElem_toArray, List.getElem_cons_succ, List.getElem_cons_zero, Act.put, List.setIfInBounds_toArray, List.set_cons_zero, List.set_cons_succ]
  refine wpAnyH_take (i := 7) (v := ?vN7) rfl (by kernel_rfl) (by kernel_rfl) (by kernel_rfl) (fun _ _ _ h => h) (Or.inl ⟨by rfl, ?yN7⟩) hHeld ?rN7
  case yN7 => (intro W hSw; simp only [List.getElem_toArray, List.getElem_cons_succ, List.getElem_cons_zero]; go_simp; try (with_reducible rfl))
  simp only [List.getElem_toArray, List.getElem_cons_succ, List.getElem_cons_zero, Act.put, List.setIfInBounds_toArray, List.set_cons_zero, List.set_cons_succ]
  refine wpAnyH_take (i := 8) (v := ?vN8) rfl (by kernel_rfl) (by kernel_rfl) (by kernel_rfl) (fun _ _ _ h => h) (Or.inl ⟨by rfl, ?yN8⟩) hHeld ?rN8
  case yN8 => (intro W hSw; simp only [List.getElem_toArray, List.getElem_cons_succ, List.getElem_cons_zero]; go_simp; try (with_reducible rfl))
  simp only [List.getElem_toArray, List.getElem_cons_succ, List.getElem_cons_zero, Act.put, List.setIfInBounds_toArray, List.set_cons_zero, List.set_cons_succ]
  refine wpAnyH_ready (rs := [5]) (by kernel_rfl) (by simp) (AllReadyH.cons rfl (fun K hK => ?_) AllReadyH.nil)
  simp only [List.getElem_toArray, List.getElem_cons_succ, List.getElem_cons_zero]
  go_simp
  (go_at_call 23; refine (C1.out _).mono ?_; rintro e wA ⟨rfl, hb1⟩)
  try go_wp2_with fail
  refine hK.out _ _ ((Kp.two hb1 (Kp.ends hb1)) hHeld) (fun hHeld1 => ?_)
  clear hK K hHeld
  have hHeld := hHeld1; clear hHeld1
  try simp only [List.getElem_toArray, List.getElem_cons_succ, List.getElem_cons_zero, Act.put, List.setIfInBounds_toArray, List.set_cons_zero, List.set_cons_succ]
  refine wpAnyH_ready (rs := [9]) (by kernel_rfl) (by simp) (AllReadyH.cons rfl (fun K hK => ?_) AllReadyH.nil)
  simp only [List.getElem_toArray, List.getElem_cons_succ, List.getElem_cons_zero]
  go_simp
  (go_at_call 23; refine (C2.out _).mono ?_; rintro e wB ⟨rfl, hb1⟩)
  try go_wp2_with fail
  refine hK.out _ _ ((Kp.two hb1 (Kp.ends hb1)) hHeld) (fun hHeld1 => ?_)
  clear hK K hHeld
  have hHeld := hHeld1; clear hHeld1
  try simp only [List.getElem_toArray, List.getElem_cons_succ, List.getElem_cons_zero, Act.put, List.setIfInBounds_toArray, List.set_cons_zero, List.set_cons_succ]
  refine wpAnyH_ready (rs := [10]) (by kernel_rfl) (by simp) (AllReadyH.cons rfl (fun K hK => ?_) AllReadyH.nil)
  simp only [List.getElem_toArray, List.getElem_cons_succ, List.getElem_cons_zero]
  go_simp
  (go_at_call 22; refine (C3.out _).mono ?_; rintro e wC ⟨rfl, hb1⟩)
  try go_wp2_with fail
  refine hK.out _ _ ((Kp.two hb1 (Kp.ends hb1)) hHeld) (fun hHeld1 => ?_)
  clear hK K hHeld
  have hHeld := hHeld1; clear hHeld1
  try simp only [List.getElem_toArray, List.getElem_cons_succ, List.getElem_cons_zero, Act.put, List.setIfInBounds_toArray, List.set_cons_zero, List.set_cons_succ]
  refine wpAnyH_ready (rs := [11]) (by kernel_rfl) (by simp) (AllReadyH.cons rfl (fun K hK => ?_) AllReadyH.nil)
  simp only [List.getElem_toArray, List.getElem_cons_succ, List.getElem_cons_zero]
  go_simp
  (go_at_call 21; refine (C4.out _).mono ?_; rintro e wD ⟨rfl, hb1⟩)
  try go_wp2_with fail
  refine hK.out _ _ ((Kp.two hb1 (Kp.ends hb1)) hHeld) (fun hHeld1 => ?_)
  clear hK K hHeld
  have hHeld := hHeld1; clear hHeld1
  try simp only [List.getElem_toArray, List.getElem_cons_succ, List.getElem_cons_zero, Act.put, List.setIfInBounds_toArray, List.set_cons_zero, List.set_cons_succ]
  refine wpAnyH_take (i := 12) (v := ?vN12) rfl (by kernel_rfl) (by kernel_rfl) (by kernel_rfl) (fun _ _ _ h => h) (Or.inl ⟨by rfl, ?yN12⟩) hHeld ?rN12
  case yN12 => (intro W hSw; simp only [List.getElem_toArray, List.getElem_cons_succ, List.getElem_cons_zero]; go_simp; try (with_reducible rfl))
  simp only [List.getElem_toArray, List.getElem_cons_succ, List.getElem_cons_zero, Act.put, List.setIfInBounds_toArray, List.set_cons_zero, List.set_cons_succ]
  refine wpAnyH_done (by kernel_rfl) ?_ _
  have KR := Lib.hid hHeld
  clear hHeld HK
  have zR := KR.out
  try dsimp only at zR
  go_wp2_with fail
  go_ret
  exact ⟨rfl, KR.out.2.2.2⟩
end Go.Proofs.Ytkkolodolmppnaa.Ow
