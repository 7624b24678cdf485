/-
  The head of layer 18's statements ('up', the document's example) returns true. Memory that was there is left as it was.
-/
import Derived.Test.YtkkolodolmppnaaOwAll
namespace Go.Proofs.Ytkkolodolmppnaa.Ow
open Go.RowKit Go.Proofs.Ytkkolodolmppnaa.Pt Go.Proofs.Ytkkolodolmppnaa.Rc Go.Proofs.Ytkkolodolmppnaa.Mo Go.Proofs.Ytkkolodolmppnaa.Cv
set_option linter.unusedVariables false
set_option linter.unusedSimpArgs false

theorem eql_arg (w : World) : (binOp .eql 31 (.iface 37 (.int .i64 1)) (.iface 37 (.int .i64 1))).run Try.prog w = .ok (.bool true) w := by kernel_rfl
theorem eql_nils (w : World) : (binOp .eql 31 .nilIface .nilIface).run Try.prog w = .ok (.bool true) w := by kernel_rfl
theorem col_lst {k : Nat} {n : Int} (h1 : 24 ≤ k) (h2 : k ≤ 31) (hn : inR n = true) : ∃ c : Nat, colI k n = c ∧ c ≤ 2 ^ (31 - k) := by
  obtain ⟨n1, n2⟩ := inR_iff.1 hn
  have h3 := colI_nonneg (s := k) n1
  have h4 := colI_lt (s := k) h2 n2
  rw [side_lst] at h4
  exact ⟨(colI k n).toNat, by omega, by omega⟩
theorem rect_lst {k : Nat} {x1 y1 x2 y2 : Int} (h1 : 24 ≤ k) (h2 : k ≤ 31) (h : rmayB x1 y1 x2 y2 = true) : ∃ c1 r1 c2 r2 : Nat, colI k x1 = c1 ∧ colI k y1 = r1 ∧ colI k x2 = c2 ∧ colI k y2 = r2 ∧ c1 ≤ c2 ∧ r1 ≤ r2 ∧ c2 ≤ 2 ^ (31 - k) ∧ r2 ≤ 2 ^ (31 - k) := by
  obtain ⟨m1, m2⟩ := rmay_two h
  obtain ⟨ba, bb, bc, bd, be, bf⟩ := rmayB_bd h
  obtain ⟨c1, e1, u1⟩ := col_lst h1 h2 (mayB_bd m1).1
  obtain ⟨r1, e2, u2⟩ := col_lst h1 h2 (mayB_bd m1).2
  obtain ⟨c2, e3, u3⟩ := col_lst h1 h2 (mayB_bd m2).1
  obtain ⟨r2, e4, u4⟩ := col_lst h1 h2 (mayB_bd m2).2
  have := col_mono (k := k) bb
  have := col_mono (k := k) be
  exact ⟨c1, r1, c2, r2, e1, e2, e3, e4, by omega, by omega, u3, u4⟩
/-- Three brokers, the coarsest but one: all three. -/
theorem up_three : ∀ {zs : List Int}, Rise zs → (∀ x, x ∈ zs ↔ ∃ i j, 0 ≤ i ∧ i ≤ 2 ∧ 0 ≤ j ∧ j ≤ 2 ∧ x = owI (gF 30) 3 (codeI j i)) → zs.length = 3 := by
  intro zs hz hm
  have e : zs = [0, 1, 2] := rise_eq hz (by unfold Rise; decide) fun x => by
    rw [hm]
    constructor
    · rintro ⟨i, j, _, hi, _, hj, rfl⟩
      have : ∀ i : Fin 3, ∀ j : Fin 3, owI (gF 30) 3 (codeI j.val i.val) ∈ [(0 : Int), 1, 2] := by decide
      exact this ⟨i, by omega⟩ ⟨j, by omega⟩
    · intro hx
      simp at hx
      rcases hx with rfl | rfl | rfl
      · exact ⟨0, 0, by omega, by omega, by omega, by omega, by decide⟩
      · exact ⟨2, 0, by omega, by omega, by omega, by omega, by decide⟩
      · exact ⟨2, 2, by omega, by omega, by omega, by omega, by decide⟩
  rw [e]
  rfl
set_option maxHeartbeats 2000000 in
theorem up_any (w : World) : Calls Try.prog 5 #[] w fun e w' => e = .returned (.bool true) ∧ Below w.heap.size w w' := by
  have q1 := eql_arg
  have q2 := eql_nils
  have C1 := Lib.hid (fun W => of_yes 30 1 0 0 1 1 W (by decide) (by decide) (by decide) (by decide) (by decide) (by decide) (by decide) (by decide) (by decide))
  rw [show owF (gF 30) 1 (codeF 31 1 1) = 0 by decide] at C1
  have C2 := Lib.hid (fun W => of_arg 30 65 0 0 W (by decide))
  have C3 := Lib.hid (fun W => all_yes 30 3 (-1073741824) (-1073741824) 1073741824 1073741824 0 0 2 2 W (by decide) (by decide) (by decide) (by decide) (by decide) (by decide) (by decide) (by decide) (by decide) (by decide) (by decide) (by decide) (by decide))
  go_enter Try.func5, Try.ntmps5
  go_wp2_with fail
  refine (C1.out _).mono ?_
  rintro e w1 ⟨rfl, hb1⟩
  go_wp2_with fail
  refine (C2.out _).mono ?_
  rintro e w2 ⟨rfl, hb2⟩
  go_wp2_with fail
  refine (C3.out _).mono ?_
  rintro e w3 h3
  unfold AllE at h3
  obtain ⟨u, zs, rfl, hz, hm, hlen, ⟨b1, cap1, rfl, _⟩, hb3⟩ := h3
  have h3 := up_three hz hm
  rw [h3]
  clear hz hm hlen
  go_wp2_with fail
  go_ret
  exact ⟨rfl, (hb1.trans (hb2.mono hb1.size)).trans (hb3.mono (Nat.le_trans hb1.size hb2.size))⟩
end Go.Proofs.Ytkkolodolmppnaa.Ow
