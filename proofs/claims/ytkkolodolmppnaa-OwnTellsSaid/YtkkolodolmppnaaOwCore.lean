/-
  Contracts of layer 18 (own): divide, owner, Of, and the document's answers Owner and Of. Memory that was there is left as it was.
-/
import Derived.Test.YtkkolodolmppnaaCvBlock
import Derived.Test.YtkkolodolmppnaaMoCode
import Derived.Test.YtkkolodolmppnaaMoRefS
import Derived.Test.YtkkolodolmppnaaOwPlain
import Derived.BigQuiet
namespace Go.Proofs.Ytkkolodolmppnaa.Ow
open Go.RowKit Go.Proofs.Ytkkolodolmppnaa.Pt Go.Proofs.Ytkkolodolmppnaa.Rc Go.Proofs.Ytkkolodolmppnaa.Mo Go.Proofs.Ytkkolodolmppnaa.Cv
set_option linter.unusedVariables false
set_option linter.unusedSimpArgs false

theorem neq_range_nil (w : World) : (binOp .neq 31 (.iface 37 (.int .i64 11)) .nilIface).run Try.prog w = .ok (.bool true) w := by kernel_rfl
theorem divide_no (s b : Int) (w : World) (h : (shB s && brB b) = false) : Calls Try.prog 15 #[.int .i64 s, .int .i64 b] w fun e w' =>
    e = .returned (.tuple #[.agg #[.int .u64 0, .int .u64 0], .iface 37 (.int .i64 1)]) ∧ Below w.heap.size w w' := by
  have q1 := neq_arg_nil
  cases hb : brB b
  · rcases brB_no hb with h1 | h1
    all_goals
      have h2 : b > 64 ∨ ¬ b > 64 := Classical.em _
      clear h hb
      go_enter Try.func15, Try.ntmps15
      go_wp2
      all_goals
        refine bodyPost_ret (v := .tuple #[.agg #[.int .u64 0, .int .u64 0], .iface 37 (.int .i64 1)]) (by simp [results, Try.results15, go_sem]) rfl ⟨rfl, ?_⟩
        exact (Below.refl w.heap.size w).alloc (Nat.le_refl _) _
  · obtain ⟨h1, h2⟩ := brB_iff.1 hb
    rw [hb, Bool.and_true] at h
    have hsd := sdI_no h
    have C1 := Lib.hid (fun W => side_any s W)
    rw [hsd] at C1
    have C2 := Lib.hid (fun W => code_no (-1) (-1) W (by decide))
    clear h hb hsd
    go_enter Try.func15, Try.ntmps15
    go_wp2_with fail
    refine (C1.out _).mono ?_
    rintro e w1 ⟨rfl, rfl⟩
    go_wp2_with fail
    refine (C2.out _).mono ?_
    rintro e w1 ⟨rfl, rfl⟩
    go_wp2_with fail
    refine bodyPost_ret (v := .tuple #[.agg #[.int .u64 0, .int .u64 0], .iface 37 (.int .i64 1)]) (by simp [results, Try.results15, go_sem]) rfl ⟨rfl, ?_⟩
    exact (Below.refl w.heap.size w).alloc (Nat.le_refl _) _

theorem divide_yes (k b : Nat) (w : World) (h1 : 24 ≤ k) (h2 : k ≤ 31) (h3 : 1 ≤ b) (h4 : b ≤ 64) : Calls Try.prog 15 #[.int .i64 k, .int .i64 b] w fun e w' =>
    e = .returned (.tuple #[.agg #[.int .u64 b, .int .u64 ((gF k : Nat) + 1)], .nilIface]) ∧ Below w.heap.size w w' := by
  have q1 := neq_nil_nil
  have C1 := Lib.hid (fun W => side_any k W)
  have hl := lst_lt h1 h2
  rw [sdI_yes h1 h2, side_lst] at C1
  have C2 := Lib.hid (fun W => code_yes (2 ^ (31 - k)) (2 ^ (31 - k)) W (by omega) (by omega))
  rw [show codeF 31 (2 ^ (31 - k)) (2 ^ (31 - k)) = gF k from rfl] at C2
  have hg := gF_lt h1 h2
  obtain ⟨g, eg⟩ : ∃ g, g = gF k := ⟨_, rfl⟩
  obtain ⟨l, el⟩ : ∃ l, l = 2 ^ (31 - k) := ⟨_, rfl⟩
  rw [← eg] at C2 hg ⊢
  rw [← el] at C1 C2 hl
  have hb1 : ¬ (b : Int) < 1 := by omega
  have hb2 : ¬ (b : Int) > 64 := by omega
  have hl1 : (l : Int) + 1 - 1 = l := by omega
  clear eg el h1 h2
  go_enter Try.func15, Try.ntmps15
  go_wp2_with fail
  refine (C1.out _).mono ?_
  rintro e w1 ⟨rfl, rfl⟩
  go_wp2_with fail
  refine (C2.out _).mono ?_
  rintro e w1 ⟨rfl, rfl⟩
  go_wp2_with fail
  refine bodyPost_ret (v := .tuple #[.agg #[.int .u64 b, .int .u64 ((g : Nat) + 1)], .nilIface]) (by simp [results, Try.results15, go_sem]) rfl ⟨rfl, ?_⟩
  exact (Below.refl w.heap.size w).alloc (Nat.le_refl _) _

theorem quo_nat (n b g : Nat) : Int.tdiv ((n : Int) * (b : Int)) ((g : Int) + 1) = ((owF g b n : Nat) : Int) := by
  unfold owF
  have : ((n : Int) * (b : Int)) = ((n * b : Nat) : Int) := by simp
  rw [this, show ((g : Int) + 1) = ((g + 1 : Nat) : Int) by omega]
  rfl
theorem mul_small {n b : Nat} (hn : n ≤ 65535) (hb : b ≤ 64) : n * b ≤ 4194240 := Nat.le_trans (Nat.mul_le_mul hn hb) (by decide)

theorem owner_any (g b n : Nat) (w : World) (hg : g < 65536) (hb : b ≤ 64) (hn : n ≤ 65535) : Calls Try.prog 18 #[.agg #[.int .u64 b, .int .u64 ((g : Nat) + 1)], .int .u64 n] w fun e w' =>
    e = .returned (.int .i64 (owF g b n : Nat)) ∧ Below w.heap.size w w' := by
  have hm := mul_small hn hb
  have hq := quo_nat n b g
  have hle : owF g b n ≤ n * b := Nat.div_le_self _ _
  have e1 : (n : Int) * (b : Int) = ((n * b : Nat) : Int) := by simp
  obtain ⟨m, em⟩ : ∃ m, m = n * b := ⟨_, rfl⟩
  rw [← em] at hm e1 hle
  rw [e1] at hq
  obtain ⟨o, eo⟩ : ∃ o, o = owF g b n := ⟨_, rfl⟩
  rw [← eo] at hq hle ⊢
  have hz : ¬ ((g : Int) + 1 = 0) := by omega
  clear em eo
  go_enter Try.func18, Try.ntmps18
  go_wp2
  all_goals (go_ret; exact ⟨rfl, (Below.refl _ _).alloc (Nat.le_refl _) _⟩)

theorem refOwner_any (k b n : Nat) (w : World) (h1 : 24 ≤ k) (h2 : k ≤ 31) (hb : b ≤ 64) (hn : n ≤ 65535) : Calls Try.prog 21 #[.int .i64 k, .int .i64 b, .int .u64 n] w fun e w' =>
    e = .returned (.int .i64 (owF (gF k) b n : Nat)) ∧ w = w' := by
  have hl := lst_lt h1 h2
  have C1 := Lib.hid (fun W => refSide_any k W h1 h2)
  rw [side_lst] at C1
  have C2 := Lib.hid (fun W => refCode_any 31 (2 ^ (31 - k)) (2 ^ (31 - k)) W (by omega) (by omega) (by omega))
  rw [show codeF 31 (2 ^ (31 - k)) (2 ^ (31 - k)) = gF k from rfl] at C2
  have hg := gF_lt h1 h2
  obtain ⟨g, eg⟩ : ∃ g, g = gF k := ⟨_, rfl⟩
  obtain ⟨l, el⟩ : ∃ l, l = 2 ^ (31 - k) := ⟨_, rfl⟩
  rw [← eg] at C2 hg ⊢
  rw [← el] at C1 C2 hl
  have hl1 : (l : Int) + 1 - 1 = l := by omega
  have hm := mul_small hn hb
  have hq := quo_nat n b g
  have hle : owF g b n ≤ n * b := Nat.div_le_self _ _
  have e1 : (n : Int) * (b : Int) = ((n * b : Nat) : Int) := by simp
  obtain ⟨m, em⟩ : ∃ m, m = n * b := ⟨_, rfl⟩
  rw [← em] at hm e1 hle
  rw [e1] at hq
  obtain ⟨o, eo⟩ : ∃ o, o = owF g b n := ⟨_, rfl⟩
  rw [← eo] at hq hle ⊢
  have hz : ¬ ((g : Int) + 1 = 0) := by omega
  clear em eo eg el h1 h2
  go_enter Try.func21, Try.ntmps21
  go_wp2_with fail
  refine (C1.out _).mono ?_
  rintro e w1 ⟨rfl, rfl⟩
  go_wp2_with fail
  refine (C2.out _).mono ?_
  rintro e w1 ⟨rfl, rfl⟩
  go_wp2_with fail
  go_ret
  exact ⟨rfl, rfl⟩
end Go.Proofs.Ytkkolodolmppnaa.Ow
