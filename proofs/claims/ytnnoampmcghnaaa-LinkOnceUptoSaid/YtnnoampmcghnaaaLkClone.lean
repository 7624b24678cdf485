/-
  Contract of bytes.Clone: a copy in new memory. Memory that was there is left as it was.
-/
import Derived.Test.YtnnoampmcghnaaaLkMem
namespace Go.Proofs.Ytnnoampmcghnaaa.Lk
open Go.RowKit Go.Proofs.Ytnnoampmcghnaaa.Fl Go.Proofs.Ytnnoampmcghnaaa.Wi Go.Proofs.Ytnnoampmcghnaaa.Fr
set_option linter.unusedVariables false
set_option linter.unusedSimpArgs false
set_option maxHeartbeats 4000000
set_option maxRecDepth 100000
theorem clone_any (a : Option Addr) (n c : Nat) (l : List UInt8) {S : Nat → Prop} (w : World) (hB : BytesAt w S a l) (hn : n = l.length) (hl : l.length ≤ 100000000) (hS : ∀ g, S g → g < w.heap.size) :
    Calls Try.prog 20 #[.slice a n c] w fun e w' => ∃ a' c', e = .returned (.slice a' n c') ∧ n ≤ c' ∧ BytesAt w' (fun g => w.heap.size ≤ g ∧ g < w'.heap.size) a' l ∧ Below w.heap.size w w' := by
  have q22 : ∀ (w : World) (a : Option Addr) (n c n' c' : Nat), (binOp .eql 38 (.slice a n c) (.slice none n' c')).run Try.prog w = .ok (.bool a.isNone) w := fun w a n c n' c' => Lib.run_eql_slice_nil w _ _ a n c n' c' Try.underlying38
  rcases a with _ | a
  · have h0 : l = [] := by
      rcases Nat.eq_zero_or_pos l.length with h | h
      · exact List.eq_nil_of_length_eq_zero h
      · obtain ⟨g, o, e, _⟩ := hB.2 h; cases e
    subst h0
    have hn0 : n = 0 := hn
    subst hn0
    clear hB hn hl hS
    go_enter Try.func20, Try.ntmps20
    go_wp2
    all_goals (go_ret; exact ⟨none, 0, rfl, Nat.le_refl _, BytesAt.nil _ _ _, Below.refl _ _⟩)
  · have HB := Lib.hid hB
    have HN := Lib.hid hn
    have HL := Lib.hid hl
    have HS := Lib.hid hS
    clear hB hn hl hS
    go_enter Try.func20, Try.ntmps20
    go_wp2_with (first
      | (refine wpList_emptyB rfl rfl ?_)
      | (at_builtin; refine wpList_append_bytes rfl _ _ rfl w.heap.size _ [] rfl (OB.fresh w) (some a) n c l HN.out rfl ((HB.out.far (V := w.alloc (.cells #[] 5)) (T := S) fun g hg => ⟨hg, Below.heap_alloc _ _ _ (HS.out g hg)⟩)) (by have := HL.out; simp; omega) (by simp) ?_))
    intro v' w1 hrow hg hat
    obtain ⟨a1, n1, c1, e1⟩ := own_slice hrow
    subst e1
    have HR := Lib.hid hrow
    have HG := Lib.hid hg
    clear hrow hg hat
    go_wp2_with fail
    go_ret
    obtain ⟨h1, h2, h3⟩ := HR.out.bytes
    have hn := HN.out
    try simp only [List.nil_append] at h1 h2 h3
    refine ⟨a1, c1, by rw [h1, hn]; rfl, by omega, h3.far fun g hg => ⟨hg, rfl⟩, ?_⟩
    exact below_grown (below_alloc w _) (by simp) HG.out (fun k hk => by simp [Value.ownBlock] at hk; omega)
end Go.Proofs.Ytnnoampmcghnaaa.Lk
