/-
  Contract of cover.codes: the numbers of a block's cells, row by row, in a slice of the call's own. Memory that was there is left as it was.
-/
import Derived.Test.YtkkolodolmppnaaCvSorted
import Derived.Test.YtkkolodolmppnaaCvPlain
import Derived.Test.YtkkolodolmppnaaCvBlock
import Derived.Test.YtkkolodolmppnaaMoCode
namespace Go.Proofs.Ytkkolodolmppnaa.Cv
open Go.RowKit Go.Proofs.Ytkkolodolmppnaa.So Go.Proofs.Ytkkolodolmppnaa.Mo
set_option linter.unusedVariables false

theorem own_wide {W : World} {base base' n : Nat} {t : TypeId} {v : Value} {xs : List Value} (h : W.ownsRow base t 1 v n xs) (hb : base' ≤ base) : W.ownsRow base' t 1 v n xs := by
  rcases h with ⟨h1, h2 | ⟨g, cap, cur, e, h3, h4⟩⟩
  · exact ⟨h1, Or.inl h2⟩
  · exact ⟨h1, Or.inr ⟨g, cap, cur, e, by omega, h4⟩⟩
def codeI (i j : Nat) : Int := (codeF 31 i j : Nat)
theorem code_inj {i j a b : Nat} (h1 : i < 1000) (h2 : j < 1000) (h3 : a < 1000) (h4 : b < 1000) (h : codeI i j = codeI a b) : i = a ∧ j = b :=
  (codeF_inj (k := 31) (by omega) (by omega) (by omega) (by omega)).1 (Int.ofNat.inj h)
/-- The four cells of the parameter's block. -/
def Four (v : World) (B : Nat) (a b c d : Int) : Prop := B < v.heap.size ∧ v.cell? ⟨B, 0, none⟩ = some (.int .i64 a) ∧ v.cell? ⟨B, 1, none⟩ = some (.int .i64 b) ∧ v.cell? ⟨B, 2, none⟩ = some (.int .i64 c) ∧ v.cell? ⟨B, 3, none⟩ = some (.int .i64 d)
theorem Four.later {v W : World} {B : Nat} {a b c d : Int} (h : Four v B a b c d) (hb : Below v.heap.size v W) : Four W B a b c d := by
  obtain ⟨h0, h1, h2, h3, h4⟩ := h
  exact ⟨Nat.lt_of_lt_of_le h0 hb.size, (hb.cell (p := ⟨B, 0, none⟩) h0).trans h1, (hb.cell (p := ⟨B, 1, none⟩) h0).trans h2, (hb.cell (p := ⟨B, 2, none⟩) h0).trans h3, (hb.cell (p := ⟨B, 3, none⟩) h0).trans h4⟩
theorem Four.new (w : World) (a b c d : Int) (t : TypeId) : Four (w.alloc (.cells #[.int .i64 a, .int .i64 b, .int .i64 c, .int .i64 d] t)) w.heap.size a b c d := by
  refine ⟨by simp, ?_, ?_, ?_, ?_⟩ <;> simp [go_sem]

/-- Between the rounds of a loop: so far ps has been collected, in a slice of one's own. -/
def CoR (v : World) (t : TypeId) (f : Nat → Nat → Int) (a1 b1 b2 a2 : Nat) (vi vo : Value) (wr : World) : Prop :=
  ∃ (a : Nat) (ps : List Int), vi = .int .i64 a ∧ a1 ≤ a ∧ a ≤ a2 + 1 ∧ Coll f a1 b1 b2 a b1 ps ∧ wr.ownsRow v.heap.size t 1 vo ps.length (u64s ps) ∧ Below v.heap.size v wr
def CoC (v : World) (t : TypeId) (f : Nat → Nat → Int) (a1 b1 b2 a : Nat) (vj vo : Value) (wr : World) : Prop :=
  ∃ (b : Nat) (ps : List Int), vj = .int .i64 b ∧ b1 ≤ b ∧ b ≤ b2 + 1 ∧ Coll f a1 b1 b2 a b ps ∧ wr.ownsRow v.heap.size t 1 vo ps.length (u64s ps) ∧ Below v.heap.size v wr

set_option maxHeartbeats 2000000 in
set_option maxRecDepth 100000 in
theorem codes_any (c1 r1 c2 r2 : Nat) (w : World) (hc : c1 ≤ c2) (hr : r1 ≤ r2) (hc2 : c2 ≤ 190) (hr2 : r2 ≤ 190) :
    Calls Try.prog 32 #[.agg #[.int .i64 c1, .int .i64 r1, .int .i64 c2, .int .i64 r2]] w fun e w' =>
      ∃ (u : Value) (ps : List Int), e = .returned (.tuple #[u, .nilIface]) ∧ Cells (fun i j => codeI j i) r1 c1 r2 c2 ps ∧ w'.ownsRow w.heap.size 43 1 u ps.length (u64s ps) ∧ Below w.heap.size w w' := by
  have q4 := neq_nil_nil
  obtain ⟨i0, hi, hz0, hz1, hz2⟩ := info_cut A.info64
  have hFour := Four.new w c1 r1 c2 r2 66
  obtain ⟨v, hv⟩ : ∃ v, v = w.alloc (.cells #[.int .i64 c1, .int .i64 r1, .int .i64 c2, .int .i64 r2] 66) := ⟨_, rfl⟩
  have HV := Lib.hid (show Below w.heap.size w v ∧ w.heap.size ≤ v.heap.size by rw [hv]; exact ⟨(Below.refl _ _).alloc (Nat.le_refl _) _, by simp⟩)
  have HE := Lib.hid hv
  rw [← hv] at hFour
  obtain ⟨B, hB⟩ : ∃ B, B = w.heap.size := ⟨_, rfl⟩
  rw [← hB] at hFour
  have FV := Lib.hid hFour
  have HBE := Lib.hid hB
  clear hv hB hFour
  go_enter Try.func32, Try.ntmps32
  go_wp2_with fail
  rw [← HE.out, ← HBE.out]
  go_loopw [5, 4] (fun vi vo wr => CoR v 43 (fun i j => codeI j i) r1 c1 c2 r2 vi vo wr) (fun vi _ _ => r2 + 1 - nOf vi)
  case atStart => exact ⟨r1, [], rfl, Nat.le_refl _, by omega, Coll.start _ _ _ _, World.ownsRow_nil _ _ _ _, Below.refl _ _⟩
  case round =>
    obtain ⟨a, ps, rfl, ha1, ha2, hC, hO, hB⟩ := hrel
    have HC := Lib.hid hC
    have HO := Lib.hid hO
    have HB := Lib.hid hB
    obtain ⟨_, e0, e1, e2, e3⟩ := FV.out.later hB
    clear hC hO hB
    by_cases hlt : a ≤ r2
    · have hz : (a : Int) ≤ (r2 : Int) := by omega
      go_wp2_with fail
      go_loopw [6, 4] (fun vj vo wr => CoC v 43 (fun i j => codeI j i) r1 c1 c2 a vj vo wr) (fun vj _ _ => c2 + 1 - nOf vj)
      case atStart => exact ⟨c1, ps, rfl, Nat.le_refl _, by omega, HC.out, HO.out, HB.out⟩
      case round =>
        clear e0 e1 e2 e3 HC HO HB
        clear ps
        obtain ⟨b, ps, rfl, hb1, hb2, hC, hO, hB⟩ := hrel
        have HC := Lib.hid hC
        have HO := Lib.hid hO
        have HB := Lib.hid hB
        have hsm := hC.small (by omega) hb2 (by omega)
        have HL := Lib.hid hsm
        obtain ⟨_, e0, e1, e2, e3⟩ := FV.out.later hB
        obtain ⟨n, hn⟩ : ∃ n, n = ps.length := ⟨_, rfl⟩
        have HN := Lib.hid hn
        rw [← hn] at hsm
        clear hC hO hB hn
        by_cases hlt2 : b ≤ c2
        · have hbz : (b : Int) ≤ (c2 : Int) := by omega
          go_wp2_with fail
          refine (code_yes b a wr (by omega) (by omega)).mono ?_
          rintro e w1 ⟨rfl, rfl⟩
          obtain ⟨X, hX⟩ : ∃ X : Int, X = codeI b a := ⟨_, rfl⟩
          have HX := Lib.hid hX
          rw [show ((codeF 31 b a : Nat) : Int) = X from hX.symm]
          have OW := Lib.hid (HO.out.alloc (.cells #[.int .u64 X] 43))
          have BW := Lib.hid (HB.out.alloc HB.out.size (.cells #[.int .u64 X] 43))
          have NW := Lib.hid (cell_one_new wr (.int .u64 X) 43)
          rw [← HN.out] at OW
          clear hX HO HB
          go_wp2_with (first | (at_builtin; refine wpList_append_own_at _ rfl _ _ 53 rfl v.heap.size 43 i0 (.int .u64 0) 1 8 Try.underlying53 hi hz0 hz1 hz2 rfl (by decide) _ _ _ rfl OW.out ⟨wr.heap.size, 0, none⟩ 1 1 [.int .u64 X] rfl rfl NW.out (one_u64 [X]) (by unfold maxLen; omega) (by omega) BW.out.size ?_))
          intro v1 w3 hown hgrow _ _
          have HBn := Lib.hid (own_below BW.out OW.out hgrow)
          have HOn := Lib.hid (own_as hown (show u64s ps ++ [.int .u64 X] = u64s (ps ++ [X]) by simp [u64s]))
          have HCn := Lib.hid (HC.out.next ha1 hb1 hlt2 (fun i j h1 h2 h3 => by have := code_inj (by omega) (by omega) (by omega) (by omega) h3; exact ⟨this.2, this.1⟩))
          clear hgrow hown
          go_wp2
          go_roundw
          case rel => first | exact ⟨b + 1, ps ++ [X], by first | rfl | simp, by omega, by omega, by rw [HX.out]; exact HCn.out, HOn.out, HBn.out⟩ | ((repeat apply Exists.intro); exact ⟨⟨b + 1, ps ++ [X], by first | rfl | simp, by omega, by omega, by rw [HX.out]; exact HCn.out, HOn.out, HBn.out⟩, rfl⟩)
          case measure => simp [nOf]; omega
        · have hbz : ¬ (b : Int) ≤ (c2 : Int) := by omega
          obtain rfl : b = c2 + 1 := by omega
          go_wp2_with fail
          go_roundw
          case rel => first | exact ⟨a + 1, ps, by first | rfl | simp, by omega, by omega, HC.out.row ha1 (by omega), HO.out, HB.out⟩ | ((repeat apply Exists.intro); exact ⟨⟨a + 1, ps, by first | rfl | simp, by omega, by omega, HC.out.row ha1 (by omega), HO.out, HB.out⟩, rfl⟩)
          case measure => simp [nOf]; omega
    · have hz : ¬ (a : Int) ≤ (r2 : Int) := by omega
      obtain rfl : a = r2 + 1 := by omega
      go_wp2_with fail
      refine bodyPost_ret (v := .tuple #[_, .nilIface]) (by simp [results, Try.results32, go_sem]) rfl ⟨_, rfl, ps, HC.out.all, own_wide HO.out HV.out.2, HV.out.1.trans (HB.out.mono HV.out.2)⟩
end Go.Proofs.Ytkkolodolmppnaa.Cv
