/-
  For every filter and string the law FilterBack returns true (a text of a filter is read as it, if it has at most 500 bytes, and what is read has such a text), and the arguments read behind the call as they read before. Condition: the five variables of Go's library that the row lists hold what the program's own text lays there; the card ties them to that text.
-/
import Derived.Test.YtjffnjiggcfhcaaDoorMb16
import Derived.Test.YtjffnjiggcfhcaaDoorMb18
import Derived.Test.YtjffnjiggcfhcaaDoorMb09
import Derived.Test.YtjffnjiggcfhcaaDoorMb17
import Derived.Test.YtjffnjiggcfhcaaDoorCards
import Derived.Test.YtjffnjiggcfhcaaDoorTie
import Derived.WalkKit
import Derived.ProofKit
import Derived.OpenShut
import Derived.ChangeOld
import Derived.Below
import Derived.ChangeSame
import Derived.ChangeMaps5
import Derived.JoinedOf
import Derived.JoinedAt
import Derived.Lib.SmallJoins
import Derived.LaidMore
import Derived.LaidLaws
import Derived.Stop.LaidErr
import Derived.Stop.Joined
import Derived.SevenTiedAt
/-
  The document's example, at the head of the layer's statements: it holds.
-/
namespace Go.Proofs.YtjffnjiggcfhcaaDoor.Fl
open Go.RowKit Go.Proofs.YtjffnjiggcfhcaaDoor.Tk
set_option linter.unusedVariables false
set_option linter.unusedSimpArgs false

def upS : List UInt8 := [97, 32, 60, 32, 53, 32, 97, 110, 100, 32, 40, 98, 32, 61, 32, 34, 120, 34, 32, 111, 114, 32, 110, 111, 116, 32, 99, 32, 105, 110, 32, 40, 49, 41, 41]
def upF : Flt := .mk 1 [] [] [] [.mk 4 [97] [60] [⟨[], false, 5, []⟩] [], .mk 2 [] [] [] [.mk 4 [98] [61] [⟨[], true, 0, [120]⟩] [], .mk 3 [] [] [] [.mk 6 [99] [] [⟨[], false, 1, []⟩] []]]]
def trueF : Flt := .mk 7 [] [] [] []
def zeroF : Flt := .mk 0 [] [] [] []
theorem up_read : readL upS = some upF := by kernel_rfl
theorem up_may : mayB upF 10 60 = true := by kernel_rfl
theorem up_a : readL [97] = none := by kernel_rfl
theorem up_aks : ∃ ks, cutAt 0 [97] = some ks := ⟨[⟨1, 0, 0, [97]⟩], by kernel_rfl⟩
theorem up_true : mayB trueF 10 60 = true := by kernel_rfl
theorem up_zero : mayB zeroF 10 60 = false := by kernel_rfl
theorem up_text : showF trueF = [116, 114, 117, 101] := by unfold trueF; first | (simp [showF]; done) | (rw [showF]; rfl)
theorem eql_iface (n : Int) (w : World) : (binOp .eql 29 (.iface 35 (.int .i64 n)) (.iface 35 (.int .i64 n))).run Tryd.prog w = .ok (.bool (n == n)) w := by kernel_rfl
set_option maxHeartbeats 4000000 in
set_option maxRecDepth 100000 in
theorem up_any (w : World) (hE : LaidE w) (hT : LaidT w) : Calls Tryd.prog 4 #[] w fun e w' => e = .returned (.bool true) ∧ Below w.heap.size w w' := by
  have HE := Lib.hid hE
  have HT := Lib.hid hT
  have C1 := Lib.hid (read_any ⟨upS.toArray⟩ w hE)
  have e1 := eqN
  have e2 : ∀ w, (binOp .eql 29 (.iface 35 (.int .i64 3)) (.iface 35 (.int .i64 3))).run Tryd.prog w = .ok (.bool true) w := fun w => eql_iface 3 w
  clear hE hT
  go_enter Tryd.func4, Tryd.ntmps4
  go_wp2_with fail
  refine Calls.mono C1.out ?_
  rintro e w1 ⟨hb1, ⟨n, _, hno⟩ | ⟨f, a, c, b, d, hr, hm, _, he, hF⟩⟩
  · exfalso
    rcases hno with ⟨h, _⟩ | ⟨_, _, h⟩ | ⟨_, _, _, h⟩ | ⟨_, _, f, h, h2⟩
    · exact absurd h (by decide)
    · have := up_read
      unfold readL at this
      rw [show cutAt 0 upS = none from h] at this
      cases this
    · exact absurd ((show readL upS = none from h).symm.trans up_read) (by simp)
    · obtain rfl : f = upF := Option.some.inj ((show readL upS = some f from h).symm.trans up_read)
      rw [up_may] at h2
      cases h2
  · obtain rfl : f = upF := Option.some.inj ((show readL upS = some f from hr).symm.trans up_read)
    have he' : e = .returned (.tuple #[.agg #[.int .i64 1, .string ⟨#[]⟩, .string ⟨#[]⟩, .slice a 0 c, .slice b 2 d], .nilIface]) := he
    subst he'
    have B1 := Lib.hid hb1
    have F1 := Lib.hid hF
    clear hb1 hF hr hm he
    obtain ⟨w2, hw2⟩ : ∃ v, v = w1.alloc (.cells #[.int .i64 1, .string ⟨#[]⟩, .string ⟨#[]⟩, .slice a 0 c, .slice b 2 d] 25) := ⟨_, rfl⟩
    have HW2 := Lib.hid hw2
    have B2 := Lib.hid (show Below w.heap.size w w2 by rw [hw2]; exact B1.out.alloc B1.out.size _)
    have X2 := Lib.hid (show Box w2 w1.heap.size (.int .i64 1) (.string ⟨#[]⟩) (.string ⟨#[]⟩) (.slice a 0 c) (.slice b 2 d) by rw [hw2]; exact Box.new ..)
    have F2 := Lib.hid (show FltAt w2 (Old w2.heap.size) upF a b by rw [hw2]; exact F1.out.far fun g h => ⟨by have := h.2; show g < _; simp; omega, Below.heap_alloc _ _ _ h.2⟩)
    have C2 := Lib.hid (read_any ⟨#[97]⟩ w2 (HE.out.later B2.out))
    clear hw2
    go_wp2_with fail
    rw [← HW2.out]
    refine Calls.mono C2.out ?_
    rintro e w3 ⟨hb3, ⟨n, rfl, hno⟩ | ⟨f, _, _, _, _, hr, _⟩⟩
    · have hn : n = 3 := by
        rcases hno with ⟨h, _⟩ | ⟨_, _, h⟩ | ⟨_, h, _, _⟩ | ⟨_, _, f, h, _⟩
        · exact absurd h (by decide)
        · obtain ⟨ks, hk⟩ := up_aks
          rw [show cutAt 0 [97] = none from h] at hk
          cases hk
        · exact h
        · exact absurd ((show readL [97] = some f from h).symm.trans up_a) (by simp)
      subst hn
      have B3 := Lib.hid (B2.out.trans (hb3.mono B2.out.size))
      have X3 := Lib.hid (X2.out.later hb3)
      have F3 := Lib.hid (F2.out.later hb3)
      have H23 := Lib.hid hb3.size
      clear hb3 hno
      obtain ⟨w4, hw4⟩ : ∃ v, v = w3.alloc (.cells #[.int .i64 0, .string ⟨#[]⟩, .string ⟨#[]⟩, .slice none 0 0, .slice none 0 0] 25) := ⟨_, rfl⟩
      have HW4 := Lib.hid hw4
      have B4 := Lib.hid (show Below w.heap.size w w4 by rw [hw4]; exact B3.out.alloc B3.out.size _)
      have B34 := Lib.hid (show Below w3.heap.size w3 w4 by rw [hw4]; exact (Below.refl _ _).alloc (Nat.le_refl _) _)
      have X4 := Lib.hid (X3.out.later B34.out)
      have F4 := Lib.hid (F3.out.later (B34.out.mono H23.out))
      have C4 := Lib.hid (show Calls Tryd.prog 6 #[.agg #[.int .i64 7, .string ⟨#[]⟩, .string ⟨#[]⟩, .slice none 0 0, .slice none 0 0]] w4 fun e w' => TextEnd trueF w4 w' e from textTop_any trueF none 0 none 0 w4 (HE.out.later B4.out) (HT.out.later B4.out) (FltAt.mk' ⟨by decide, by decide, by decide, by decide, by decide⟩ ⟨by decide, (fun v h => by cases h), fun h => absurd h (Nat.lt_irrefl _)⟩ (by rw [show trueF.parts = [] from rfl, PartsAt]; trivial)))
      clear hw4
      go_wp2_with fail
      rw [← HW4.out]
      refine Calls.mono C4.out ?_
      rintro e w5 ⟨hb5, ⟨hm, _⟩ | ⟨_, rfl⟩⟩
      · rw [up_true] at hm
        cases hm
      · rw [up_text]
        have B5 := Lib.hid (B4.out.trans (hb5.mono B4.out.size))
        have X5 := Lib.hid (X4.out.later hb5)
        have F5 := Lib.hid ((F4.out.later (hb5.mono (Nat.le_trans H23.out B34.out.size))).wide (Nat.le_trans (Nat.le_trans H23.out B34.out.size) hb5.size))
        clear hb5
        have C5 := Lib.hid (show Calls Tryd.prog 9 #[.agg #[.int .i64 1, .string ⟨#[]⟩, .string ⟨#[]⟩, .slice a 0 c, .slice b 2 d]] w5 fun e w' => e = .returned (.bool true) ∧ Below w5.heap.size w5 w' from up_may ▸ filterMay_any upF a c b d w5 (HE.out.later B5.out) F5.out)
        have C6 := Lib.hid (fun W (h : LaidE W) => (show Calls Tryd.prog 9 #[.agg #[.int .i64 0, .string ⟨#[]⟩, .string ⟨#[]⟩, .slice none 0 0, .slice none 0 0]] W fun e w' => e = .returned (.bool false) ∧ Below W.heap.size W w' from up_zero ▸ filterMay_any zeroF none 0 none 0 W h (FltAt.mk' ⟨by decide, by decide, by decide, by decide, by decide⟩ ⟨by decide, (fun v h => by cases h), fun h => absurd h (Nat.lt_irrefl _)⟩ (by rw [show zeroF.parts = [] from rfl, PartsAt]; trivial))))
        obtain ⟨x0, x1, x2, x3, x4⟩ := X5.out
        have xl : w1.heap.size < w5.heap.size := X5.out.lt
        go_wp2_with fail
        refine Calls.mono C5.out ?_
        rintro e w6 ⟨rfl, hb6⟩
        have B6 := Lib.hid (B5.out.trans (hb6.mono B5.out.size))
        clear hb6
        go_wp2_with fail
        refine Calls.mono (C6.out _ (HE.out.later B6.out)) ?_
        rintro e w7 ⟨rfl, hb7⟩
        have B7 := Lib.hid (B6.out.trans (hb7.mono B6.out.size))
        clear hb7
        go_wp2_with fail
        go_ret
        exact ⟨rfl, B7.out⟩
    · exact absurd ((show readL [97] = some f from hr).symm.trans up_a) (by simp)
end Go.Proofs.YtjffnjiggcfhcaaDoor.Fl
/-
  A filter is the same as itself; as it alone where it is told by its text. Plain facts.
-/
namespace Go.Proofs.YtjffnjiggcfhcaaDoor.Fl
set_option linter.unusedVariables false

theorem attEq_refl (u : Att) : attEq u u = true := by simp [attEq]
theorem attsEq_refl : ∀ l : List Att, attsEq l l = true
  | [] => rfl
  | u :: r => by
    show (attEq u u && attsEq r r) = true
    rw [attEq_refl, attsEq_refl r]
    rfl
mutual
theorem sameB_refl : ∀ f : Flt, sameB f f = true
  | .mk k n o vs ps => by
    rw [sameB, show (Flt.mk k n o vs ps).kind = k from rfl, show (Flt.mk k n o vs ps).name = n from rfl, show (Flt.mk k n o vs ps).op = o from rfl, show (Flt.mk k n o vs ps).vals = vs from rfl, show (Flt.mk k n o vs ps).parts = ps from rfl, attsEq_refl, sameL_refl ps]
    simp
theorem sameL_refl : ∀ l : List Flt, sameL l l = true
  | [] => by rw [sameL]
  | p :: r => by rw [sameL, sameB_refl p, sameL_refl r]; rfl
end
end Go.Proofs.YtjffnjiggcfhcaaDoor.Fl
/-
  The law of the layer's own: a text of a filter is read as it; what is read has such a text.
-/
namespace Go.Proofs.YtjffnjiggcfhcaaDoor.Fl
open Go.RowKit Go.Proofs.YtjffnjiggcfhcaaDoor.Tk
set_option linter.unusedVariables false
set_option linter.unusedSimpArgs false

theorem no_flt {f : Flt} {n : Int} (hm : mayB f 10 60 = true) (hr : rng f) (h : NoFlt (showF f) n) : 500 < (showF f).length ∧ n = 5 := by
  have hrd := read_show (may_fine hm).1 hr
  rcases h with h | ⟨_, _, h⟩ | ⟨_, _, _, h⟩ | ⟨_, _, g, h, h2⟩
  · exact h
  · unfold readL at hrd
    rw [h] at hrd
    cases hrd
  · rw [hrd] at h
    cases h
  · rw [hrd] at h
    cases h
    rw [hm] at h2
    cases h2
theorem is_flt {f g : Flt} (hm : mayB f 10 60 = true) (hr : rng f) (h : readL (showF f) = some g) : g = f := by
  rw [read_show (may_fine hm).1 hr] at h
  exact (Option.some.inj h).symm
/-- What the functions answer of a filter, in letters for what its struct holds: k, sn, so, n1, n2; st: its text. -/
def Pk (f : Flt) (k : Int) (sn so st : ByteArray) (n1 n2 : Nat) : Prop :=
  (∀ (a : Option Addr) (c : Nat) (b : Option Addr) (d : Nat), (Value.agg #[.int .i64 f.kind, bs f.name, bs f.op, .slice a f.vals.length c, .slice b f.parts.length d]) = .agg #[.int .i64 k, .string sn, .string so, .slice a n1 c, .slice b n2 d]) ∧
  (∀ (a : Option Addr) (c : Nat) (b : Option Addr) (d : Nat) (W : World), FltAt W (Old W.heap.size) f a b → Calls Tryd.prog 5 #[.agg #[.int .i64 k, .string sn, .string so, .slice a n1 c, .slice b n2 d]] W fun e w' => (∃ r : Bool, e = .returned (.bool r)) ∧ Below W.heap.size W w') ∧
  (∀ (a : Option Addr) (c : Nat) (b : Option Addr) (d : Nat) (W : World), LaidE W → LaidT W → FltAt W (Old W.heap.size) f a b → Calls Tryd.prog 6 #[.agg #[.int .i64 k, .string sn, .string so, .slice a n1 c, .slice b n2 d]] W fun e w' => Below W.heap.size W w' ∧ ((mayB f 10 60 = false ∧ e = .returned (.tuple #[.string ⟨#[]⟩, .iface 35 (.int .i64 1)])) ∨ (mayB f 10 60 = true ∧ e = .returned (.tuple #[.string st, .nilIface])))) ∧
  (∀ (a : Option Addr) (c : Nat) (b : Option Addr) (d : Nat) (a' : Option Addr) (c' : Nat) (b' : Option Addr) (d' : Nat) (W : World), FltAt W (Old W.heap.size) f a b → FltAt W (Old W.heap.size) f a' b' → Calls Tryd.prog 8 #[.agg #[.int .i64 k, .string sn, .string so, .slice a n1 c, .slice b n2 d], .agg #[.int .i64 k, .string sn, .string so, .slice a' n1 c', .slice b' n2 d']] W fun e w' => e = .returned (.bool true) ∧ Below W.heap.size W w') ∧
  (mayB f 10 60 = true → rng f → ∀ W : World, LaidE W → Calls Tryd.prog 7 #[.string st] W fun e w' => Below W.heap.size W w' ∧
    ((st.size ≤ 500 ∧ ∃ a c b d, e = .returned (.tuple #[.agg #[.int .i64 k, .string sn, .string so, .slice a n1 c, .slice b n2 d], .nilIface]) ∧ FltAt w' (Old w'.heap.size) f a b) ∨
     (500 < st.size ∧ e = .returned (.tuple #[.agg #[.int .i64 0, .string ⟨#[]⟩, .string ⟨#[]⟩, .slice none 0 0, .slice none 0 0], .iface 35 (.int .i64 5)]))))
theorem pk (f : Flt) : ∃ k sn so st n1 n2, Pk f k sn so st n1 n2 := by
  obtain ⟨sn, esn, _⟩ := bs_bytes f.name
  obtain ⟨so, eso, _⟩ := bs_bytes f.op
  refine ⟨f.kind, sn, so, ⟨(showF f).toArray⟩, f.vals.length, f.parts.length, fun a c b d => by rw [esn, eso], fun a c b d W hF => ?_, fun a c b d W hE hT hF => ?_, fun a c b d a' c' b' d' W hF hG => ?_, fun hm hr W hE => ?_⟩
  · rw [← esn, ← eso]
    refine (few_any f a c b d W hF).mono ?_
    rintro e w' ⟨⟨r, hr, _⟩, hb⟩
    exact ⟨⟨r, hr⟩, hb⟩
  · rw [← esn, ← eso]
    exact textTop_any f a c b d W hE hT hF
  · rw [← esn, ← eso, ← sameB_refl f]
    exact same_all (sz f) f (Nat.le_refl _) f a c b d a' c' b' d' W hF hG
  · refine (read_any ⟨(showF f).toArray⟩ W hE).mono ?_
    have hsz : (ByteArray.mk (showF f).toArray).size = (showF f).length := by simp [ByteArray.size]
    have hl : (ByteArray.mk (showF f).toArray).data.toList = showF f := by simp
    rw [hl, hsz]
    rintro e w' ⟨hb, ⟨n, rfl, hno⟩ | ⟨g, a, c, b, d, hrd, hm2, h5, rfl, hF⟩⟩
    · obtain ⟨h5, rfl⟩ := no_flt hm hr hno
      exact ⟨hb, Or.inr ⟨h5, rfl⟩⟩
    · obtain rfl := is_flt hm hr hrd
      exact ⟨hb, Or.inl ⟨h5, a, c, b, d, by rw [esn, eso], hF.far fun g h => ⟨h.2, rfl⟩⟩⟩
theorem neq_iface (w : World) : (binOp .neq 29 (.iface 35 (.int .i64 5)) (.iface 35 (.int .i64 5))).run Tryd.prog w = .ok (.bool false) w := by kernel_rfl

set_option maxHeartbeats 8000000 in
set_option maxRecDepth 100000 in
theorem back_walk (f : Flt) (a : Option Addr) (c : Nat) (b : Option Addr) (d : Nat) (s : ByteArray) (w : World) (hE : LaidE w) (hT : LaidT w) (hF : FltAt w (Old w.heap.size) f a b) :
    Calls Tryd.prog 3 #[.agg #[.int .i64 f.kind, bs f.name, bs f.op, .slice a f.vals.length c, .slice b f.parts.length d], .string s] w fun e w' => e = .returned (.bool true) ∧ Below w.heap.size w w' := by
  have HE := Lib.hid hE
  have HT := Lib.hid hT
  have HF := Lib.hid hF
  have HRF := Lib.hid hF.rng
  have q1 := eqN
  have q2 := eqE 1
  have q3 := neqN
  have q4 := neqE 5
  have q5 := neq_iface
  have q6 : ∀ w, (binOp .eql 29 (.iface 35 (.int .i64 5)) (.iface 35 (.int .i64 5))).run Tryd.prog w = .ok (.bool true) w := fun w => eql_iface 5 w
  obtain ⟨k, sn, so, st, n1, n2, hpk⟩ := pk f
  rw [hpk.1]
  have HPF := Lib.hid hpk
  clear hE hT hF hpk
  obtain ⟨w1, hw1⟩ : ∃ v, v = w.alloc (.cells #[.int .i64 k, .string sn, .string so, .slice a n1 c, .slice b n2 d] 25) := ⟨_, rfl⟩
  have HW1 := Lib.hid hw1
  have B1 := Lib.hid (show Below w.heap.size w w1 by rw [hw1]; exact (Below.refl _ _).alloc (Nat.le_refl _) _)
  have X1 := Lib.hid (show Box w1 w.heap.size (.int .i64 k) (.string sn) (.string so) (.slice a n1 c) (.slice b n2 d) by rw [hw1]; exact Box.new ..)
  clear hw1
  go_enter Tryd.func3, Tryd.ntmps3
  go_wp2_with fail
  rw [← HW1.out]
  refine Calls.mono (up_any w1 (HE.out.later B1.out) (HT.out.later B1.out)) ?_
  rintro e w2 ⟨rfl, hb⟩
  have B2 := Lib.hid (B1.out.trans (hb.mono B1.out.size))
  have X2 := Lib.hid (X1.out.later hb)
  clear hb
  obtain ⟨x0, x1, x2, x3, x4⟩ := X2.out
  have xl := X2.out.lt
  go_wp2_with fail
  clear x0 x1 x2 x3 x4 xl
  refine Calls.mono (HPF.out.2.1 a c b d _ ((HF.out.later B2.out).wide B2.out.size)) ?_
  rintro e w3 ⟨⟨r, rfl⟩, hb⟩
  have B3 := Lib.hid (B2.out.trans (hb.mono B2.out.size))
  have X3 := Lib.hid (X2.out.later hb)
  clear hb
  cases r with
  | false =>
    go_wp2_with fail
    go_ret
    exact ⟨rfl, B3.out⟩
  | true =>
    by_cases hz : (s.size : Int) > 1000
    · have hzb : decide ((s.size : Int) > 1000) = true := decide_eq_true hz
      go_wp2_with fail
      go_ret
      exact ⟨rfl, B3.out⟩
    · have hzb : decide ((s.size : Int) > 1000) = false := decide_eq_false hz
      obtain ⟨x0, x1, x2, x3, x4⟩ := X3.out
      have xl := X3.out.lt
      go_wp2_with fail
      clear x0 x1 x2 x3 x4 xl
      refine Calls.mono (HPF.out.2.2.1 a c b d _ (HE.out.later B3.out) (HT.out.later B3.out) ((HF.out.later B3.out).wide B3.out.size)) ?_
      rintro e w4 ⟨hb, ⟨hm, rfl⟩ | ⟨hm, rfl⟩⟩
      · have B4 := Lib.hid (B3.out.trans (hb.mono B3.out.size))
        clear hb hm
        go_wp2_with fail
        refine Calls.mono (read_any s w4 (HE.out.later B4.out)) ?_
        rintro e w5 ⟨hb, ⟨n, rfl, _⟩ | ⟨g, ga, gc, gb, gd, _, hm, _, he, hG⟩⟩
        · have B5 := Lib.hid (B4.out.trans (hb.mono B4.out.size))
          have q8 := neqE n
          clear hb
          go_wp2_with fail
          go_ret
          exact ⟨rfl, B5.out.alloc B5.out.size _⟩
        · obtain ⟨gk, gn, go, gt, g1, g2, hpk⟩ := pk g
          have he' : e = .returned (.tuple #[.agg #[.int .i64 gk, .string gn, .string go, .slice ga g1 gc, .slice gb g2 gd], .nilIface]) := by rw [← hpk.1]; exact he
          subst he'
          obtain ⟨w6, hw⟩ : ∃ v, v = w5.alloc (.cells #[.int .i64 gk, .string gn, .string go, .slice ga g1 gc, .slice gb g2 gd] 25) := ⟨_, rfl⟩
          have HW := Lib.hid hw
          have bb : Below w.heap.size w w5 := B4.out.trans (hb.mono B4.out.size)
          have B6 := Lib.hid (show Below w.heap.size w w6 by rw [hw]; exact bb.alloc bb.size _)
          have X6 := Lib.hid (show Box w6 w5.heap.size (.int .i64 gk) (.string gn) (.string go) (.slice ga g1 gc) (.slice gb g2 gd) by rw [hw]; exact Box.new ..)
          have G6 := Lib.hid (show FltAt w6 (Old w6.heap.size) g ga gb by rw [hw]; exact hG.far fun x h => ⟨by have := h.2; show x < _; simp; omega, Below.heap_alloc _ _ _ h.2⟩)
          have HM := Lib.hid hm
          have HR := Lib.hid (G6.out.rng)
          have HP := Lib.hid hpk
          clear hb hm he hG hpk bb
          clear hw
          obtain ⟨x0, x1, x2, x3, x4⟩ := X6.out
          have xl := X6.out.lt
          rw [HW.out] at x0 x1 x2 x3 x4 xl
          go_wp2_with fail
          rw [← HW.out]
          clear x0 x1 x2 x3 x4 xl
          refine Calls.mono (HP.out.2.2.1 ga gc gb gd _ (HE.out.later B6.out) (HT.out.later B6.out) G6.out) ?_
          rintro e w8 ⟨hb, ⟨hm, _⟩ | ⟨_, rfl⟩⟩
          · rw [HM.out] at hm
            cases hm
          have B8 := Lib.hid (B6.out.trans (hb.mono B6.out.size))
          have X8 := Lib.hid (X6.out.later hb)
          have G8 := Lib.hid ((G6.out.later hb).wide hb.size)
          clear hb
          go_wp2_with fail
          refine Calls.mono (HP.out.2.2.2.2 HM.out HR.out _ (HE.out.later B8.out)) ?_
          rintro e w9 ⟨hb, ⟨h5, va, vc, vb, vd, rfl, hV⟩ | ⟨h5, rfl⟩⟩
          · have B9 := Lib.hid (B8.out.trans (hb.mono B8.out.size))
            have X9 := Lib.hid (X8.out.later hb)
            have G9 := Lib.hid ((G8.out.later hb).wide hb.size)
            obtain ⟨w10, hw⟩ : ∃ v, v = w9.alloc (.cells #[.int .i64 gk, .string gn, .string go, .slice va g1 vc, .slice vb g2 vd] 25) := ⟨_, rfl⟩
            have HW6 := Lib.hid hw
            have ha : Below w9.heap.size w9 w10 := by rw [hw]; exact (Below.refl _ _).alloc (Nat.le_refl _) _
            have B10 := Lib.hid (B9.out.trans (ha.mono B9.out.size))
            have G10 := Lib.hid ((G9.out.later ha).wide ha.size)
            have V10 := Lib.hid (((show FltAt w9 (Old w9.heap.size) g va vb from hV).later ha).wide ha.size)
            have h5i : ¬ (gt.size : Int) > 500 := by omega
            have h5b : decide ((gt.size : Int) > 500) = false := decide_eq_false h5i
            have X10 := Lib.hid (X9.out.later ha)
            have Y10 := Lib.hid (show Box w10 w9.heap.size (.int .i64 gk) (.string gn) (.string go) (.slice va g1 vc) (.slice vb g2 vd) by rw [hw]; exact Box.new ..)
            obtain ⟨x0, x1, x2, x3, x4⟩ := X10.out
            have xl := X10.out.lt
            obtain ⟨y0, y1, y2, y3, y4⟩ := Y10.out
            have yl := Y10.out.lt
            rw [hw] at x0 x1 x2 x3 x4 xl y0 y1 y2 y3 y4 yl
            clear hb hV ha hw
            go_wp2_with fail
            rw [← HW6.out]
            clear x0 x1 x2 x3 x4 xl y0 y1 y2 y3 y4 yl
            refine Calls.mono (HP.out.2.2.2.1 ga gc gb gd va vc vb vd _ G10.out V10.out) ?_
            rintro e w11 ⟨rfl, hb⟩
            have B11 := Lib.hid (B10.out.trans (hb.mono B10.out.size))
            clear hb
            go_wp2_with fail
            go_ret
            exact ⟨rfl, B11.out⟩
          · have B9 := Lib.hid (B8.out.trans (hb.mono B8.out.size))
            have h5i : (gt.size : Int) > 500 := by omega
            have h5b : decide ((gt.size : Int) > 500) = true := decide_eq_true h5i
            clear hb h5
            go_wp2_with fail
            go_ret
            exact ⟨rfl, B9.out.alloc B9.out.size _⟩
      · have B4 := Lib.hid (B3.out.trans (hb.mono B3.out.size))
        have X4 := Lib.hid (X3.out.later hb)
        have HMF := Lib.hid hm
        clear hb hm
        go_wp2_with fail
        refine Calls.mono (HPF.out.2.2.2.2 HMF.out HRF.out _ (HE.out.later B4.out)) ?_
        rintro e w5 ⟨hb, ⟨h5, va, vc, vb, vd, rfl, hV⟩ | ⟨h5, rfl⟩⟩
        · have B5 := Lib.hid (B4.out.trans (hb.mono B4.out.size))
          have X5 := Lib.hid (X4.out.later hb)
          obtain ⟨w6, hw⟩ : ∃ v, v = w5.alloc (.cells #[.int .i64 k, .string sn, .string so, .slice va n1 vc, .slice vb n2 vd] 25) := ⟨_, rfl⟩
          have HW6 := Lib.hid hw
          have ha : Below w5.heap.size w5 w6 := by rw [hw]; exact (Below.refl _ _).alloc (Nat.le_refl _) _
          have B6 := Lib.hid (B5.out.trans (ha.mono B5.out.size))
          have V6 := Lib.hid (((show FltAt w5 (Old w5.heap.size) f va vb from hV).later ha).wide ha.size)
          have h5i : (st.size : Int) ≤ 500 := by omega
          have h5b : decide ((st.size : Int) ≤ 500) = true := decide_eq_true h5i
          have h5n : ¬ (st.size : Int) > 500 := by omega
          have h5c : decide ((st.size : Int) > 500) = false := decide_eq_false h5n
          have X6 := Lib.hid (X5.out.later ha)
          have Y6 := Lib.hid (show Box w6 w5.heap.size (.int .i64 k) (.string sn) (.string so) (.slice va n1 vc) (.slice vb n2 vd) by rw [hw]; exact Box.new ..)
          obtain ⟨x0, x1, x2, x3, x4⟩ := X6.out
          have xl := X6.out.lt
          obtain ⟨y0, y1, y2, y3, y4⟩ := Y6.out
          have yl := Y6.out.lt
          rw [hw] at x0 x1 x2 x3 x4 xl y0 y1 y2 y3 y4 yl
          clear hb hV ha hw
          go_wp2_with fail
          rw [← HW6.out]
          clear x0 x1 x2 x3 x4 xl y0 y1 y2 y3 y4 yl
          refine Calls.mono (HPF.out.2.2.2.1 a c b d va vc vb vd _ ((HF.out.later B6.out).wide B6.out.size) V6.out) ?_
          rintro e w7 ⟨rfl, hb⟩
          have B7 := Lib.hid (B6.out.trans (hb.mono B6.out.size))
          clear hb
          go_wp2_with fail
          refine Calls.mono (read_any s w7 (HE.out.later B7.out)) ?_
          rintro e w8 ⟨hb, ⟨n, rfl, _⟩ | ⟨g, ga, gc, gb, gd, _, hm, _, he, hG⟩⟩
          · have B8 := Lib.hid (B7.out.trans (hb.mono B7.out.size))
            have q8 := neqE n
            clear hb
            go_wp2_with fail
            go_ret
            exact ⟨rfl, B8.out.alloc B8.out.size _⟩
          · obtain ⟨gk, gn, go, gt, g1, g2, hpk⟩ := pk g
            have he' : e = .returned (.tuple #[.agg #[.int .i64 gk, .string gn, .string go, .slice ga g1 gc, .slice gb g2 gd], .nilIface]) := by rw [← hpk.1]; exact he
            subst he'
            obtain ⟨w9, hw⟩ : ∃ v, v = w8.alloc (.cells #[.int .i64 gk, .string gn, .string go, .slice ga g1 gc, .slice gb g2 gd] 25) := ⟨_, rfl⟩
            have HW := Lib.hid hw
            have bb : Below w.heap.size w w8 := B7.out.trans (hb.mono B7.out.size)
            have B9 := Lib.hid (show Below w.heap.size w w9 by rw [hw]; exact bb.alloc bb.size _)
            have X9 := Lib.hid (show Box w9 w8.heap.size (.int .i64 gk) (.string gn) (.string go) (.slice ga g1 gc) (.slice gb g2 gd) by rw [hw]; exact Box.new ..)
            have G9 := Lib.hid (show FltAt w9 (Old w9.heap.size) g ga gb by rw [hw]; exact hG.far fun x h => ⟨by have := h.2; show x < _; simp; omega, Below.heap_alloc _ _ _ h.2⟩)
            have HM := Lib.hid hm
            have HR := Lib.hid (G9.out.rng)
            have HP := Lib.hid hpk
            clear hb hm he hG hpk bb
            clear hw
            obtain ⟨x0, x1, x2, x3, x4⟩ := X9.out
            have xl := X9.out.lt
            rw [HW.out] at x0 x1 x2 x3 x4 xl
            go_wp2_with fail
            rw [← HW.out]
            clear x0 x1 x2 x3 x4 xl
            refine Calls.mono (HP.out.2.2.1 ga gc gb gd _ (HE.out.later B9.out) (HT.out.later B9.out) G9.out) ?_
            rintro e w11 ⟨hb, ⟨hm, _⟩ | ⟨_, rfl⟩⟩
            · rw [HM.out] at hm
              cases hm
            have B11 := Lib.hid (B9.out.trans (hb.mono B9.out.size))
            have X11 := Lib.hid (X9.out.later hb)
            have G11 := Lib.hid ((G9.out.later hb).wide hb.size)
            clear hb
            go_wp2_with fail
            refine Calls.mono (HP.out.2.2.2.2 HM.out HR.out _ (HE.out.later B11.out)) ?_
            rintro e w12 ⟨hb, ⟨h5, va, vc, vb, vd, rfl, hV⟩ | ⟨h5, rfl⟩⟩
            · have B12 := Lib.hid (B11.out.trans (hb.mono B11.out.size))
              have X12 := Lib.hid (X11.out.later hb)
              have G12 := Lib.hid ((G11.out.later hb).wide hb.size)
              obtain ⟨w13, hw⟩ : ∃ v, v = w12.alloc (.cells #[.int .i64 gk, .string gn, .string go, .slice va g1 vc, .slice vb g2 vd] 25) := ⟨_, rfl⟩
              have HW6 := Lib.hid hw
              have ha : Below w12.heap.size w12 w13 := by rw [hw]; exact (Below.refl _ _).alloc (Nat.le_refl _) _
              have B13 := Lib.hid (B12.out.trans (ha.mono B12.out.size))
              have G13 := Lib.hid ((G12.out.later ha).wide ha.size)
              have V13 := Lib.hid (((show FltAt w12 (Old w12.heap.size) g va vb from hV).later ha).wide ha.size)
              have h5i : ¬ (gt.size : Int) > 500 := by omega
              have h5b : decide ((gt.size : Int) > 500) = false := decide_eq_false h5i
              have X13 := Lib.hid (X12.out.later ha)
              have Y13 := Lib.hid (show Box w13 w12.heap.size (.int .i64 gk) (.string gn) (.string go) (.slice va g1 vc) (.slice vb g2 vd) by rw [hw]; exact Box.new ..)
              obtain ⟨x0, x1, x2, x3, x4⟩ := X13.out
              have xl := X13.out.lt
              obtain ⟨y0, y1, y2, y3, y4⟩ := Y13.out
              have yl := Y13.out.lt
              rw [hw] at x0 x1 x2 x3 x4 xl y0 y1 y2 y3 y4 yl
              clear hb hV ha hw
              go_wp2_with fail
              rw [← HW6.out]
              clear x0 x1 x2 x3 x4 xl y0 y1 y2 y3 y4 yl
              refine Calls.mono (HP.out.2.2.2.1 ga gc gb gd va vc vb vd _ G13.out V13.out) ?_
              rintro e w14 ⟨rfl, hb⟩
              have B14 := Lib.hid (B13.out.trans (hb.mono B13.out.size))
              clear hb
              go_wp2_with fail
              go_ret
              exact ⟨rfl, B14.out⟩
            · have B12 := Lib.hid (B11.out.trans (hb.mono B11.out.size))
              have h5i : (gt.size : Int) > 500 := by omega
              have h5b : decide ((gt.size : Int) > 500) = true := decide_eq_true h5i
              clear hb h5
              go_wp2_with fail
              go_ret
              exact ⟨rfl, B12.out.alloc B12.out.size _⟩
        · have B5 := Lib.hid (B4.out.trans (hb.mono B4.out.size))
          obtain ⟨w6, hw⟩ : ∃ v, v = w5.alloc (.cells #[.int .i64 0, .string ⟨#[]⟩, .string ⟨#[]⟩, .slice none 0 0, .slice none 0 0] 25) := ⟨_, rfl⟩
          have HW6 := Lib.hid hw
          have B6 := Lib.hid (show Below w.heap.size w w6 by rw [hw]; exact B5.out.alloc B5.out.size _)
          have h5i : (st.size : Int) > 500 := by omega
          have h5b : decide ((st.size : Int) > 500) = true := decide_eq_true h5i
          have h5n : ¬ (st.size : Int) ≤ 500 := by omega
          have h5c : decide ((st.size : Int) ≤ 500) = false := decide_eq_false h5n
          clear hb h5 hw
          go_wp2_with fail
          rw [← HW6.out]
          refine Calls.mono (read_any s w6 (HE.out.later B6.out)) ?_
          rintro e w7 ⟨hb, ⟨n, rfl, _⟩ | ⟨g, ga, gc, gb, gd, _, hm, _, he, hG⟩⟩
          · have B7 := Lib.hid (B6.out.trans (hb.mono B6.out.size))
            have q8 := neqE n
            clear hb
            go_wp2_with fail
            go_ret
            exact ⟨rfl, B7.out.alloc B7.out.size _⟩
          · obtain ⟨gk, gn, go, gt, g1, g2, hpk⟩ := pk g
            have he' : e = .returned (.tuple #[.agg #[.int .i64 gk, .string gn, .string go, .slice ga g1 gc, .slice gb g2 gd], .nilIface]) := by rw [← hpk.1]; exact he
            subst he'
            obtain ⟨w8, hw⟩ : ∃ v, v = w7.alloc (.cells #[.int .i64 gk, .string gn, .string go, .slice ga g1 gc, .slice gb g2 gd] 25) := ⟨_, rfl⟩
            have HW := Lib.hid hw
            have bb : Below w.heap.size w w7 := B6.out.trans (hb.mono B6.out.size)
            have B8 := Lib.hid (show Below w.heap.size w w8 by rw [hw]; exact bb.alloc bb.size _)
            have X8 := Lib.hid (show Box w8 w7.heap.size (.int .i64 gk) (.string gn) (.string go) (.slice ga g1 gc) (.slice gb g2 gd) by rw [hw]; exact Box.new ..)
            have G8 := Lib.hid (show FltAt w8 (Old w8.heap.size) g ga gb by rw [hw]; exact hG.far fun x h => ⟨by have := h.2; show x < _; simp; omega, Below.heap_alloc _ _ _ h.2⟩)
            have HM := Lib.hid hm
            have HR := Lib.hid (G8.out.rng)
            have HP := Lib.hid hpk
            clear hb hm he hG hpk bb
            clear hw
            obtain ⟨x0, x1, x2, x3, x4⟩ := X8.out
            have xl := X8.out.lt
            rw [HW.out] at x0 x1 x2 x3 x4 xl
            go_wp2_with fail
            rw [← HW.out]
            clear x0 x1 x2 x3 x4 xl
            refine Calls.mono (HP.out.2.2.1 ga gc gb gd _ (HE.out.later B8.out) (HT.out.later B8.out) G8.out) ?_
            rintro e w10 ⟨hb, ⟨hm, _⟩ | ⟨_, rfl⟩⟩
            · rw [HM.out] at hm
              cases hm
            have B10 := Lib.hid (B8.out.trans (hb.mono B8.out.size))
            have X10 := Lib.hid (X8.out.later hb)
            have G10 := Lib.hid ((G8.out.later hb).wide hb.size)
            clear hb
            go_wp2_with fail
            refine Calls.mono (HP.out.2.2.2.2 HM.out HR.out _ (HE.out.later B10.out)) ?_
            rintro e w11 ⟨hb, ⟨h5, va, vc, vb, vd, rfl, hV⟩ | ⟨h5, rfl⟩⟩
            · have B11 := Lib.hid (B10.out.trans (hb.mono B10.out.size))
              have X11 := Lib.hid (X10.out.later hb)
              have G11 := Lib.hid ((G10.out.later hb).wide hb.size)
              obtain ⟨w12, hw⟩ : ∃ v, v = w11.alloc (.cells #[.int .i64 gk, .string gn, .string go, .slice va g1 vc, .slice vb g2 vd] 25) := ⟨_, rfl⟩
              have HW6 := Lib.hid hw
              have ha : Below w11.heap.size w11 w12 := by rw [hw]; exact (Below.refl _ _).alloc (Nat.le_refl _) _
              have B12 := Lib.hid (B11.out.trans (ha.mono B11.out.size))
              have G12 := Lib.hid ((G11.out.later ha).wide ha.size)
              have V12 := Lib.hid (((show FltAt w11 (Old w11.heap.size) g va vb from hV).later ha).wide ha.size)
              have h5i : ¬ (gt.size : Int) > 500 := by omega
              have h5b : decide ((gt.size : Int) > 500) = false := decide_eq_false h5i
              have X12 := Lib.hid (X11.out.later ha)
              have Y12 := Lib.hid (show Box w12 w11.heap.size (.int .i64 gk) (.string gn) (.string go) (.slice va g1 vc) (.slice vb g2 vd) by rw [hw]; exact Box.new ..)
              obtain ⟨x0, x1, x2, x3, x4⟩ := X12.out
              have xl := X12.out.lt
              obtain ⟨y0, y1, y2, y3, y4⟩ := Y12.out
              have yl := Y12.out.lt
              rw [hw] at x0 x1 x2 x3 x4 xl y0 y1 y2 y3 y4 yl
              clear hb hV ha hw
              go_wp2_with fail
              rw [← HW6.out]
              clear x0 x1 x2 x3 x4 xl y0 y1 y2 y3 y4 yl
              refine Calls.mono (HP.out.2.2.2.1 ga gc gb gd va vc vb vd _ G12.out V12.out) ?_
              rintro e w13 ⟨rfl, hb⟩
              have B13 := Lib.hid (B12.out.trans (hb.mono B12.out.size))
              clear hb
              go_wp2_with fail
              go_ret
              exact ⟨rfl, B13.out⟩
            · have B11 := Lib.hid (B10.out.trans (hb.mono B10.out.size))
              have h5i : (gt.size : Int) > 500 := by omega
              have h5b : decide ((gt.size : Int) > 500) = true := decide_eq_true h5i
              clear hb h5
              go_wp2_with fail
              go_ret
              exact ⟨rfl, B11.out.alloc B11.out.size _⟩
end Go.Proofs.YtjffnjiggcfhcaaDoor.Fl
namespace Go.Proofs.YtjffnjiggcfhcaaDoor.filterBack
open Go.ChangeShapes Go.WideShapes Go.ChangeAt Go.RowKit Go.Joins
open Go.ChangeMaps (open_string shut_string)
set_option linter.unusedVariables false

theorem own : ownKnob Tryd.prog.godebug = none := by kernel_rfl
theorem laidOut : laidOutB Tryd.prog = true := by kernel_rfl
theorem gSynType : (Tryd.prog.globals[2]?).map (·.type) = some 29 := by kernel_rfl
theorem gRngType : (Tryd.prog.globals[3]?).map (·.type) = some 29 := by kernel_rfl
theorem gTabType : (Tryd.prog.globals[0]?).map (·.type) = some 108 := by kernel_rfl
theorem cellsE : Tryd.prog.cellsOf 128 = 1 := by kernel_rfl
theorem cellsS : Tryd.prog.cellsOf 9 = 1 := by kernel_rfl
theorem star : "*" ++ "errors.errorString" = "*errors.errorString" := by decide
theorem rowE (u : TypeId) (h : Tryd.prog.typeName? 3 u = some "*errors.errorString") : u = 126 :=
  typeName_ptr_named (nm := "errors.errorString") (by rw [star]; kernel_rfl) (by kernel_rfl) (by decide) u (by rw [star]; exact h)
/-- What the row's list gives the walk: strconv's two errors. -/
theorem laidE_of {W : World} (h : laidMetH Tryd.prog Rows.filterBackRow.laid W) : Tk.LaidE W := by
  rw [MakeChecks.laidMetH_plain _ _ _ (by kernel_rfl)] at h
  have h3 := h.tail.tail.tail
  obtain ⟨a1, s1, hv1, -, -, -⟩ := laid_sentinel h3 Tk.gRng gRngType Tryd.underlying29 rowE Tryd.underlying126 Tryd.underlying128 rfl rfl Tryd.underlying9 cellsE cellsS
  obtain ⟨a0, s0, hv0, -, -, -⟩ := laid_sentinel h3.tail Tk.gSyn gSynType Tryd.underlying29 rowE Tryd.underlying126 Tryd.underlying128 rfl rfl Tryd.underlying9 cellsE cellsS
  exact ⟨_, _, _, _, hv0, hv1⟩
/-- And strconv's table of the powers of ten. -/
theorem laidT_of {W : World} (h : laidMetH Tryd.prog Rows.filterBackRow.laid W) : Fl.LaidT W := by
  rw [MakeChecks.laidMetH_plain _ _ _ (by kernel_rfl)] at h
  exact Lib.tabIs_of_head (k := .u64) (zs := Lib.pow10Tab) Fl.gTab gTabType Tryd.underlying108 Tryd.underlying91 (by kernel_rfl) (by kernel_rfl) h.tail.tail
/-- The heap that the program's own start-up leaves meets the condition. -/
theorem door_met (os : Os) (args : Array Value) : laidMetH Tryd.prog Rows.filterBackRow.laid ((World.doorLaid Tryd.prog 62 os).forCall (fun _ _ => 0) ⟨#[], args, []⟩).memory :=
  laidMetH_of_parts3 (fuel := 8) (laidMet_of_run' 8 (by kernel_rfl) (by kernel_rfl)) (by kernel_rfl) (by kernel_rfl)

set_option maxRecDepth 100000 in
theorem lifted (os : Os) (started : os.Started) (H : Type) (enc : TypeId × Value → H) :
    ReturnsInHanded {} Tryd.checked os 3 .any (fun w args => (Rows.filterBackSpec.pre enc Tryd.prog Tryd.f3 [] false w args ∧ laidMetH Tryd.prog Rows.filterBackRow.laid w) ∧ sizedMet enc Tryd.prog Tryd.f3 (OpenSpec.ofChange Rows.filterBackSpec) false w args)
      (Rows.filterBackSpec.post enc Tryd.prog Tryd.f3 false true false false) := by
  refine returnsInHanded_of_change_and (C := Tryd.checked) (X := fun w _ => laidMetH Tryd.prog Rows.filterBackRow.laid w) (fun _ _ _ hh h => h.of_heap hh) own started (by kernel_rfl) Tryd.func3
    (ChangeSpec.witness_shaped (enc := enc) (C := Tryd.checked) (os := os) (X := fun w _ => laidMetH Tryd.prog Rows.filterBackRow.laid w) false (World.doorLaid Tryd.prog 62 os) #[.agg #[.int .i64 0, .string ⟨#[]⟩, .string ⟨#[]⟩, .slice none 0 0, .slice none 0 0], .string ⟨#[]⟩] 8 rfl (World.shaped_of_RefB (by kernel_rfl) (by kernel_rfl)) (by kernel_rfl) (by kernel_rfl) (by kernel_rfl) (door_met os _)) ?_
  intro W base args ds gs before hval0 hW _ _ hL _
  have hval : ∀ (j : Nat) t v, Tryd.f3.params[j]? = some t → args[j]? = some v → Value.okWide Tryd.prog W .any base t v := hval0
  have hW' := hW
  obtain ⟨p, q, hA0, hV, rfl, hfz, hnd⟩ := hW
  have hA : DataW.TrodAll enc Tryd.prog W 0 (fun _ => true) true Tryd.f3.params.toList args.toList ds p := hA0
  rw [Tryd.params3] at hA hval
  obtain ⟨v0, vs0, d0, ds0, p0, q0, hargs, rfl, rfl, h0, r0⟩ := trodAll_cons hA
  obtain ⟨v1, vs1, d1, ds1, p1, q1, rfl, rfl, rfl, h1, r1⟩ := trodAll_cons r0
  obtain ⟨rfl, rfl, rfl⟩ := trodAll_nil r1
  obtain rfl : args = #[v0, v1] := by cases args; simp_all
  obtain ⟨rfl, rfl⟩ := trodVars_none hV
  have k0 := h0
  have lt0 : ∀ x ∈ p0, x.block < W.heap.size := by obtain ⟨m, hm⟩ := k0; exact DataW.trod_lt m _ _ _ hm
  obtain ⟨f0, a0, c0, b0, e0, rfl, hf0⟩ := Fl.open_flt (tF := 25) (tA := 49) (tL := 23) (tVs := 22) ⟨Tryd.underlying25, by kernel_rfl, by kernel_rfl, Tryd.underlying3, Tryd.underlying9, Tryd.underlying9, rfl, rfl, Tryd.underlying22, Tryd.underlying23, Tryd.underlying49, by kernel_rfl, by kernel_rfl, Tryd.underlying9, Tryd.underlying4, Tryd.underlying2, Tryd.underlying9⟩ (hval 0 25 v0 rfl rfl) h0
  have k1 := h1
  have lt1 : ∀ x ∈ p1, x.block < W.heap.size := by obtain ⟨m, hm⟩ := k1; exact DataW.trod_lt m _ _ _ hm
  obtain ⟨s1, rfl, _, _, hs1⟩ := open_string Tryd.underlying9 (hval 1 9 v1 rfl rfl) h1
  clear hA0 hval0
  refine (Fl.back_walk f0 a0 c0 b0 e0 s1 W (laidE_of hL) (laidT_of hL) hf0).mono fun e W' ⟨he, bel⟩ => ?_
  subst he
  exact ⟨_, rfl, _, _, _, [], _, [], hW', trodAll_mk1 (shut_bool Tryd.underlying4 _), (trodAll_cons_mk (Below.trod laidOut (by kernel_rfl) (of_decide_eq_true (by kernel_rfl)) k0 bel lt0) (trodAll_cons_mk (Below.trod laidOut (by kernel_rfl) (of_decide_eq_true (by kernel_rfl)) k1 bel lt1) trodAll_mk0)), rfl, bel.frame _, fun h => by cases h⟩

theorem said : Rows.FilterBackSaid :=
  OpenClaim.holds_of_wide 3 Tryd.f3 rfl rfl rfl rfl rfl rfl rfl ⟨rfl, rfl, rfl, rfl, rfl⟩ rfl rfl rfl rfl rfl (by kernel_rfl) Tryd.func3 (by kernel_rfl)
    (of_decide_eq_true (by kernel_rfl)) (by unfold Func.isWrapper; first | (rw [if_pos (by decide +kernel)]; kernel_rfl) | (rw [if_neg (by decide +kernel)]; exact ⟨rfl, rfl⟩))
    (fun os started H enc _ => lifted os started H enc)

/-- No parameter wants a stand-in: what the card asks. -/
theorem plain (f : FuncId) (fn : Func) (hf : Tryd.pinned.checked.prog.funcNamed "plover/ploverlaw07.FilterBack" = some f) (hfn : Tryd.pinned.checked.prog.funcs[f]? = some fn) :
    true = Tryd.pinned.checked.prog.looks [] ∧ ∀ (j : Nat) t, fn.params[j]? = some t → Tryd.pinned.checked.prog.wantsStandIn t = false := by
  obtain rfl : f = 3 := Option.some.inj ((show Tryd.prog.funcNamed "plover/ploverlaw07.FilterBack" = some 3 by kernel_rfl).symm.trans hf) |>.symm
  obtain rfl : fn = Tryd.f3 := (Option.some.inj (Tryd.func3.symm.trans hfn)).symm
  refine ⟨by kernel_rfl, fun j t ht => ?_⟩
  rw [Tryd.params3] at ht
  have hm := Array.mem_of_getElem? ht
  simp at hm
  rcases hm with rfl | rfl
  · exact (show Tryd.prog.wantsStandIn 25 = false by kernel_rfl)
  · exact (show Tryd.prog.wantsStandIn 9 = false by kernel_rfl)
theorem proved : Rows.FilterBackCardSaid :=
  Claim7.holds_tied_plain_at .later [] _ _ _ _ said (fun _ h => by cases h) (by kernel_rfl) (fun _ h => by cases h) filterBack_row_tie rfl ⟨rfl, rfl⟩ (by kernel_rfl) rfl plain (by kernel_rfl)
#print axioms proved
end Go.Proofs.YtjffnjiggcfhcaaDoor.filterBack
