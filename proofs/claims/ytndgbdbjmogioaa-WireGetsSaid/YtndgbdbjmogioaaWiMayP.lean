/-
  Which messages may be, as package wire asks it: plain facts. No function of the program here.
-/
import Derived.Test.YtndgbdbjmogioaaWiSame
import Derived.Test.YtndgbdbjmogioaaRcPlain
namespace Go.Proofs.Ytndgbdbjmogioaa.Wi
open Go.RowKit Go.Proofs.Ytndgbdbjmogioaa.Fl
set_option linter.unusedVariables false
set_option linter.unusedSimpArgs false

def z_ (k : Int) : Msg := ⟨k, 0, 0, 0, 0, 0, 0, 0, [], ⟨0, 0, 0, 0, []⟩⟩
def own1 (m : Msg) : Msg := ⟨m.kind, 0, 0, 0, 0, 0, 0, 0, [], m.ev⟩
def own2 (m : Msg) : Msg := ⟨m.kind, 0, 0, m.home, m.x1, m.y1, m.x2, m.y2, m.flt, m.ev⟩
def own3 (m : Msg) : Msg := ⟨m.kind, m.sub, m.ver, m.home, m.x1, m.y1, m.x2, m.y2, m.flt, ⟨0, 0, 0, 0, []⟩⟩
def own4 (m : Msg) : Msg := ⟨m.kind, 0, m.ver, m.home, m.x1, m.y1, m.x2, m.y2, m.flt, ⟨0, 0, 0, 0, []⟩⟩
def justB (m : Msg) : Bool := if m.kind = 1 then msgS (own1 m) (z_ m.kind) else if m.kind = 2 then msgS (own2 m) (z_ m.kind) else if m.kind = 3 then msgS (own3 m) (z_ m.kind) else if m.kind = 4 then msgS (own4 m) (z_ m.kind) else false
theorem atts_nil (l : List Att) : attsEq l [] = (l.length == 0) := by cases l <;> rfl
theorem evS_zero (e : Ev) : evS e ⟨0, 0, 0, 0, []⟩ = noEv e := by
  unfold evS noEv
  rw [atts_nil]
  have h : (((e.seq : Nat) : Int) == ((0 : Nat) : Int)) = (e.seq == 0) := by
    rw [Bool.eq_iff_iff]; simp
  simp only [h, Bool.and_assoc]
theorem noEv_zero : noEv ⟨0, 0, 0, 0, []⟩ = true := rfl
theorem noEv_may {e : Ev} (h : noEv e = true) : evB e = true := by rw [no_ev h]; rfl
theorem rmay_coord (m : Msg) : Rc.rmayB m.x1 m.y1 m.x2 m.y2 = coordR m := by
  unfold Rc.rmayB Rc.ordB Pt.mayB Pt.inR coordR coordB
  simp only [Bool.and_assoc]
def recZ (m : Msg) : Bool := m.x1 == 0 && m.y1 == 0 && m.x2 == 0 && m.y2 == 0
theorem recS_zero (m : Msg) (k : Int) : recS m (z_ k) = recZ m := rfl
theorem bare_may {m : Msg} (h : recZ m = true) : coordR m = true := by
  simp only [recZ, Bool.and_eq_true, beq_iff_eq] at h
  obtain ⟨⟨⟨h1, h2⟩, h3⟩, h4⟩ := h
  unfold coordR
  rw [h1, h2, h3, h4]
  rfl
theorem may_eq (m : Msg) : (justB m && num31 m.sub && num31 m.ver && num31 m.home && Rc.rmayB m.x1 m.y1 m.x2 m.y2 && decide (m.flt.length ≤ 500) && evB m.ev) = msgB m := by
  rw [rmay_coord]
  unfold justB msgB bareB
  rw [show (m.x1 == 0 && m.y1 == 0 && m.x2 == 0 && m.y2 == 0) = recZ m from rfl]
  have hb := @bare_may m
  have hn := @noEv_may m.ev
  by_cases h1 : m.kind = 1
  · simp only [if_pos h1]
    rw [show msgS (own1 m) (z_ m.kind) = noEv m.ev by unfold msgS; simp only [own1, z_, recS, evS_zero]; simp]
    cases h : noEv m.ev
    · simp
    · rw [hn h]
      simp only [Bool.and_true, Bool.true_and, Bool.and_comm, Bool.and_left_comm, Bool.and_assoc]
  · simp only [if_neg h1]
    by_cases h2 : m.kind = 2
    · simp only [if_pos h2]
      rw [show msgS (own2 m) (z_ m.kind) = (m.home == 0 && recZ m && m.flt == [] && noEv m.ev) by unfold msgS; simp only [own2, z_, recS, recZ, evS_zero]; simp]
      cases h : noEv m.ev
      · simp
      · rw [hn h]
        cases h3 : recZ m
        · simp
        · rw [hb h3]
          simp only [Bool.and_true, Bool.true_and, Bool.and_comm, Bool.and_left_comm, Bool.and_assoc]
    · simp only [if_neg h2]
      by_cases h3 : m.kind = 3
      · simp only [if_pos h3]
        rw [show msgS (own3 m) (z_ m.kind) = (m.sub == 0 && m.ver == 0 && m.home == 0 && recZ m && m.flt == []) by unfold msgS; simp only [own3, z_, recS, recZ, evS_zero, noEv_zero]; simp]
        cases h3 : recZ m
        · simp
        · rw [hb h3]
          simp only [Bool.and_true, Bool.true_and, Bool.and_comm, Bool.and_left_comm, Bool.and_assoc]
      · simp only [if_neg h3]
        by_cases h4 : m.kind = 4
        · simp only [if_pos h4]
          rw [show msgS (own4 m) (z_ m.kind) = (m.ver == 0 && m.home == 0 && recZ m && m.flt == []) by unfold msgS; simp only [own4, z_, recS, recZ, evS_zero, noEv_zero]; simp]
          cases h3 : recZ m
          · simp
          · rw [hb h3]
            simp only [Bool.and_true, Bool.true_and, Bool.and_comm, Bool.and_left_comm, Bool.and_assoc]
        · simp only [if_neg h4]
          simp
end Go.Proofs.Ytndgbdbjmogioaa.Wi
