/-
  Regions, plainly: four numbers and a list of points; which may be, their boxes, what is in them, moved. No program here.
-/
import Derived.Test.YtiggjaodfmelpaaPlBool
namespace Go.Proofs.Ytiggjaodfmelpaa.Rg
open Go.Proofs.Ytiggjaodfmelpaa.Pt Go.Proofs.Ytiggjaodfmelpaa.Rc Go.Proofs.Ytiggjaodfmelpaa.Pl
set_option linter.unusedVariables false

def rz (a b c d : Int) : Bool := a == 0 && b == 0 && c == 0 && d == 0
def eq4 (a b c d a2 b2 c2 d2 : Int) : Bool := a == a2 && b == b2 && c == c2 && d == d2
def rgB (a b c d : Int) (l : List Pnt) : Bool := if l.length = 0 then rmayB a b c d else rz a b c d && simpleB l
def rgX (a b c d : Int) (l : List Pnt) : R4 := if l.length = 0 then ⟨a, b, c, d⟩ else ofR l
def rgI (a b c d : Int) (l : List Pnt) (p : Pnt) : Bool := rgB a b c d l && (pmay p && (if l.length = 0 then inB a b c d p.1 p.2 else insB l p))
/-- May a region that may be be moved so? -/
def mvB (a b c d : Int) (l : List Pnt) (v : Pnt) : Bool := if l.length = 0 then mayB v.1 v.2 && (mayB (a + v.1) (b + v.2) && mayB (c + v.1) (d + v.2)) else fineB l v
/-- Its rectangle's numbers behind the move. -/
def mvN (l : List Pnt) (a x : Int) : Int := if l.length = 0 then a + x else 0
theorem rgB_no {a b c d : Int} {l : List Pnt} (h : l.length = 0) : rgB a b c d l = rmayB a b c d := by unfold rgB; rw [if_pos h]
theorem rgB_yes {a b c d : Int} {l : List Pnt} (h : 0 < l.length) : rgB a b c d l = (rz a b c d && simpleB l) := by unfold rgB; rw [if_neg (by omega)]
theorem rgB_simple {a b c d : Int} {l : List Pnt} (h : 0 < l.length) (hb : rgB a b c d l = true) : rz a b c d = true ∧ simpleB l = true := by
  rw [rgB_yes h, Bool.and_eq_true] at hb
  exact hb
theorem rz_all {a b c d : Int} (h : rz a b c d = true) : a = 0 ∧ b = 0 ∧ c = 0 ∧ d = 0 := by
  simp only [rz, Bool.and_eq_true, beq_iff_eq] at h
  exact ⟨h.1.1.1, h.1.1.2, h.1.2, h.2⟩
theorem eq4_self (a b c d : Int) : eq4 a b c d a b c d = true := by simp [eq4]
theorem eq4_zero (a b c d : Int) : eq4 a b c d 0 0 0 0 = rz a b c d := rfl
theorem moveL_len (l : List Pnt) (v : Pnt) : (moveL l v).length = l.length := by simp [moveL]
end Go.Proofs.Ytiggjaodfmelpaa.Rg
