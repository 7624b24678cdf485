/-
  The least rectangle of a list of points: plain arithmetic, no program here.
-/
import Derived.Test.YtiggjaodfmelpaaRcPlain
namespace Go.Proofs.Ytiggjaodfmelpaa.Rc
open Go.Proofs.Ytiggjaodfmelpaa.Pt

/-- Four coordinates. -/
structure R4 where
  x1 : Int
  y1 : Int
  x2 : Int
  y2 : Int
/-- Joined with a point. -/
def stepR (r : R4) (p : Int × Int) : R4 := ⟨mn r.x1 p.1, mn r.y1 p.2, mx r.x2 p.1, mx r.y2 p.2⟩
def singR (p : Int × Int) : R4 := ⟨p.1, p.2, p.1, p.2⟩
/-- The first k points of a list, joined; it starts from the first one. -/
def accR (p : Int × Int) (l : List (Int × Int)) (k : Nat) : R4 := (l.take k).foldl stepR (singR p)
theorem accR_zero (p : Int × Int) (l : List (Int × Int)) : accR p l 0 = singR p := by simp [accR]
theorem accR_succ (p : Int × Int) (l : List (Int × Int)) (k : Nat) (h : k < l.length) : accR p l (k + 1) = stepR (accR p l k) l[k] := by
  unfold accR
  rw [List.take_succ_eq_append_getElem h, List.foldl_append]; rfl
def pmay (p : Int × Int) : Bool := mayB p.1 p.2
def okR (r : R4) : Prop := inR r.x1 = true ∧ inR r.y1 = true ∧ inR r.x2 = true ∧ inR r.y2 = true
theorem okR_sing {p : Int × Int} (h : pmay p = true) : okR (singR p) := by
  obtain ⟨h1, h2⟩ := mayB_iff.1 h
  exact ⟨h1, h2, h1, h2⟩
theorem okR_step {r : R4} {p : Int × Int} (h : okR r) (hp : pmay p = true) : okR (stepR r p) := by
  obtain ⟨h1, h2⟩ := mayB_iff.1 hp
  exact ⟨mn_inR h.1 h1, mn_inR h.2.1 h2, mx_inR h.2.2.1 h1, mx_inR h.2.2.2 h2⟩
theorem okR_fold : ∀ (l : List (Int × Int)) (r : R4), okR r → l.all pmay = true → okR (l.foldl stepR r)
  | [], _, h, _ => h
  | p :: l, r, h, ha => by
    simp only [List.all_cons, Bool.and_eq_true] at ha
    exact okR_fold l _ (okR_step h ha.1) ha.2
theorem okR_acc {p : Int × Int} {l : List (Int × Int)} {k : Nat} (hp : pmay p = true) (h : (l.take k).all pmay = true) : okR (accR p l k) := okR_fold _ _ (okR_sing hp) h
theorem all_succ {l : List (Int × Int)} {k : Nat} (hk : k < l.length) (h : (l.take k).all pmay = true) (h1 : pmay l[k] = true) : (l.take (k + 1)).all pmay = true := by
  rw [List.take_succ_eq_append_getElem hk, List.all_append, h]; simp [h1]
theorem all_no {l : List (Int × Int)} {k : Nat} (hk : k < l.length) (h1 : pmay l[k] = false) : l.all pmay = false := by
  rw [← Bool.not_eq_true, List.all_eq_true]
  intro h
  have := h _ (List.getElem_mem hk)
  rw [h1] at this; cases this
/-- The least rectangle, or a zero one. -/
def ofR (l : List (Int × Int)) : R4 := match l with
  | [] => ⟨0, 0, 0, 0⟩
  | p :: t => if (p :: t).all pmay then accR p (p :: t) (p :: t).length else ⟨0, 0, 0, 0⟩
def ofB (l : List (Int × Int)) : Bool := !l.isEmpty && l.all pmay
theorem ofR_no {l : List (Int × Int)} (h : l.all pmay = false) : ofR l = ⟨0, 0, 0, 0⟩ := by
  cases l with
  | nil => rfl
  | cons p t => simp only [ofR, h]; rfl
theorem ofB_no {l : List (Int × Int)} (h : l.all pmay = false) : ofB l = false := by unfold ofB; rw [h]; simp
theorem ofR_yes {p : Int × Int} {t : List (Int × Int)} (h : (p :: t).all pmay = true) : ofR (p :: t) = accR p (p :: t) (p :: t).length := by simp only [ofR, h]; rfl
theorem ofB_yes {p : Int × Int} {t : List (Int × Int)} (h : (p :: t).all pmay = true) : ofB (p :: t) = true := by unfold ofB; rw [h]; rfl
end Go.Proofs.Ytiggjaodfmelpaa.Rc
