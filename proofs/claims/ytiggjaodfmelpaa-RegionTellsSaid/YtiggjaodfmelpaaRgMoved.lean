/-
  A region, moved: what is in it, its box; plain facts. No program here.
-/
import Derived.Test.YtiggjaodfmelpaaRgPlain
import Derived.Test.YtiggjaodfmelpaaPlOwn
import Derived.Test.YtiggjaodfmelpaaPlSimple
namespace Go.Proofs.Ytiggjaodfmelpaa.Rg
open Go.Proofs.Ytiggjaodfmelpaa.Pt Go.Proofs.Ytiggjaodfmelpaa.Rc Go.Proofs.Ytiggjaodfmelpaa.Pl
set_option linter.unusedVariables false

def shR (r : R4) (v : Pnt) : R4 := ⟨r.x1 + v.1, r.y1 + v.2, r.x2 + v.1, r.y2 + v.2⟩
theorem mn_add (a b x : Int) : mn (a + x) (b + x) = mn a b + x := by unfold mn; split <;> split <;> omega
theorem mx_add (a b x : Int) : mx (a + x) (b + x) = mx a b + x := by unfold mx; split <;> split <;> omega
theorem stepR_move (r : R4) (p v : Pnt) : stepR (shR r v) (addP p v) = shR (stepR r p) v := by
  unfold stepR shR addP
  simp only [mn_add, mx_add]
theorem fold_move : ∀ (l : List Pnt) (r : R4) (v : Pnt), (moveL l v).foldl stepR (shR r v) = shR (l.foldl stepR r) v
  | [], _, _ => rfl
  | p :: t, r, v => by
    show (moveL t v).foldl stepR (stepR (shR r v) (addP p v)) = _
    rw [stepR_move]
    exact fold_move t _ v
theorem ofR_move {l : List Pnt} {v : Pnt} (h : l.all pmay = true) (hm : (moveL l v).all pmay = true) (h0 : 0 < l.length) : ofR (moveL l v) = shR (ofR l) v := by
  cases l with
  | nil => simp at h0
  | cons p t =>
    have e : moveL (p :: t) v = addP p v :: moveL t v := rfl
    rw [ofR_yes h, e]
    rw [e] at hm
    rw [ofR_yes hm, ← e]
    unfold accR
    rw [List.take_of_length_le (Nat.le_refl _), List.take_of_length_le (by first | exact Nat.le_refl _ | (rw [e]; exact Nat.le_refl _))]
    exact fold_move (p :: t) (singR p) v
theorem mvB_v {a b c d : Int} {l : List Pnt} {v : Pnt} (h : mvB a b c d l v = true) : pmay v = true := by
  unfold mvB at h
  split at h
  · rw [Bool.and_eq_true] at h; exact h.1
  · unfold fineB at h; rw [Bool.and_eq_true] at h; exact h.1
theorem rgB_moved {a b c d : Int} {l : List Pnt} {v : Pnt} (h : rgB a b c d l = true) (hm : mvB a b c d l v = true) : rgB (mvN l a v.1) (mvN l b v.2) (mvN l c v.1) (mvN l d v.2) (moveL l v) = true := by
  unfold rgB mvN at *
  unfold mvB at hm
  rw [moveL_len]
  split
  · rename_i h0
    rw [if_pos h0] at h hm
    rw [Bool.and_eq_true, Bool.and_eq_true] at hm
    rw [rmayB_iff] at h ⊢
    refine ⟨hm.2.1, hm.2.2, ?_⟩
    have := ordB_iff.1 h.2.2
    exact ordB_iff.2 (by omega)
  · rename_i h0
    rw [if_neg h0] at h hm
    rw [Bool.and_eq_true] at h
    rw [Bool.and_eq_true]
    refine ⟨rfl, simpleB_iff.2 (moved_simple (l := l) (d := v) (by omega) (moveL_len l v) (fun i hi => moveL_get l v i hi) (fun p hp => List.all_eq_true.1 (moved_may hm) p hp) (simpleB_iff.1 h.2))⟩
theorem rgX_moved {a b c d : Int} {l : List Pnt} {v : Pnt} (h : rgB a b c d l = true) (hm : mvB a b c d l v = true) : rgX (mvN l a v.1) (mvN l b v.2) (mvN l c v.1) (mvN l d v.2) (moveL l v) = shR (rgX a b c d l) v := by
  unfold rgB at h
  unfold mvB at hm
  unfold rgX mvN
  rw [moveL_len]
  split
  · rfl
  · rename_i h0
    rw [if_neg h0] at h hm
    rw [Bool.and_eq_true] at h
    exact ofR_move (simpleB_all h.2).1 (moved_may hm) (by omega)
theorem rgI_moved {a b c d : Int} {l : List Pnt} {v p : Pnt} (h : rgB a b c d l = true) (hm : mvB a b c d l v = true) (hp : pmay p = true) (hq : pmay (addP p v) = true) :
    rgI (mvN l a v.1) (mvN l b v.2) (mvN l c v.1) (mvN l d v.2) (moveL l v) (addP p v) = rgI a b c d l p := by
  unfold rgI
  rw [h, rgB_moved h hm, hp, hq, moveL_len]
  unfold rgB at h
  unfold mvN
  split
  · simp only [Bool.true_and]
    unfold inB addP
    rw [Bool.eq_iff_iff]
    simp <;> omega
  · rename_i h0
    rw [if_neg h0, Bool.and_eq_true] at h
    rw [(moved_facts h.2 v p).1]
/-- What is in it is in its box. -/
theorem rgI_box {a b c d : Int} {l : List Pnt} {p : Pnt} (h : rgI a b c d l p = true) : inB (rgX a b c d l).x1 (rgX a b c d l).y1 (rgX a b c d l).x2 (rgX a b c d l).y2 p.1 p.2 = true := by
  unfold rgI rgB at h
  rw [Bool.and_eq_true, Bool.and_eq_true] at h
  unfold rgX
  split
  · rename_i h0
    have := h.2.2
    rw [if_pos h0] at this
    exact this
  · rename_i h0
    have h1 := h.1
    have h2 := h.2.2
    rw [if_neg h0] at h1 h2
    rw [Bool.and_eq_true] at h1
    exact ins_box (simpleB_all h1.2).1 (by omega) h2
end Go.Proofs.Ytiggjaodfmelpaa.Rg
