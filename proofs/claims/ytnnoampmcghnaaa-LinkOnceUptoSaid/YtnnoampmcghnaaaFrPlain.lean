/-
  Plain facts on frames in a stream of bytes: whatever is cut where, the same frames are told. No program here.
-/
import Derived.Test.YtnnoampmcghnaaaFlParse
namespace Go.Proofs.Ytnnoampmcghnaaa.Fr
set_option linter.unusedVariables false
set_option linter.unusedSimpArgs false

/-- All frames at the front of bytes, what is told at the end (0 nothing, 6 a frame is under way, 5 one is too long), and what is left. -/
def frs : List UInt8 → List (List UInt8) × Nat × List UInt8
  | [] => ([], 0, [])
  | [a] => ([], 6, [a])
  | a :: b :: r =>
    if 4000 < 256 * a.toNat + b.toNat then ([], 5, a :: b :: r)
    else if r.length < 256 * a.toNat + b.toNat then ([], 6, a :: b :: r)
    else (r.take (256 * a.toNat + b.toNat) :: (frs (r.drop (256 * a.toNat + b.toNat))).1, (frs (r.drop (256 * a.toNat + b.toNat))).2)
termination_by l => l.length
decreasing_by all_goals simp_wf; omega
theorem frs_nil : frs [] = ([], 0, []) := by rw [frs]
theorem frs_one (a : UInt8) : frs [a] = ([], 6, [a]) := by rw [frs]
theorem frs_long {a b : UInt8} {r : List UInt8} (h : 4000 < 256 * a.toNat + b.toNat) : frs (a :: b :: r) = ([], 5, a :: b :: r) := by rw [frs, if_pos h]
theorem frs_part {a b : UInt8} {r : List UInt8} (h : ¬ 4000 < 256 * a.toNat + b.toNat) (h2 : r.length < 256 * a.toNat + b.toNat) : frs (a :: b :: r) = ([], 6, a :: b :: r) := by rw [frs, if_neg h, if_pos h2]
theorem frs_whole {a b : UInt8} {r : List UInt8} (h : ¬ 4000 < 256 * a.toNat + b.toNat) (h2 : ¬ r.length < 256 * a.toNat + b.toNat) : frs (a :: b :: r) = (r.take (256 * a.toNat + b.toNat) :: (frs (r.drop (256 * a.toNat + b.toNat))).1, (frs (r.drop (256 * a.toNat + b.toNat))).2) := by rw [frs, if_neg h, if_neg h2]
/-- What is left begins with no whole frame. -/
theorem frs_left (l : List UInt8) : frs (frs l).2.2 = ([], (frs l).2) := by
  induction l using frs.induct with
  | case1 => simp [frs_nil]
  | case2 a => simp [frs_one]
  | case3 a b r h => rw [frs_long h]; simp only []; rw [frs_long h]
  | case4 a b r h h2 => rw [frs_part h h2]; simp only []; rw [frs_part h h2]
  | case5 a b r h h2 ih => rw [frs_whole h h2]; exact ih
/-- Once one is too long it stays so. -/
theorem frs_stays (l y : List UInt8) (h5 : (frs l).2.1 = 5) : frs (l ++ y) = ((frs l).1, 5, (frs l).2.2 ++ y) := by
  induction l using frs.induct with
  | case1 => simp [frs_nil] at h5
  | case2 a => simp [frs_one] at h5
  | case3 a b r h => rw [frs_long h, List.cons_append, List.cons_append, frs_long h]
  | case4 a b r h h2 => rw [frs_part h h2] at h5; cases h5
  | case5 a b r h h2 ih =>
    rw [frs_whole h h2] at h5
    have ih := ih h5
    rw [frs_whole h h2, List.cons_append, List.cons_append, frs_whole h (by rw [List.length_append]; omega)]
    rw [List.take_append_of_le_length (by omega), List.drop_append_of_le_length (by omega), ih]
/-- Bytes that come behind others. -/
theorem frs_append (l y : List UInt8) (h5 : (frs l).2.1 ≠ 5) : frs (l ++ y) = ((frs l).1 ++ (frs ((frs l).2.2 ++ y)).1, (frs ((frs l).2.2 ++ y)).2) := by
  induction l using frs.induct with
  | case1 => simp [frs_nil]
  | case2 a => simp [frs_one]
  | case3 a b r h => rw [frs_long h] at h5; exact absurd rfl h5
  | case4 a b r h h2 => rw [frs_part h h2]; simp
  | case5 a b r h h2 ih =>
    rw [frs_whole h h2] at h5
    have ih := ih h5
    rw [frs_whole h h2, List.cons_append, List.cons_append, frs_whole h (by rw [List.length_append]; omega)]
    rw [List.take_append_of_le_length (by omega), List.drop_append_of_le_length (by omega), ih]
    rfl
/-- What is told is nothing, a frame under way, or one too long. -/
theorem frs_code (l : List UInt8) : (frs l).2.1 = 0 ∧ (frs l).2.2 = [] ∨ (frs l).2.1 = 6 ∧ (frs l).2.2 ≠ [] ∨ (frs l).2.1 = 5 ∧ (frs l).2.2 ≠ [] := by
  induction l using frs.induct with
  | case1 => simp [frs_nil]
  | case2 a => simp [frs_one]
  | case3 a b r h => rw [frs_long h]; simp
  | case4 a b r h h2 => rw [frs_part h h2]; simp
  | case5 a b r h h2 ih => rw [frs_whole h h2]; exact ih
theorem frs_short (l : List UInt8) (h : (frs l).2.1 = 6) : (frs l).2.2.length < 4002 := by
  induction l using frs.induct with
  | case1 => simp [frs_nil] at h
  | case2 a => simp [frs_one]
  | case3 a b r h1 => rw [frs_long h1] at h; cases h
  | case4 a b r h1 h2 => rw [frs_part h1 h2]; simp; omega
  | case5 a b r h1 h2 ih => rw [frs_whole h1 h2] at h ⊢; exact ih h
/-- A frame's bytes, and those of frames. -/
def frm (b : List UInt8) : List UInt8 := UInt8.ofNat (b.length / 256) :: UInt8.ofNat (b.length % 256) :: b
def frms : List (List UInt8) → List UInt8
  | [] => []
  | b :: t => frm b ++ frms t
theorem toNat_of {n : Nat} (h : n < 256) : (UInt8.ofNat n).toNat = n := by simp [UInt8.toNat_ofNat']; omega
theorem frm_len {b : List UInt8} (h : b.length ≤ 4000) : 256 * (UInt8.ofNat (b.length / 256)).toNat + (UInt8.ofNat (b.length % 256)).toNat = b.length := by
  rw [toNat_of (by omega), toNat_of (by omega)]; omega
theorem frs_frm {b : List UInt8} (h : b.length ≤ 4000) (r : List UInt8) : frs (frm b ++ r) = (b :: (frs r).1, (frs r).2) := by
  unfold frm
  rw [List.cons_append, List.cons_append, frs_whole (by rw [frm_len h]; omega) (by rw [frm_len h, List.length_append]; omega), frm_len h]
  simp
theorem frs_frms : ∀ (l : List (List UInt8)), (∀ b ∈ l, b.length ≤ 4000) → frs (frms l) = (l, 0, [])
  | [], _ => frs_nil
  | b :: t, h => by rw [frms, frs_frm (h b (by simp)), frs_frms t (fun c hc => h c (by simp [hc]))]
theorem frms_append (l m : List (List UInt8)) : frms (l ++ m) = frms l ++ frms m := by
  induction l with
  | nil => rfl
  | cons b t ih => rw [List.cons_append, frms, frms, ih, List.append_assoc]
/-- The beginning of frames' bytes: no frame in it is too long. -/
theorem frs_begin (l : List UInt8) (y : List UInt8) (h : (frs (l ++ y)).2.1 ≠ 5) : (frs l).2.1 ≠ 5 := fun h5 => h (by rw [frs_stays l y h5])
end Go.Proofs.Ytnnoampmcghnaaa.Fr
