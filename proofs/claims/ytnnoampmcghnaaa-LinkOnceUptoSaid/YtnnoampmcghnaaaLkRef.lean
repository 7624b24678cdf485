/-
  Contracts of the document's sender: Len, Fresh, Ack. All else is left as it was.
-/
import Derived.Test.YtnnoampmcghnaaaLkFresh
import Derived.Deep.QuietTactic
import Derived.IntWalk
namespace Go.Proofs.Ytnnoampmcghnaaa.Lk
open Go.RowKit Go.Proofs.Ytnnoampmcghnaaa.Fl Go.Proofs.Ytnnoampmcghnaaa.Wi Go.Proofs.Ytnnoampmcghnaaa.Fr
set_option linter.unusedVariables false
set_option linter.unusedSimpArgs false
set_option maxHeartbeats 4000000
set_option maxRecDepth 100000
/-- The document's sender: its window, its row v of so many, how many were acknowledged, told. -/
def Rf (W : World) (p : Nat) (win : Nat) (v : Value) (ack told : Nat) : Prop := Bq W p 35 #[.int .i64 (win : Int), v, .int .i64 (ack : Int), .int .i64 (told : Int)]
theorem Rf.lt {W : World} {p win : Nat} {v : Value} {ack told : Nat} (h : Rf W p win v ack told) : p < W.heap.size := Bq.lt h
theorem Rf.later {W V : World} {p win : Nat} {v : Value} {ack told : Nat} (h : Rf W p win v ack told) (hb : Below W.heap.size W V) : Rf V p win v ack told := Bq.later h hb
theorem Rf.cells {W : World} {p win : Nat} {v : Value} {ack told : Nat} (h : Rf W p win v ack told) :
    W.cell? ⟨p, 0, none⟩ = some (.int .i64 (win : Int)) ∧ W.cell? ⟨p, 1, none⟩ = some v ∧ W.cell? ⟨p, 2, none⟩ = some (.int .i64 (ack : Int)) ∧ W.cell? ⟨p, 3, none⟩ = some (.int .i64 (told : Int)) := Bq.c4 h
theorem rlen_any {p win : Nat} {a : Option Addr} {n c : Nat} {ack told : Nat} (w : World) (h : Rf w p win (.slice a n c) ack told) (hn : n ≤ 100000000) (ha : ack ≤ n) :
    Calls Try.prog 10 #[.pointer (some ⟨p, 0, none⟩)] w fun e w' => e = .returned (.int .i64 ((n - ack : Nat) : Int)) ∧ Below w.heap.size w w' := by
  obtain ⟨-, c1, c2, -⟩ := h.cells
  have u1 : IntKind.i64.wrap ((n : Int) - (ack : Int)) = ((n - ack : Nat) : Int) := by rw [IntWalk.i64_in _ (by omega)]; omega
  obtain ⟨x, hx⟩ : ∃ x : Int, x = ((n - ack : Nat) : Int) := ⟨_, rfl⟩
  rw [← hx] at u1 ⊢
  clear h hn ha hx
  go_enter Try.func10, Try.ntmps10
  go_wp2_with fail
  go_quiet (fail)
  go_wp2_with fail
  go_ret
  exact ⟨rfl, rfl, rfl, rfl, Nat.le_refl _, fun _ _ => rfl⟩
theorem rfresh_any {p win : Nat} {a : Option Addr} {n c : Nat} {ack told : Nat} (w : World) (h : Rf w p win (.slice a n c) ack told) (hn : n ≤ 100000000) (ha : ack ≤ n) (hw : win ≤ 64) (tl : Nat) (htl : tl = toldF win n ack) (ht : told ≤ tl) :
    Calls Try.prog 12 #[.pointer (some ⟨p, 0, none⟩)] w fun e w' => e = .returned (.tuple #[.int .i64 (told : Int), .int .i64 (tl : Int)]) ∧ Rf w' p win (.slice a n c) ack tl ∧ Lv (fun g => g = p) w w' := by
  obtain ⟨c0, c1, c2, c3⟩ := h.cells
  have f3 : w.frozen? ⟨p, 3, none⟩ = false := Bq.fr h 3
  have u1 : IntKind.i64.wrap ((ack : Int) + (win : Int)) = ((ack + win : Nat) : Int) := by rw [IntWalk.i64_in _ (by omega)]; omega
  have HR := Lib.hid (show ∀ W : World, W.heap = w.heap → W.os = w.os → W.tape = w.tape → W.output = w.output → Rf (W.setCell ⟨p, 3, none⟩ (.int .i64 (tl : Int))) p win (.slice a n c) ack tl ∧ Lv (fun g => g = p) w (W.setCell ⟨p, 3, none⟩ (.int .i64 (tl : Int))) from fun W h1 h2 h3 h4 => by
    refine ⟨?_, ?_⟩
    · have h5 : Bq W p 35 #[.int .i64 (win : Int), .slice a n c, .int .i64 (ack : Int), .int .i64 (told : Int)] := by unfold Bq; rw [h1]; exact h
      have := h5.set 3 (.int .i64 (tl : Int))
      show Bq _ _ _ _
      simpa using this
    · exact Lv.set (X := fun g => g = p) (a := w) (b := W) ⟨h2, h3, h4, by rw [h1]; exact Nat.le_refl _, fun k _ _ => by rw [h1]⟩ p 3 _ (Or.inl rfl))
  have HS := Lib.hid (show tl = told → Rf w p win (.slice a n c) ack tl from fun e => by rw [e]; exact h)
  have htl2 : tl = if n < ack + win then n else ack + win := by rw [htl]; unfold toldF; split <;> omega
  clear htl h
  obtain ⟨y, hy⟩ : ∃ y, y = ack + win := ⟨_, rfl⟩
  rw [← hy] at u1 htl2
  clear hy
  by_cases k1 : n < y
  · rw [if_pos k1] at htl2
    have k2 : (n : Int) < (y : Int) := by omega
    subst htl2
    by_cases k3 : told < tl
    · have k4 : (told : Int) < (tl : Int) := by omega
      clear ht
      go_enter Try.func12, Try.ntmps12
      go_wp2_with fail
      go_quiet (fail)
      go_wp2_with fail
      go_quiet (fail)
      go_wp2_with fail
      refine bodyPost_ret (v := .tuple #[.int .i64 (told : Int), .int .i64 (tl : Int)]) ?hv ?hd ?hr
      case hv => simp [results, Try.results12, go_sem]
      case hd => rfl
      case hr =>
        obtain ⟨q1, q2⟩ := HR.out w rfl rfl rfl rfl
        exact ⟨rfl, q1, q2.os, q2.tape, q2.output, q2.size, q2.block⟩
    · have k5 : told = tl := by omega
      subst k5
      have HS2 := Lib.hid (HS.out rfl)
      clear HS
      clear ht
      go_enter Try.func12, Try.ntmps12
      go_wp2_with fail
      go_quiet (fail)
      go_wp2_with fail
      go_quiet (fail)
      go_wp2_with fail
      refine bodyPost_ret (v := .tuple #[.int .i64 (told : Int), .int .i64 (told : Int)]) ?hv ?hd ?hr
      case hv => simp [results, Try.results12, go_sem]
      case hd => rfl
      case hr => exact ⟨rfl, HS2.out, rfl, rfl, rfl, Nat.le_refl _, fun _ _ _ => rfl⟩
  · rw [if_neg k1] at htl2
    have k2 : ¬ (n : Int) < (y : Int) := by omega
    subst htl2
    by_cases k3 : told < tl
    · have k4 : (told : Int) < (tl : Int) := by omega
      clear ht
      go_enter Try.func12, Try.ntmps12
      go_wp2_with fail
      go_quiet (fail)
      go_wp2_with fail
      go_quiet (fail)
      go_wp2_with fail
      refine bodyPost_ret (v := .tuple #[.int .i64 (told : Int), .int .i64 (tl : Int)]) ?hv ?hd ?hr
      case hv => simp [results, Try.results12, go_sem]
      case hd => rfl
      case hr =>
        obtain ⟨q1, q2⟩ := HR.out w rfl rfl rfl rfl
        exact ⟨rfl, q1, q2.os, q2.tape, q2.output, q2.size, q2.block⟩
    · have k5 : told = tl := by omega
      subst k5
      have HS2 := Lib.hid (HS.out rfl)
      clear HS
      clear ht
      go_enter Try.func12, Try.ntmps12
      go_wp2_with fail
      go_quiet (fail)
      go_wp2_with fail
      go_quiet (fail)
      go_wp2_with fail
      refine bodyPost_ret (v := .tuple #[.int .i64 (told : Int), .int .i64 (told : Int)]) ?hv ?hd ?hr
      case hv => simp [results, Try.results12, go_sem]
      case hd => rfl
      case hr => exact ⟨rfl, HS2.out, rfl, rfl, rfl, Nat.le_refl _, fun _ _ _ => rfl⟩
theorem rack_any {p win : Nat} {v : Value} {ack told : Nat} (n : Nat) (w : World) (h : Rf w p win v ack told) (h64 : n < 18446744073709551616) (hat : ack ≤ told) (ht : told ≤ 100000000) :
    Calls Try.prog 18 #[.pointer (some ⟨p, 0, none⟩), .int .u64 (n : Int)] w fun e w' => e = .returned (.tuple #[]) ∧ Rf w' p win v (if ack ≤ n ∧ n ≤ told then n else ack) told ∧ Lv (fun g => g = p) w w' := by
  obtain ⟨-, -, c2, c3⟩ := h.cells
  have f2 : w.frozen? ⟨p, 2, none⟩ = false := Bq.fr h 2
  have u1 : IntKind.u64.wrap (told : Int) = (told : Int) := wrapU rfl (by omega)
  have u2 : IntKind.u64.wrap (ack : Int) = (ack : Int) := wrapU rfl (by omega)
  by_cases k1 : n ≤ told
  · have u3 : IntKind.i64.wrap (n : Int) = (n : Int) := IntWalk.i64_in _ (by omega)
    by_cases k2 : ack ≤ n
    · rw [if_pos ⟨k2, k1⟩]
      have HR := Lib.hid (show ∀ W : World, W.heap = w.heap → W.os = w.os → W.tape = w.tape → W.output = w.output → Rf (W.setCell ⟨p, 2, none⟩ (.int .i64 (n : Int))) p win v n told ∧ Lv (fun g => g = p) w (W.setCell ⟨p, 2, none⟩ (.int .i64 (n : Int))) from fun W h1 h2 h3 h4 => by
        refine ⟨?_, ?_⟩
        · have h5 : Bq W p 35 #[.int .i64 (win : Int), v, .int .i64 (ack : Int), .int .i64 (told : Int)] := by unfold Bq; rw [h1]; exact h
          have := h5.set 2 (.int .i64 (n : Int))
          show Bq _ _ _ _
          simpa using this
        · exact Lv.set (X := fun g => g = p) (a := w) (b := W) ⟨h2, h3, h4, by rw [h1]; exact Nat.le_refl _, fun k _ _ => by rw [h1]⟩ p 2 _ (Or.inl rfl))
      have z1 : (n : Int) ≤ (told : Int) := by omega
      have z2 : (ack : Int) ≤ (n : Int) := by omega
      clear h hat ht h64
      go_enter Try.func18, Try.ntmps18
      go_wp2_with fail
      refine bodyPost_end (v := .tuple #[]) ?hv ?hd ?hr
      case hv => simp [results, Try.results18, go_sem]
      case hd => rfl
      case hr =>
        obtain ⟨q1, q2⟩ := HR.out w rfl rfl rfl rfl
        exact ⟨rfl, q1, q2⟩
    · rw [if_neg (fun e => k2 e.1)]
      have HS := Lib.hid h
      have z1 : (n : Int) ≤ (told : Int) := by omega
      have z2 : ¬ (ack : Int) ≤ (n : Int) := by omega
      clear h hat ht h64
      go_enter Try.func18, Try.ntmps18
      go_wp2_with fail
      refine bodyPost_end (v := .tuple #[]) ?hv ?hd ?hr
      case hv => simp [results, Try.results18, go_sem]
      case hd => rfl
      case hr => exact ⟨rfl, HS.out, rfl, rfl, rfl, Nat.le_refl _, fun _ _ _ => rfl⟩
  · rw [if_neg (fun e => k1 e.2)]
    have HS := Lib.hid h
    have z1 : ¬ (n : Int) ≤ (told : Int) := by omega
    have d1 : decide ((n : Int) ≤ (told : Int)) = false := by rw [decide_eq_false_iff_not]; exact z1
    clear h hat ht h64
    go_enter Try.func18, Try.ntmps18
    go_wp2_with fail
    refine bodyPost_end (v := .tuple #[]) ?hv ?hd ?hr
    case hv => simp [results, Try.results18, go_sem]
    case hd => rfl
    case hr => exact ⟨rfl, HS.out, rfl, rfl, rfl, Nat.le_refl _, fun _ _ _ => rfl⟩
end Go.Proofs.Ytnnoampmcghnaaa.Lk
