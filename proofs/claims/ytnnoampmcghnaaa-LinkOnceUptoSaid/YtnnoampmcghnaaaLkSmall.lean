/-
  Contracts of NewSender, NewReceiver, Len, Want and Take of package link, and of the statements' pick. All else is left as it was.
-/
import Derived.Test.YtnnoampmcghnaaaLkClone
import Derived.IntWalk
import Derived.Deep.QuietTactic
namespace Go.Proofs.Ytnnoampmcghnaaa.Lk
open Go.RowKit Go.Proofs.Ytnnoampmcghnaaa.Fl Go.Proofs.Ytnnoampmcghnaaa.Wi Go.Proofs.Ytnnoampmcghnaaa.Fr
set_option linter.unusedVariables false
set_option linter.unusedSimpArgs false
set_option maxHeartbeats 4000000
set_option maxRecDepth 100000
theorem newS_bad (n : Int) (hn : n < 1 ∨ 64 < n) (w : World) : Calls Try.prog 6 #[.int .i64 n] w fun e w' => e = .returned (.tuple #[.pointer none, .iface 31 (.int .i64 1)]) ∧ w = w' := by
  by_cases h1 : n < 1
  · clear hn
    go_enter Try.func6, Try.ntmps6
    go_wp2_with fail
    exact bodyPost_ret (v := .tuple #[.pointer none, .iface 31 (.int .i64 1)]) (by simp [results, Try.results6, go_sem]) rfl ⟨rfl, rfl⟩
  · have h2 : 64 < n := by omega
    clear hn
    go_enter Try.func6, Try.ntmps6
    go_wp2_with fail
    exact bodyPost_ret (v := .tuple #[.pointer none, .iface 31 (.int .i64 1)]) (by simp [results, Try.results6, go_sem]) rfl ⟨rfl, rfl⟩
theorem newS_any (n : Nat) (h1 : 1 ≤ n) (h2 : n ≤ 64) (w : World) : Calls Try.prog 6 #[.int .i64 (n : Int)] w fun e w' => e = .returned (.tuple #[.pointer (some ⟨w.heap.size, 0, none⟩), .nilIface]) ∧ Sn w' (fun _ => False) w.heap.size n (.slice none 0 0) [] [] 0 0 ∧ Below w.heap.size w w' := by
  have k1 : ¬ (n : Int) < 1 := by omega
  have k2 : ¬ 64 < (n : Int) := by omega
  go_enter Try.func6, Try.ntmps6
  go_wp2_with fail
  refine bodyPost_ret (v := .tuple #[.pointer (some ⟨w.heap.size, 0, none⟩), .nilIface]) (by simp [results, Try.results6, go_sem]) rfl ⟨rfl, ?_, below_alloc _ _⟩
  exact ⟨Bq.new _ _ _, OS.nil _ _, FsV.nil _ _, fun g h => h.elim, Nat.le_refl _, Nat.le_refl _, by omega, h1, h2, by simp⟩
theorem newR_any (w : World) : Calls Try.prog 7 #[] w fun e w' => e = .returned (.pointer (some ⟨w.heap.size, 0, none⟩)) ∧ Bq w' w.heap.size 59 #[.int .u64 0] ∧ Below w.heap.size w w' := by
  go_enter Try.func7, Try.ntmps7
  go_wp2_with fail
  go_ret
  exact ⟨rfl, Bq.new _ _ _, below_alloc _ _⟩
/-- One of n. -/
def pickN (c : Int) (n : Nat) : Nat := (if c < 0 then -(c + 1) else c).toNat % n
theorem pickN_lt (c : Int) {n : Nat} (h : 0 < n) : pickN c n < n := Nat.mod_lt _ h
theorem pick_any (c : Int) (n : Nat) (k1 : -9223372036854775808 ≤ c) (k2 : c ≤ 9223372036854775807) (h0 : 0 < n) (hn : n ≤ 100000000) (w : World) : Calls Try.prog 8 #[.int .i64 c, .int .i64 (n : Int)] w fun e w' => e = .returned (.int .i64 (pickN c n : Nat)) ∧ w = w' := by
  have hnz : (0 : Int) < (n : Int) := by omega
  by_cases h : c < 0
  · have HP := Lib.hid (show (-(c + 1)).tmod (n : Int) = ((pickN c n : Nat) : Int) by
      rw [pickN, if_pos h, Int.tmod_eq_emod_of_nonneg (by omega)]
      rw [Int.natCast_emod, Int.toNat_of_nonneg (by omega)])
    have w1 : IntKind.i64.wrap (c + 1) = c + 1 := IntWalk.i64_in _ (by omega)
    have w2 : IntKind.i64.wrap (-(c + 1)) = -(c + 1) := IntWalk.i64_in _ (by omega)
    have w3 : IntKind.i64.wrap ((pickN c n : Nat) : Int) = ((pickN c n : Nat) : Int) := IntWalk.i64_in _ (by have := pickN_lt c h0; omega)
    have hp := HP.out
    generalize pickN c n = r at hp w3 ⊢
    clear HP
    go_enter Try.func8, Try.ntmps8
    go_wp2_with fail
    go_ret
    exact ⟨rfl, rfl⟩
  · have hp : c.tmod (n : Int) = ((pickN c n : Nat) : Int) := by
      rw [pickN, if_neg h, Int.tmod_eq_emod_of_nonneg (by omega)]
      rw [Int.natCast_emod, Int.toNat_of_nonneg (by omega)]
    have w3 : IntKind.i64.wrap ((pickN c n : Nat) : Int) = ((pickN c n : Nat) : Int) := IntWalk.i64_in _ (by have := pickN_lt c h0; omega)
    generalize pickN c n = r at hp w3 ⊢
    go_enter Try.func8, Try.ntmps8
    go_wp2_with fail
    go_ret
    exact ⟨rfl, rfl⟩
theorem want_any (r : Nat) (n : Nat) (w : World) (h : Bq w r 59 #[.int .u64 (n : Int)]) : Calls Try.prog 16 #[.pointer (some ⟨r, 0, none⟩)] w fun e w' => e = .returned (.int .u64 (n : Int)) ∧ w = w' := by
  have c0 : w.cell? ⟨r, 0, none⟩ = some (.int .u64 (n : Int)) := by unfold Bq at h; simp [World.cell?, h]
  clear h
  go_enter Try.func16, Try.ntmps16
  go_wp2_with fail
  go_ret
  exact ⟨rfl, rfl⟩
theorem slen_any {S : Nat → Prop} {p win : Nat} {v : Value} {cs : List Value} {all : List (List UInt8)} {ack told : Nat} (w : World) (h : Sn w S p win v cs all ack told) :
    Calls Try.prog 19 #[.pointer (some ⟨p, 0, none⟩)] w fun e w' => e = .returned (.int .i64 ((all.length - ack : Nat) : Int)) ∧ w = w' := by
  obtain ⟨-, c1, -, -⟩ := h.cells
  obtain ⟨a, n, c, rfl⟩ := own_slice h.row
  obtain ⟨hn, -⟩ := h.row.cells
  have HN := Lib.hid (show n = all.length - ack by rw [hn, h.len])
  clear h hn
  go_enter Try.func19, Try.ntmps19
  go_wp2_with fail
  go_ret
  exact ⟨by rw [← HN.out]; rfl, rfl⟩
theorem take_no (r : Nat) (q n : Nat) (a : Option Addr) (m c : Nat) (hq : q ≠ n) (w : World) (h : Bq w r 59 #[.int .u64 (n : Int)]) : Calls Try.prog 15 #[.pointer (some ⟨r, 0, none⟩), .agg #[.int .u64 (q : Int), .slice a m c]] w fun e w' => e = .returned (.tuple #[.slice none 0 0, .bool false]) ∧ Below w.heap.size w w' := by
  have hne : ¬ (q : Int) = (n : Int) := by omega
  obtain ⟨v, hv⟩ : ∃ v : World, v = w.alloc (.cells #[.int .u64 (q : Int), .slice a m c] 49) := ⟨_, rfl⟩
  have c0 : v.cell? ⟨r, 0, none⟩ = some (.int .u64 (n : Int)) := by have h2 := h.alloc (.cells #[.int .u64 (q : Int), .slice a m c] 49); rw [← hv] at h2; unfold Bq at h2; simp [World.cell?, h2]
  have c1 : v.cell? ⟨w.heap.size, 0, none⟩ = some (.int .u64 (q : Int)) := by rw [hv]; simp [go_sem]
  have HB := Lib.hid (show Below w.heap.size w v by rw [hv]; exact below_alloc _ _)
  clear h
  go_enter Try.func15, Try.ntmps15
  go_wp2_with fail
  rw [← hv]
  clear hv
  go_quiet (fail)
  go_wp2_with fail
  refine bodyPost_ret (v := .tuple #[.slice none 0 0, .bool false]) (by simp [results, Try.results15, go_sem]) rfl ⟨rfl, ?_⟩
  exact ⟨HB.out.os, HB.out.tape, HB.out.output, HB.out.size, HB.out.block⟩
theorem take_yes (r : Nat) (n : Nat) (a : Option Addr) (m c : Nat) (l : List UInt8) {S : Nat → Prop} (w : World) (h : Bq w r 59 #[.int .u64 (n : Int)]) (hn : n ≤ 100000000) (hB : BytesAt w S a l) (hm : m = l.length) (hl : l.length ≤ 100000000) (hS : ∀ g, S g → g < w.heap.size ∧ g ≠ r) :
    Calls Try.prog 15 #[.pointer (some ⟨r, 0, none⟩), .agg #[.int .u64 (n : Int), .slice a m c]] w fun e w' => ∃ a' c', e = .returned (.tuple #[.slice a' m c', .bool true]) ∧ m ≤ c' ∧ BytesAt w' (fun g => w.heap.size ≤ g ∧ g < w'.heap.size) a' l ∧ Bq w' r 59 #[.int .u64 ((n + 1 : Nat) : Int)] ∧ Lv (fun g => g = r) w w' := by
  obtain ⟨v, hv⟩ : ∃ v : World, v = w.alloc (.cells #[.int .u64 (n : Int), .slice a m c] 49) := ⟨_, rfl⟩
  have H2 := Lib.hid (show Bq v r 59 #[.int .u64 (n : Int)] by rw [hv]; exact h.alloc _)
  have c0 : v.cell? ⟨r, 0, none⟩ = some (.int .u64 (n : Int)) := by have h2 := H2.out; unfold Bq at h2; simp [World.cell?, h2]
  have c1 : v.cell? ⟨w.heap.size, 0, none⟩ = some (.int .u64 (n : Int)) := by rw [hv]; simp [go_sem]
  have c2 : v.cell? ⟨w.heap.size, 1, none⟩ = some (.slice a m c) := by rw [hv]; simp [go_sem]
  have f0 : v.frozen? ⟨r, 0, none⟩ = false := H2.out.fr 0
  have HZ := Lib.hid (show v.heap.size = w.heap.size + 1 by rw [hv]; simp)
  have HV := Lib.hid (show Lv (fun g => g = r) w v by rw [hv]; exact (Lv.refl _ _).alloc _)
  have hrl := h.lt
  have hne : r ≠ w.heap.size := by omega
  have hu : IntKind.u64.wrap ((n : Int) + 1) = ((n + 1 : Nat) : Int) := wrapU (by omega) (by omega)
  have HB := Lib.hid (show BytesAt v S a l by rw [hv]; exact hB.far fun g hg => ⟨hg, Below.heap_alloc _ _ _ (hS g hg).1⟩)
  have HS := Lib.hid hS
  have HM := Lib.hid hm
  have HL := Lib.hid hl
  clear h hB hS hm hl hn
  obtain ⟨x, hx⟩ : ∃ x : Int, ((n + 1 : Nat) : Int) = x := ⟨_, rfl⟩
  rw [hx] at hu ⊢
  clear hx
  go_enter Try.func15, Try.ntmps15
  go_wp2_with fail
  rw [← hv]
  clear hv
  go_quiet (fail)
  have HC := Lib.hid (clone_any (S := S) a m c l ((v.drewN nq).setCell ⟨r, 0, none⟩ (.int .u64 x)) (HB.out.far fun g hg => ⟨hg, Below.heap_setCell _ _ _ _ (HS.out g hg).2⟩) HM.out HL.out (fun g hg => by have := (HS.out g hg).1; have := HZ.out; simp [World.setCell]; first | done | omega | (show g < v.heap.size; omega)))
  go_wp2_with fail
  refine HC.out.mono ?_
  rintro e w2 ⟨a', c', rfl, h1, h2, h3⟩
  have H3 := Lib.hid h3
  have HA := Lib.hid h2
  have HD := Lib.hid h1
  clear h1 h2 h3
  go_wp2_with fail
  refine bodyPost_ret (v := .tuple #[.slice a' m c', .bool true]) (by simp [results, Try.results15, go_sem]) rfl ⟨a', c', rfl, HD.out, ?_, ?_, ?_⟩
  · refine HA.out.far fun g hg => ⟨⟨?_, hg.2⟩, rfl⟩
    have h1 := hg.1
    have := HZ.out
    have h2 : v.heap.size ≤ g := by simpa [World.setCell] using h1
    omega
  · refine Bq.later ?_ H3.out
    have := (show Bq (v.drewN nq) r 59 #[.int .u64 (n : Int)] from H2.out).set 0 (.int .u64 x)
    simpa using this
  · exact (Lv.set (show Lv (fun g => g = r) w (v.drewN nq) from ⟨HV.out.os, HV.out.tape, HV.out.output, HV.out.size, HV.out.block⟩) r 0 _ (Or.inl rfl)).below H3.out
end Go.Proofs.Ytnnoampmcghnaaa.Lk
