/-
  Contract of the document's answer for frames: all frames at the front of bytes, and what is told at the end. Memory that was there is left as it was.
-/
import Derived.Test.YthoajnpdnagdbaaFrMem
import Derived.IntWalk
namespace Go.Proofs.Ythoajnpdnagdbaa.Fr
open Go.RowKit Go.Proofs.Ythoajnpdnagdbaa.Fl Go.Proofs.Ythoajnpdnagdbaa.Wi
set_option linter.unusedVariables false
set_option linter.unusedSimpArgs false

theorem frs_short2 {l : List UInt8} (h : l.length < 2) : (frs l).1 = [] ∧ (frs l).2.1 = if l = [] then 0 else 6 := by
  match l, h with
  | [], _ => rw [frs_nil]; simp
  | [a], _ => rw [frs_one]; simp
theorem two_of {l : List UInt8} (h : 2 ≤ l.length) : ∃ x y r, l = x :: y :: r := by
  match l, h with
  | x :: y :: r, _ => exact ⟨x, y, r, rfl⟩
/-- What the document's answer tells. -/
def FrmEnd (b : List UInt8) (w w' : World) (e : Ending) : Prop :=
  ∃ a n c cs, e = .returned (.tuple #[.slice a n c, .int .i64 ((frs b).2.1 : Nat)]) ∧ OS w' w.heap.size (.slice a n c) cs ∧ FsV w (Old w.heap.size) cs (frs b).1 ∧ Below w.heap.size w w'
def FrmR (b : List UInt8) (w : World) (v0 v4 : Value) (wr : World) : Prop :=
  ∃ (r : List UInt8) (a : Option Addr) (n c : Nat) (a4 : Option Addr) (n4 c4 : Nat) (cs : List Value) (L : List (List UInt8)), v0 = .slice a n c ∧ v4 = .slice a4 n4 c4 ∧ Hid (n = r.length) ∧ n ≤ c ∧ n ≤ 1000000 ∧ Hid (BytesAt w (Old w.heap.size) a r) ∧ Hid (OS wr w.heap.size (.slice a4 n4 c4) cs) ∧ Hid (FsV w (Old w.heap.size) cs L) ∧ Hid (Below w.heap.size w wr) ∧ Hid (frs b = (L ++ (frs r).1, (frs r).2)) ∧ Hid (cs.length + n ≤ 1000000)
set_option maxHeartbeats 2000000
set_option maxRecDepth 100000
theorem frames_any (a : Option Addr) (c : Nat) (b : List UInt8) (hb : b.length ≤ 1000000) (hc : b.length ≤ c) (w : World) (hB : BytesAt w (Old w.heap.size) a b) :
    Calls Try.prog 8 #[.slice a b.length c] w fun e w' => FrmEnd b w w' e := by
  obtain ⟨n, hn⟩ : ∃ n, n = b.length := ⟨_, rfl⟩
  have HB := Lib.hid hB
  have HN := Lib.hid hn
  rw [← hn] at hb hc ⊢
  unfold FrmEnd
  clear hB hn
  go_enter Try.func8, Try.ntmps8
  go_wp2_with fail
  go_loopw [0, 4] (fun v0 v4 wr => FrmR b w v0 v4 wr) (fun v0 _ _ => match v0 with | .slice _ n _ => n | _ => 0)
  case atStart => exact ⟨b, a, n, c, none, 0, 0, [], [], rfl, rfl, HN, hc, hb, HB, Lib.hid (OS.nil _ _), Lib.hid (FsV.nil _ _), Lib.hid (Below.refl _ _), Lib.hid (by simp), Lib.hid (by simpa using hb)⟩
  case round =>
    clear HB HN hb hc
    obtain ⟨r, a', n', c', a4, n4, c4, cs, L, rfl, rfl, HN, hc, hb, HB, HO, HF, HW, HR, HC⟩ := hrel
    by_cases h2 : 2 ≤ n'
    · have h2z : (2 : Int) ≤ (n' : Int) := by omega
      obtain ⟨x, y, s, hr⟩ := two_of (show 2 ≤ r.length by rw [← HN.out]; exact h2)
      obtain ⟨g, o, hga, hg, hcl⟩ := HB.out.2 (by rw [← HN.out]; omega)
      subst hga
      have e0 := hcl 0 (by rw [← HN.out]; omega)
      have e1 := hcl 1 (by rw [← HN.out]; omega)
      subst hr
      simp only [List.getElem_cons_zero, List.getElem_cons_succ, Nat.add_zero] at e0 e1
      obtain ⟨x0, hx0⟩ : ∃ x0 : Nat, x0 = x.toNat := ⟨_, rfl⟩
      obtain ⟨y0, hy0⟩ : ∃ y0 : Nat, y0 = y.toNat := ⟨_, rfl⟩
      rw [← hx0] at e0
      rw [← hy0] at e1
      have hx256 : x0 < 256 := by rw [hx0]; exact x.toNat_lt
      have hy256 : y0 < 256 := by rw [hy0]; exact y.toNat_lt
      have d0 := (World.cell?_of_block (w := w) (w' := wr) (a := ⟨g, o, none⟩) (HW.out.block g hg)).trans e0
      have d1 := (World.cell?_of_block (w := w) (w' := wr) (a := ⟨g, o + 1, none⟩) (HW.out.block g hg)).trans e1
      obtain ⟨k, hk⟩ : ∃ k, k = 256 * x0 + y0 := ⟨_, rfl⟩
      have HK := Lib.hid (show k = 256 * x.toNat + y.toNat by rw [hk, hx0, hy0])
      have Q1 := Lib.hid (show IntKind.i64.wrap (x0 : Int) = (x0 : Int) from IntWalk.i64_in _ (by omega))
      have Q2 := Lib.hid (show IntKind.i64.wrap (y0 : Int) = (y0 : Int) from IntWalk.i64_in _ (by omega))
      have Q3 := Lib.hid (show IntKind.i64.wrap (256 * (x0 : Int)) = 256 * (x0 : Int) from IntWalk.i64_in _ (by omega))
      have Q4 := Lib.hid (show IntKind.i64.wrap (256 * (x0 : Int) + (y0 : Int)) = (k : Int) from (IntWalk.i64_in _ (by omega)).trans (by omega))
      have HS := Lib.hid (show n' = s.length + 2 from HN.out)
      have hk65 : k < 65536 := by omega
      clear hcl e0 e1 hx0 hy0 hk
      by_cases hk4 : (4000 : Int) < (k : Int)
      · have HE := Lib.hid (show frs b = (L, 5, x :: y :: s) by rw [HR.out, frs_long (by rw [← HK.out]; omega)]; simp)
        have q1 := Q1.out
        have q2 := Q2.out
        have q3 := Q3.out
        have q4 := Q4.out
        go_wp2_with fail
        go_region
        all_goals
          clear q1 q2 q3 q4
          go_wp2_with fail
          refine bodyPost_ret (v := .tuple #[.slice a4 n4 c4, .int .i64 5]) (by simp [results, Try.results8, go_sem, *]) rfl ⟨a4, n4, c4, cs, ?_, HO.out, ?_, HW.out.drew⟩
          · rw [HE.out]; rfl
          · rw [HE.out]; exact HF.out
      by_cases hpart : (n' : Int) < 2 + (k : Int)
      · have HE := Lib.hid (show frs b = (L, 6, x :: y :: s) by rw [HR.out, frs_part (by rw [← HK.out]; omega) (by rw [← HK.out]; have := HS.out; omega)]; simp)
        have q1 := Q1.out
        have q2 := Q2.out
        have q3 := Q3.out
        have q4 := Q4.out
        go_wp2_with fail
        go_region
        all_goals
          clear q1 q2 q3 q4
          go_wp2_with fail
          refine bodyPost_ret (v := .tuple #[.slice a4 n4 c4, .int .i64 6]) (by simp [results, Try.results8, go_sem, *]) rfl ⟨a4, n4, c4, cs, ?_, HO.out, ?_, HW.out.drew⟩
          · rw [HE.out]; rfl
          · rw [HE.out]; exact HF.out
      have hkn : 2 + k ≤ n' := by omega
      have hks : k ≤ s.length := by have := HS.out; omega
      have HE := Lib.hid (show frs b = ((L ++ [s.take k]) ++ (frs (s.drop k)).1, (frs (s.drop k)).2) by rw [HR.out, frs_whole (by rw [← HK.out]; omega) (by rw [← HK.out]; omega), ← HK.out]; simp)
      have H1 := Lib.hid (show BytesAt w (Old w.heap.size) (rest (some ⟨g, o, none⟩) c' 2) (s.take k) from BytesAt.pre (HB.out.drop (c := c') (k := 2) (by simp) (by rw [← HN.out]; exact hc)) k)
      have H2 := Lib.hid (show BytesAt w (Old w.heap.size) (rest (some ⟨g, o, none⟩) c' (2 + k)) (s.drop k) by
        have := HB.out.drop (c := c') (k := 2 + k) (by rw [← HN.out]; exact hkn) (by rw [← HN.out]; exact hc)
        rwa [Nat.add_comm 2 k, List.drop_succ_cons, List.drop_succ_cons, Nat.add_comm k 2] at this)
      obtain ⟨ad, had⟩ : ∃ ad, ad = rest (some ⟨g, o, none⟩) c' 2 := ⟨_, rfl⟩
      obtain ⟨ae, hae⟩ : ∃ ae, ae = rest (some ⟨g, o, none⟩) c' (2 + k) := ⟨_, rfl⟩
      have q5 := fun W => run_mid2 (some ⟨g, o, none⟩) n' c' k (by omega) W
      have q6 := fun W => run_rest2 (some ⟨g, o, none⟩) n' c' k hkn W
      rw [← had] at q5 H1
      rw [← hae] at q6 H2
      have HKT := Lib.hid (show k = (s.take k).length by rw [List.length_take]; omega)
      have HND := Lib.hid (show n' - (2 + k) = (s.drop k).length by rw [List.length_drop]; have := HS.out; omega)
      have hk63 : k ≤ 4000 := by omega
      obtain ⟨wd, hwd⟩ : ∃ W0 : World, W0 = wr.drew := ⟨_, rfl⟩
      have OD := Lib.hid (show OS wd w.heap.size (.slice a4 n4 c4) cs by rw [hwd]; exact HO.out)
      have WD := Lib.hid (show Below w.heap.size w wd by rw [hwd]; exact HW.out.drew)
      obtain ⟨w3, hw3⟩ : ∃ W0 : World, W0 = wd.alloc (.cells #[.slice ad k (c' - 2)] 26) := ⟨_, rfl⟩
      have O3 := Lib.hid (show OS w3 w.heap.size (.slice a4 n4 c4) cs by rw [hw3]; exact OD.out.later (below_alloc _ _))
      have W3 := Lib.hid (show Below w.heap.size w w3 by rw [hw3]; exact WD.out.alloc WD.out.size _)
      have N3 := Lib.hid (show CellsAt w3 (fun _ => True) (some ⟨wd.heap.size, 0, none⟩) [.slice ad k (c' - 2)] by rw [hw3]; exact one_new wd _ _)
      have HW3 := Lib.hid hw3
      have HWD := Lib.hid hwd
      have q1 := Q1.out
      have q2 := Q2.out
      have q3 := Q3.out
      have q4 := Q4.out
      clear had hae hw3 hwd hks
      go_wp2_with fail
      go_region
      all_goals
        clear q1 q2 q3 q4
        rw [← HWD.out]
        go_wp2_with (at_builtin; rw [← HW3.out]; refine wpList_append_slices rfl _ _ rfl w.heap.size _ cs rfl O3.out _ 1 1 _ rfl rfl N3.out (by intro u hu; simp at hu; rw [hu]; rfl) (by have := HC.out; simp; omega) W3.out.size ?_; intro v' w4 hrow4 hg4 hat4; obtain ⟨a5, n5, c5, e5⟩ := own_slice hrow4; subst e5)
        have W4 := Lib.hid (show Below w.heap.size w w4 from below_grown W3.out W3.out.size hg4 (fun k hk => (O3.out.lt hk).1))
        go_roundw
        case rel => exact ⟨s.drop k, ae, n' - (2 + k), c' - (2 + k), a5, n5, c5, cs ++ [.slice ad k (c' - 2)], L ++ [s.take k], rfl, rfl, HND, by omega, by omega, H2, Lib.hid hrow4, Lib.hid (HF.out.app (FsV.two HKT.out (by omega) H1.out)), W4, HE, Lib.hid (by have := HC.out; simp; omega)⟩
        case measure => simp; omega
    · have h2z : ¬ (2 : Int) ≤ (n' : Int) := by omega
      have HE := Lib.hid (show frs b = (L, (if r = [] then 0 else 6), (frs r).2.2) by
        have h := frs_short2 (l := r) (by rw [← HN.out]; omega)
        rw [HR.out, h.1]
        simp only [List.append_nil]
        rw [← h.2])
      by_cases h0 : n' = 0
      · have hz : ¬ (0 : Int) < (n' : Int) := by omega
        have hr0 : r = [] := List.eq_nil_of_length_eq_zero (by rw [← HN.out]; exact h0)
        rw [if_pos hr0] at HE
        clear h0
        go_wp2_with fail
        refine bodyPost_ret (v := .tuple #[.slice a4 n4 c4, .int .i64 0]) (by simp [results, Try.results8, go_sem, *]) rfl (by first | exact ⟨a4, n4, c4, cs, by rw [HE.out]; rfl, HO.out, by rw [HE.out]; exact HF.out, HW.out⟩ | exact ⟨a4, n4, c4, by rw [HE.out]; rfl, cs, HO.out, by rw [HE.out]; exact HF.out, HW.out⟩)
      · have hz : (0 : Int) < (n' : Int) := by omega
        have hr0 : ¬ r = [] := by intro e; rw [e] at HN; exact h0 HN.out
        rw [if_neg hr0] at HE
        clear h0 hr0
        go_wp2_with fail
        refine bodyPost_ret (v := .tuple #[.slice a4 n4 c4, .int .i64 6]) (by simp [results, Try.results8, go_sem, *]) rfl (by first | exact ⟨a4, n4, c4, cs, by rw [HE.out]; rfl, HO.out, by rw [HE.out]; exact HF.out, HW.out⟩ | exact ⟨a4, n4, c4, by rw [HE.out]; rfl, cs, HO.out, by rw [HE.out]; exact HF.out, HW.out⟩)
end Go.Proofs.Ythoajnpdnagdbaa.Fr
