/-
  Contract of Feed of package frame: the frames that are whole now, of new memory; what is left is kept. All else is left as it was.
-/
import Derived.Test.YthoajnpdnagdbaaFrFdS
namespace Go.Proofs.Ythoajnpdnagdbaa.Fr
open Go.RowKit Go.Proofs.Ythoajnpdnagdbaa.Fl Go.Proofs.Ythoajnpdnagdbaa.Wi
set_option linter.unusedVariables false
set_option linter.unusedSimpArgs false

def errF (k : Nat) : Value := if k = 5 then .iface 34 (.int .i64 5) else .nilIface
/-- What Feed tells. -/
def FeedEnd (p : Nat) (v : Value) (S : Nat → Prop) (x : List (List UInt8) × Nat × List UInt8) (w w' : World) (e : Ending) : Prop :=
  ∃ ta tn tc cs v', e = .returned (.tuple #[.slice ta tn tc, errF x.2.1]) ∧ OS w' w.heap.size (.slice ta tn tc) cs ∧ FsV w' (TX w w' p v v' (.slice ta tn tc)) cs x.1 ∧ FrAt w' p v' (if x.2.1 = 5 then [] else x.2.2) (x.2.1 == 5) ∧ Fed w w' p v v'
theorem FdS.ends {w wr : World} {p : Nat} {v v' : Value} {S : Nat → Prop} {u' r : List UInt8} {lg : Bool} {ta : Option Addr} {tn tc : Nat} {cs : List Value} {L : List (List UInt8)} {a : Option Addr} {c k : Nat} {s : List UInt8} {x : List (List UInt8) × Nat × List UInt8} {e : Ending} (h : FdS w p v S wr v' u' lg (.slice ta tn tc) cs L a c r) (hx : x = (L, k, s)) (he : e = .returned (.tuple #[.slice ta tn tc, errF k])) (hu : u' = if k = 5 then [] else s) (hl : lg = (k == 5)) : FeedEnd p v S x w wr e := by
  subst hx
  subst hu
  subst hl
  exact ⟨ta, tn, tc, cs, v', he, h.row, h.frm, h.rd, h.fed⟩
theorem take_len {m u b n : Nat} (hn : n = min (m - u) b) : n ≤ b ∧ (u + n < m → n = b) ∧ (u ≤ m → u + n ≤ m) ∧ (m ≤ u → n = 0) := by omega
theorem drop_take (r : List UInt8) (n : Nat) (u : List UInt8) : (u ++ r.take n) ++ r.drop n = u ++ r := by rw [List.append_assoc, List.take_append_drop]
def FdR (p : Nat) (v : Value) (S : Nat → Prop) (u b : List UInt8) (w : World) (v1 v6 : Value) (wr : World) : Prop :=
  ∃ (r : List UInt8) (a : Option Addr) (n c : Nat) (ta : Option Addr) (tn tc : Nat) (cs : List Value) (L : List (List UInt8)) (v' : Value) (u' : List UInt8), v1 = .slice a n c ∧ v6 = .slice ta tn tc ∧ Hid (n = r.length) ∧ Hid (FdS w p v S wr v' u' false (.slice ta tn tc) cs L a c r) ∧ Hid (frs (u ++ b) = (L ++ (frs (u' ++ r)).1, (frs (u' ++ r)).2)) ∧ Hid (Sh u') ∧ Hid (cs.length + (u' ++ r).length ≤ 1000000)
set_option maxHeartbeats 4000000
set_option maxRecDepth 100000
theorem feed_no (p : Nat) (v : Value) (u : List UInt8) (a : Option Addr) (c : Nat) (b : List UInt8) {S : Nat → Prop} (w : World) (hF : FrAt w p v u false) (hS : Sh u) (hB : BytesAt w S a b) (hc : b.length ≤ c) (hSS : ∀ g, S g → g < w.heap.size ∧ g ≠ p ∧ some g ≠ v.ownBlock) (hl : (u ++ b).length ≤ 1000000) :
    Calls Try.prog 7 #[.pointer (some ⟨p, 0, none⟩), .slice a b.length c] w fun e w' => FeedEnd p v S (frs (u ++ b)) w w' e := by
  obtain ⟨n, hn⟩ : ∃ n, n = b.length := ⟨_, rfl⟩
  have F0 := Lib.hid (show FdS w p v S w v u false (.slice none 0 0) [] [] a c b from ⟨hB, hc, OS.nil _ _, FsV.nil _ _, hF, Fed.refl _ _ _, (fun k _ e => by cases e), hSS, hF.lt⟩)
  have HN := Lib.hid hn
  have HS := Lib.hid hS
  have HL := Lib.hid hl
  rw [← hn]
  clear hF hS hB hc hSS hl hn
  go_enter Try.func7, Try.ntmps7
  go_wp2_with fail
  go_loopw [1, 6] (fun v1 v6 wr => FdR p v S u b w v1 v6 wr) (fun v1 _ _ => match v1 with | .slice _ n _ => n | _ => 0)
  case atStart => exact ⟨b, a, n, c, none, 0, 0, [], [], v, u, rfl, rfl, HN, F0, Lib.hid (by simp), HS, Lib.hid (by simpa using HL.out)⟩
  case round =>
    clear F0 HN HS HL
    obtain ⟨r, a', n', c', ta, tn, tc, cs, L, v', u', rfl, rfl, HN, F, HR, HS, HC⟩ := hrel
    obtain ⟨c0, c1, f0, f1⟩ := F.out.rd.cells
    obtain ⟨m1, hm1⟩ : ∃ m1, m1 = min (2 - u'.length) r.length := ⟨_, rfl⟩
    have T1 := Lib.hid (take_len hm1)
    have C1 := Lib.hid (take_any p 2 (by omega) v' u' false a' c' r m1 hm1 F.out.cap wr F.out.rd F.out.bytes (by have := HC.out; omega))
    rw [← HN.out] at C1
    clear hm1
    go_wp2_with fail
    refine Calls.mono C1.out ?_
    rintro e w1 ⟨rfl, v1, hF1, hd1⟩
    have F1 := Lib.hid (F.out.took hF1 hd1 T1.out.1)
    clear hF1 hd1 c0 c1 f0 f1
    obtain ⟨u1, hu1⟩ : ∃ u1, u1 = u' ++ r.take m1 := ⟨_, rfl⟩
    obtain ⟨r1, hr1⟩ : ∃ r1, r1 = r.drop m1 := ⟨_, rfl⟩
    have E1 := Lib.hid (show u1 ++ r1 = u' ++ r by rw [hu1, hr1]; exact drop_take _ _ _)
    rw [← hu1, ← hr1] at F1
    have HU1 := Lib.hid (show u1.length = u'.length + m1 by rw [hu1, List.length_append, List.length_take]; have := T1.out.1; omega)
    have HR1 := Lib.hid (show r1.length = n' - m1 by rw [hr1, List.length_drop, HN.out])
    obtain ⟨c0, c1, f0, f1⟩ := F1.out.rd.cells
    obtain ⟨a1, k1, hsh, hk1, hgv, hcl⟩ := F1.out.rd.2.shape
    subst hsh
    obtain ⟨n1, hn1⟩ : ∃ n1, n1 = u1.length := ⟨_, rfl⟩
    rw [← hn1] at c0 F1
    have HN1 := Lib.hid hn1
    have EU := Lib.hid hu1
    clear hu1 hr1 hn1
    by_cases h2 : n1 < 2
    · have h2z : (n1 : Int) < 2 := by omega
      have hm : m1 = r.length := T1.out.2.1 (by have := HU1.out; have := HN1.out; omega)
      have hr0 : r1 = [] := List.eq_nil_of_length_eq_zero (by have := HR1.out; have := HN.out; omega)
      have HE := Lib.hid (show frs (u ++ b) = (L, (if u1 = [] then 0 else 6), u1) by
        rw [HR.out, ← E1.out, hr0, List.append_nil, frs_short3 (by rw [← HN1.out]; exact h2)]
        simp)
      clear hm hr0 h2 hcl hgv
      go_wp2_with fail
      refine bodyPost_ret (v := .tuple #[.slice ta tn tc, .nilIface]) (by simp [results, Try.results7, go_sem, *]) rfl ?_
      by_cases hu0 : u1 = []
      · exact F1.out.ends (k := 0) (s := u1) (by rw [HE.out, if_pos hu0]) rfl rfl rfl
      · exact F1.out.ends (k := 6) (s := u1) (by rw [HE.out, if_neg hu0]) rfl rfl rfl
    · have h2z : ¬ (n1 : Int) < 2 := by omega
      obtain ⟨x, y, s, hu1⟩ := two_of (show 2 ≤ u1.length by rw [← HN1.out]; omega)
      obtain ⟨gv, rfl, -, -⟩ := hgv (by rw [hu1]; simp)
      have d0 := hcl gv rfl 0 (by rw [hu1]; simp)
      have d1 := hcl gv rfl 1 (by rw [hu1]; simp)
      subst hu1
      simp only [List.getElem_cons_zero, List.getElem_cons_succ] at d0 d1
      obtain ⟨x0, hx0⟩ : ∃ x0 : Nat, x0 = x.toNat := ⟨_, rfl⟩
      obtain ⟨y0, hy0⟩ : ∃ y0 : Nat, y0 = y.toNat := ⟨_, rfl⟩
      rw [← hx0] at d0
      rw [← hy0] at d1
      have hx256 : x0 < 256 := by rw [hx0]; exact x.toNat_lt
      have hy256 : y0 < 256 := by rw [hy0]; exact y.toNat_lt
      obtain ⟨k, hk⟩ : ∃ k, k = 256 * x0 + y0 := ⟨_, rfl⟩
      have HK := Lib.hid (show k = 256 * x.toNat + y.toNat by rw [hk, hx0, hy0])
      have Q1 := Lib.hid (show IntKind.i64.wrap (x0 : Int) = (x0 : Int) from IntWalk.i64_in _ (by omega))
      have Q2 := Lib.hid (show IntKind.i64.wrap (y0 : Int) = (y0 : Int) from IntWalk.i64_in _ (by omega))
      have Q3 := Lib.hid (show IntKind.i64.wrap ((x0 : Int) * 256) = (x0 : Int) * 256 from IntWalk.i64_in _ (by omega))
      have Q4 := Lib.hid (show bits .or .i64 ((x0 : Int) * 256) (y0 : Int) = (k : Int) by rw [or_head hx256 hy256, hk])
      have hk65 : k < 65536 := by omega
      have H2 := Lib.hid h2
      clear hcl hx0 hy0 hk hgv h2
      obtain ⟨w2, hw2⟩ : ∃ W0 : World, W0 = w1.drew := ⟨_, rfl⟩
      have HW2 := Lib.hid hw2
      by_cases hk4 : (4000 : Int) < (k : Int)
      · have HE := Lib.hid (show frs (u ++ b) = (L, 5, (frs (u' ++ r)).2.2) by
          have h := frs_long (a := x) (b := y) (r := s ++ r1) (by rw [← HK.out]; omega)
          rw [HR.out, ← E1.out]
          simp only [List.cons_append]
          rw [h]
          simp)
        have q1 := Q1.out
        have q2 := Q2.out
        have q3 := Q3.out
        have q4 := Q4.out
        have F3 := Lib.hid F1.out.lost
        clear hw2
        go_wp2_with fail
        go_region
        all_goals
          clear q1 q2 q3 q4
          go_wp2_with fail
          refine bodyPost_ret (v := .tuple #[.slice ta tn tc, .iface 34 (.int .i64 5)]) (by simp [results, Try.results7, go_sem, *]) rfl ?_
          exact F3.out.drew.ends (k := 5) HE.out rfl rfl rfl
      · have F2 := Lib.hid (show FdS w p v S w2 (.slice (some ⟨gv, 0, none⟩) n1 k1) (x :: y :: s) false (.slice ta tn tc) cs L (rest a' c' m1) (c' - m1) r1 by rw [hw2]; exact F1.out.drew)
        have hk4n : k ≤ 4000 := by omega
        obtain ⟨m2, hm2⟩ : ∃ m2, m2 = min ((2 + k) - (x :: y :: s).length) r1.length := ⟨_, rfl⟩
        have T2 := Lib.hid (take_len hm2)
        have C2 := Lib.hid (take_any p (2 + k) (by omega) _ (x :: y :: s) false (rest a' c' m1) (c' - m1) r1 m2 hm2 F2.out.cap w2 F2.out.rd F2.out.bytes (by have := HC.out; have h := congrArg List.length E1.out; rw [h]; omega))
        rw [HR1.out, show ((2 + k : Nat) : Int) = 2 + (k : Int) by omega] at C2
        have hn' : n' - m1 ≤ 1000000 := by have := HC.out; have := HN.out; rw [List.length_append] at *; omega
        have q1 := Q1.out
        have q2 := Q2.out
        have q3 := Q3.out
        have q4 := Q4.out
        clear hw2 hm2
        go_wp2_with fail
        go_region
        all_goals
          clear q1 q2 q3 q4 c0 c1 f0 f1 d0 d1
          rw [← HW2.out]
          go_wp2_with fail
          refine Calls.mono C2.out ?_
          rintro e w3 ⟨rfl, v3, hF3, hd3⟩
          have F3 := Lib.hid (F2.out.took hF3 hd3 T2.out.1)
          clear hF3 hd3
          obtain ⟨s2, hs2⟩ : ∃ s2, s2 = s ++ r1.take m2 := ⟨_, rfl⟩
          obtain ⟨r2, hr2⟩ : ∃ r2, r2 = r1.drop m2 := ⟨_, rfl⟩
          have E2 := Lib.hid (show (x :: y :: s2) ++ r2 = u' ++ r by rw [hs2, hr2, ← E1.out]; simp only [List.cons_append]; rw [drop_take])
          rw [List.cons_append, List.cons_append, ← hs2, ← hr2] at F3
          have HS2 := Lib.hid (show s2.length = s.length + m2 by rw [hs2, List.length_append, List.length_take]; have := T2.out.1; omega)
          have HR2 := Lib.hid (show r2.length = n' - m1 - m2 by rw [hr2, List.length_drop, HR1.out])
          obtain ⟨c0, c1, f0, f1⟩ := F3.out.rd.cells
          obtain ⟨a3, k3, hsh, hk3, hgv3, hcl3⟩ := F3.out.rd.2.shape
          subst hsh
          obtain ⟨n3, hn3⟩ : ∃ n3, n3 = s2.length + 2 := ⟨_, rfl⟩
          rw [show (x :: y :: s2).length = n3 by rw [hn3]; rfl] at c0 F3 hk3
          have HN3 := Lib.hid hn3
          clear hs2 hr2 hn3 hcl3 hgv3
          by_cases h3 : n3 < 2 + k
          · have h3z : (n3 : Int) < 2 + (k : Int) := by omega
            have hm : m2 = r1.length := T2.out.2.1 (by have := HS2.out; have := HN3.out; simp only [List.length_cons]; omega)
            have hr0 : r2 = [] := List.eq_nil_of_length_eq_zero (by have := HR2.out; have := HR1.out; omega)
            have HE := Lib.hid (show frs (u ++ b) = (L, 6, x :: y :: s2) by
              rw [HR.out, ← E2.out, hr0, List.append_nil, frs_part (by rw [← HK.out]; omega) (by rw [← HK.out]; have := HN3.out; omega)]
              simp)
            clear hm hr0 h3
            go_wp2_with fail
            refine bodyPost_ret (v := .tuple #[.slice ta tn tc, .nilIface]) (by simp [results, Try.results7, go_sem, *]) rfl ?_
            exact F3.out.ends (k := 6) (s := x :: y :: s2) HE.out rfl rfl rfl
          · have h3z : ¬ (n3 : Int) < 2 + (k : Int) := by omega
            have hsh : (x :: y :: s).length ≤ 2 + k ∧ 0 < m1 + m2 ∧ s2.length = k := by
              have h1 := T1.out
              have h2' := T2.out
              have h4 := HU1.out
              have h5 := HS2.out
              have h6 := HN3.out
              simp only [List.length_cons] at h2' h4 ⊢
              by_cases hu2 : u'.length < 2
              · have : u'.length + m1 ≤ 2 := h1.2.2.1 (by omega)
                have := h2'.2.2.1 (by omega)
                omega
              · have hm0 : m1 = 0 := h1.2.2.2 (by omega)
                have he : u' = x :: y :: s := by
                  have := EU.out
                  rw [hm0, List.take_zero, List.append_nil] at this
                  exact this.symm
                have hS := HS.out
                rw [he] at hS
                have := hS.len
                rw [← HK.out] at this
                have := h2'.2.2.1 (by omega)
                omega
            obtain ⟨-, hm0, hs2k⟩ := hsh
            have HE := Lib.hid (show frs (u ++ b) = ((L ++ [s2]) ++ (frs ([] ++ r2)).1, (frs ([] ++ r2)).2) by
              rw [HR.out, ← E2.out, List.cons_append, List.cons_append, frs_whole (by rw [← HK.out]; omega) (by rw [← HK.out, List.length_append]; omega), ← HK.out, ← hs2k]
              simp)
            have q5 := (show ∀ W, (Instr.slice 26 (.slice a3 n3 k3) (some (.int .i64 2)) none none).run Try.prog W = .ok (.slice (rest a3 k3 2) (n3 - 2) (k3 - 2)) W from fun W => run_rest a3 n3 k3 2 (by have := HN3.out; omega) W)
            obtain ⟨w4, hw4⟩ : ∃ W0 : World, W0 = w3.alloc (.cells #[.slice (rest a3 k3 2) (n3 - 2) (k3 - 2)] 26) := ⟨_, rfl⟩
            have O4 := Lib.hid (show OS w4 w.heap.size (.slice ta tn tc) cs by rw [hw4]; exact F3.out.row.later (below_alloc _ _))
            have S4 := Lib.hid (show w.heap.size ≤ w4.heap.size by rw [hw4]; have := F3.out.fed.size; simp; omega)
            have N4 := Lib.hid (show CellsAt w4 (fun _ => True) (some ⟨w3.heap.size, 0, none⟩) [.slice (rest a3 k3 2) (n3 - 2) (k3 - 2)] by rw [hw4]; exact one_new w3 _ _)
            have HW4 := Lib.hid hw4
            have HM0 := Lib.hid hm0
            have HSK := Lib.hid hs2k
            clear hw4 hm0 hs2k h3
            go_wp2_with (at_builtin; rw [← HW4.out]; refine wpList_append_slices rfl _ _ rfl w.heap.size _ cs rfl O4.out _ 1 1 _ rfl rfl N4.out (by intro u hu; simp at hu; rw [hu]; rfl) (by have := HC.out; simp; omega) S4.out ?_; intro v' w5 hrow5 hg5 hat5; obtain ⟨a5, n5, c5, e5⟩ := own_slice hrow5; subst e5
                         have F5 := Lib.hid (F3.out.told (by simp) HW4.out hrow5 hg5 hat5)
                         have P5 := Lib.hid (show w5.heap[p]? = w3.heap[p]? by rw [hg5.block p (by rw [HW4.out]; have := F3.out.rd.lt; simp; omega) (fun e => by have := (F3.out.row.lt e.symm).1; have := F3.out.plt; omega), HW4.out, Below.heap_alloc _ _ _ F3.out.rd.lt])
                         have d5 := (World.cell?_of_block (w := w3) (w' := w5) (a := ⟨p, 0, none⟩) P5.out).trans c0
                         have g5 := (World.frozen?_of_block (w := w3) (w' := w5) (a := ⟨p, 0, none⟩) P5.out).trans f0
                         clear hrow5 hg5 hat5 c0 c1 f0 f1)
            go_roundw
            case rel => exact ⟨r2, rest (rest a' c' m1) (c' - m1) m2, n' - m1 - m2, c' - m1 - m2, a5, n5, c5, cs ++ [.slice (rest a3 k3 2) (n3 - 2) (k3 - 2)], L ++ [s2], .slice none 0 0, [], rfl, rfl, Lib.hid HR2.out.symm, F5, HE, Lib.hid Sh.nil, Lib.hid (by have := HC.out; have := congrArg List.length E2.out; simp only [List.length_append, List.length_cons, List.length_nil] at *; omega)⟩
            case measure => have := HM0.out; have := T1.out.1; have := T2.out.1; have := HN.out; have := HR1.out; simp; omega
end Go.Proofs.Ythoajnpdnagdbaa.Fr
