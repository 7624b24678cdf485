/-
  Contracts of and, or of package filter's reader. Memory that was there is left as it was, but for what the reader has left.
-/
import Derived.Test.YtjffnjiggcfhcaaDoorMb12
namespace Go.Proofs.YtjffnjiggcfhcaaDoor.Fl
open Go.RowKit Go.Proofs.YtjffnjiggcfhcaaDoor.Tk
set_option linter.unusedVariables false
set_option linter.unusedSimpArgs false

def QN (f : Flt) : Prop := (f.kind = 1 ∨ f.kind = 2) → f.parts ≠ []
theorem leaf_kind {ts : List Tc} {f : Flt} {r : List Tc} (h : leafP ts = some (f, r)) : 4 ≤ f.kind := by
  match ts, h with
  | t :: l, h =>
    rw [show leafP (t :: l) = if t.kind = 1 then _ else none from rfl] at h
    repeat' split at h
    all_goals first | (cases h; done) | (cases h; exact (by decide : (4 : Int) ≤ 6)) | (cases h; exact (by decide : (4 : Int) ≤ 5)) | (cases h; exact (by decide : (4 : Int) ≤ 4))
theorem run_enter {f : FuncId} {fn : Func} {c : Code} (hf : Tryd.prog.funcs[f]? = some fn) (hname : (fn.name == "runtime.NumGoroutine") = false) (hb : fn.body = some c) (xs : Array Value) (w : World) : Sem.run Tryd.prog (callFunc f xs) w = .ok (.enter f xs) w := by
  have h1 : fn.name ≠ "runtime.NumGoroutine" := by simpa using hname
  simp [callFunc, hf, h1, hb]
theorem add_ne {f x : Flt} (h : f.parts ≠ []) : (add f x).parts ≠ [] := by
  unfold add
  split
  · intro e
    exact h (List.append_eq_nil_iff.1 e).1
  · intro e
    exact h (List.append_eq_nil_iff.1 e).1
theorem tail_ne {w : List UInt8} {sub : List Tc → Option (Flt × List Tc)} : ∀ (n : Nat) (acc f : Flt) (ts r : List Tc), acc.parts ≠ [] → tailP w sub n acc ts = some (f, r) → f.parts ≠ []
  | 0, _, _, _, _, _, h => by cases h
  | n + 1, acc, f, ts, r, ha, h => by
    rw [tailP] at h
    split at h
    · cases h; exact ha
    · split at h
      · cases h
      · exact tail_ne n _ f _ r (add_ne ha) h
theorem chain_QN {w : List UInt8} {k : Int} {sub : List Tc → Option (Flt × List Tc)} (hk : k = 1 ∨ k = 2) (hs : ∀ l x r, sub l = some (x, r) → QN x) (l : List Tc) (f : Flt) (r : List Tc) (h : chainP w k sub l = some (f, r)) : QN f := by
  rw [chainP] at h
  split at h
  · cases h
  · rename_i x r1 hx
    have hq := hs _ _ _ hx
    split at h
    · cases h; exact hq
    · refine fun _ => tail_ne _ _ f _ r ?_ h
      rw [wrap_one]
      intro e
      have hp : 0 < (partsOf k x).length := partsOf_pos (fun e2 => hq (by omega))
      rw [show partsOf k x = [] from e] at hp
      simp at hp
theorem not_QN : ∀ (n : Nat) (l : List Tc) (f : Flt) (r : List Tc), notP n l = some (f, r) → QN f
  | 0, _, _, _, h => by cases h
  | n + 1, l, f, r, h => by
    rw [notP] at h
    split at h
    · split at h
      · cases h
      · cases h
        exact fun h => by rcases h with h | h <;> cases h
    · split at h
      · split at h
        · cases h
        · rename_i f1 r2 hc
          split at h
          · cases h
          · cases h
            exact chain_QN (Or.inr rfl) (chain_QN (Or.inl rfl) (not_QN n)) _ _ _ hc
      · split at h
        · cases h
          exact fun h => by rcases h with h | h <;> cases h
        · have := leaf_kind h
          exact fun h => by omega
/-- What a part of the reader tells, told with the memory that the caller has made ahead. -/
theorem RdEnd.up {res : Option (Flt × List Tc)} {ts : List Tok} {p z : Nat} {w w1 w2 : World} {e : Ending} (h : RdEnd res ts p z w1 w2 e) (h1 : w.grownBy w1 (some p)) : w.grownBy w2 (some p) := h1.trans h.1
/-- Contract of a part of the reader at n: of fewer tokens than n. -/
def RdOk (F : Nat) (n p z : Nat) (sub : List Tc → Option (Flt × List Tc)) : Prop :=
  ∀ ts : List Tok, (∀ t ∈ ts, TG t) → ts.length ≤ 600 → ts.length < n → ∀ W, RdAt W p z ts → Calls Tryd.prog F #[.pointer (some ⟨p, 0, none⟩)] W fun e w' => RdEnd (sub (ts.map core)) ts p z W w' e
set_option maxHeartbeats 2000000 in
set_option maxRecDepth 100000 in
theorem and_of (n p z : Nat) (hz : z ≤ p) (hsub : RdOk 38 n p z (notP n)) : RdOk 24 n p z (chainP wAnd 1 (notP n)) := by
  intro ts hg hl hn w hR
  have hp : p < w.heap.size := hR.lt
  have hpne : ¬ w.heap.size = p := by omega
  obtain ⟨w1, hw1⟩ : ∃ v, v = w.alloc (.cells #[.int .i64 0, .string ⟨#[]⟩, .string ⟨#[]⟩, .slice none 0 0, .slice none 0 0] 25) := ⟨_, rfl⟩
  have HW := Lib.hid hw1
  have HW1 := Lib.hid (show w1.heap.size = w.heap.size + 1 by rw [hw1]; simp)
  have G1 := Lib.hid (show w.grownBy w1 (some p) by rw [hw1]; exact gr_alloc (gr_refl _ _) _)
  have X1 := Lib.hid (show Rw w1 w.heap.size #[.int .i64 0, .string ⟨#[]⟩, .string ⟨#[]⟩, .slice none 0 0, .slice none 0 0] by rw [hw1]; exact Rw.new ..)
  have CJ := Lib.hid (joined_any 38 (run_enter Tryd.func38 (by kernel_rfl) (by first | rfl | kernel_rfl)) 1 ⟨wAnd.toArray⟩ (fun t h => word_kd (s := wAnd) (by decide) (by decide) t h) (by decide) (notP n) (not_con n) (fun l x r h e => not_QN n l x r h (by omega)) p z hz n hsub ts hg hl hn w1 (by rw [hw1]; exact hR.alloc hz _))
  clear hw1 hR hsub hg hl hn
  go_enter Tryd.func24, Tryd.ntmps24
  go_wp2_with fail
  rw [← HW.out]
  refine Calls.mono CJ.out ?_
  rintro e w2 hE
  have G2 := Lib.hid (hE.up G1.out)
  have X2 := Lib.hid (X1.out.gr hE.1 hpne)
  obtain ⟨hg2, ⟨hn, k0, s0, o0, a0, n0, c0, b0, m0, d0, rfl⟩ | ⟨f, r, a, c, b, d, hy, rfl, hr2, hm2, ho2⟩⟩ := hE
  · have HN := Lib.hid hn
    clear hg2 hn
    go_wp2_with (skip; (refine wpList_store_rowTo rfl _ _ _ rfl rfl w.heap.size _ rfl rfl _ #[.int .i64 0, .string ⟨#[]⟩, .string ⟨#[]⟩, .slice none 0 0, .slice none 0 0] (by first | exact X2.out | exact Rw.alloc X2.out _ | exact Rw.alloc2 X2.out _ _ | exact Rw.alloc3 X2.out _ _ _) (by kernel_rfl) rfl (by simp [Value.oneCell']) ?_))
    refine ret5 Tryd.results24 rfl rfl (X2.out.set _).box rfl ?_
    exact ⟨gr_row G2.out (Nat.le_refl _) _, Or.inl ⟨HN.out, _, _, _, _, _, _, _, _, _, rfl⟩⟩
  · have HY := Lib.hid hy
    have HR2 := Lib.hid hr2
    have HM2 := Lib.hid hm2
    have HO2 := Lib.hid ho2
    obtain ⟨sn, esn, _⟩ := bs_bytes f.name
    obtain ⟨so, eso, _⟩ := bs_bytes f.op
    have HFV := Lib.hid (And.intro esn eso)
    rw [esn, eso]
    clear hg2 hy hr2 hm2 ho2 esn eso
    go_wp2_with (skip; (refine wpList_store_rowTo rfl _ _ _ rfl rfl w.heap.size _ rfl rfl _ #[.int .i64 0, .string ⟨#[]⟩, .string ⟨#[]⟩, .slice none 0 0, .slice none 0 0] (by first | exact X2.out | exact Rw.alloc X2.out _ | exact Rw.alloc2 X2.out _ _ | exact Rw.alloc3 X2.out _ _ _) (by kernel_rfl) rfl (by simp [Value.oneCell']) ?_))
    refine ret5 Tryd.results24 rfl rfl (X2.out.set _).box rfl ?_
    exact ⟨gr_row G2.out (Nat.le_refl _) _, Or.inr ⟨f, r, a, c, b, d, HY.out, by rw [HFV.out.1, HFV.out.2]; rfl, rd_row HR2.out (fun e => hpne e) (by omega) _, HM2.out, own_row HO2.out (by have := HW1.out; omega) _⟩⟩
set_option maxHeartbeats 2000000 in
set_option maxRecDepth 100000 in
theorem or_of (n p z : Nat) (hz : z ≤ p) (hsub : RdOk 24 n p z (chainP wAnd 1 (notP n))) : RdOk 13 n p z (chainP wOr 2 (chainP wAnd 1 (notP n))) := by
  intro ts hg hl hn w hR
  have hp : p < w.heap.size := hR.lt
  have hpne : ¬ w.heap.size = p := by omega
  obtain ⟨w1, hw1⟩ : ∃ v, v = w.alloc (.cells #[.int .i64 0, .string ⟨#[]⟩, .string ⟨#[]⟩, .slice none 0 0, .slice none 0 0] 25) := ⟨_, rfl⟩
  have HW := Lib.hid hw1
  have HW1 := Lib.hid (show w1.heap.size = w.heap.size + 1 by rw [hw1]; simp)
  have G1 := Lib.hid (show w.grownBy w1 (some p) by rw [hw1]; exact gr_alloc (gr_refl _ _) _)
  have X1 := Lib.hid (show Rw w1 w.heap.size #[.int .i64 0, .string ⟨#[]⟩, .string ⟨#[]⟩, .slice none 0 0, .slice none 0 0] by rw [hw1]; exact Rw.new ..)
  have CJ := Lib.hid (joined_any 24 (run_enter Tryd.func24 (by kernel_rfl) (by first | rfl | kernel_rfl)) 2 ⟨wOr.toArray⟩ (fun t h => word_kd (s := wOr) (by decide) (by decide) t h) (by decide) (chainP wAnd 1 (notP n)) (chain_con (not_con n)) (fun l x r h e => chain_QN (Or.inl rfl) (not_QN n) l x r h (by omega)) p z hz n hsub ts hg hl hn w1 (by rw [hw1]; exact hR.alloc hz _))
  clear hw1 hR hsub hg hl hn
  go_enter Tryd.func13, Tryd.ntmps13
  go_wp2_with fail
  rw [← HW.out]
  refine Calls.mono CJ.out ?_
  rintro e w2 hE
  have G2 := Lib.hid (hE.up G1.out)
  have X2 := Lib.hid (X1.out.gr hE.1 hpne)
  obtain ⟨hg2, ⟨hn, k0, s0, o0, a0, n0, c0, b0, m0, d0, rfl⟩ | ⟨f, r, a, c, b, d, hy, rfl, hr2, hm2, ho2⟩⟩ := hE
  · have HN := Lib.hid hn
    clear hg2 hn
    go_wp2_with (skip; (refine wpList_store_rowTo rfl _ _ _ rfl rfl w.heap.size _ rfl rfl _ #[.int .i64 0, .string ⟨#[]⟩, .string ⟨#[]⟩, .slice none 0 0, .slice none 0 0] (by first | exact X2.out | exact Rw.alloc X2.out _ | exact Rw.alloc2 X2.out _ _ | exact Rw.alloc3 X2.out _ _ _) (by kernel_rfl) rfl (by simp [Value.oneCell']) ?_))
    refine ret5 Tryd.results13 rfl rfl (X2.out.set _).box rfl ?_
    exact ⟨gr_row G2.out (Nat.le_refl _) _, Or.inl ⟨HN.out, _, _, _, _, _, _, _, _, _, rfl⟩⟩
  · have HY := Lib.hid hy
    have HR2 := Lib.hid hr2
    have HM2 := Lib.hid hm2
    have HO2 := Lib.hid ho2
    obtain ⟨sn, esn, _⟩ := bs_bytes f.name
    obtain ⟨so, eso, _⟩ := bs_bytes f.op
    have HFV := Lib.hid (And.intro esn eso)
    rw [esn, eso]
    clear hg2 hy hr2 hm2 ho2 esn eso
    go_wp2_with (skip; (refine wpList_store_rowTo rfl _ _ _ rfl rfl w.heap.size _ rfl rfl _ #[.int .i64 0, .string ⟨#[]⟩, .string ⟨#[]⟩, .slice none 0 0, .slice none 0 0] (by first | exact X2.out | exact Rw.alloc X2.out _ | exact Rw.alloc2 X2.out _ _ | exact Rw.alloc3 X2.out _ _ _) (by kernel_rfl) rfl (by simp [Value.oneCell']) ?_))
    refine ret5 Tryd.results13 rfl rfl (X2.out.set _).box rfl ?_
    exact ⟨gr_row G2.out (Nat.le_refl _) _, Or.inr ⟨f, r, a, c, b, d, HY.out, by rw [HFV.out.1, HFV.out.2]; rfl, rd_row HR2.out (fun e => hpne e) (by omega) _, HM2.out, own_row HO2.out (by have := HW1.out; omega) _⟩⟩
end Go.Proofs.YtjffnjiggcfhcaaDoor.Fl
