/-
  Plain facts on filters and attributes: whether a filter holds. No program here.
-/
import Derived.Test.YtcajcmaldnmbjaaMl03
import Derived.Deep.RegionHeldLaw
import Derived.Test.YtcajcmaldnmbjaaMl02
import Derived.LaidEql
import Derived.WalkKit
import Derived.WalkSpells
import Derived.Below
import Derived.Lib.Hide
import Derived.Test.YtcajcmaldnmbjaaMl01
/-
  Contract of the document's answer one, where a text begins. Memory that was there is left as it was.
-/
namespace Go.Proofs.Ytcajcmaldnmbjaa.Tk
open Go.RowKit
set_option linter.unusedVariables false
set_option linter.unusedSimpArgs false

theorem inB_iff (d : UInt8) : inB d = (decide (32 ≤ d.toNat) && decide (d.toNat ≤ 126) && !(d.toNat == 34)) := rfl
end Go.Proofs.Ytcajcmaldnmbjaa.Tk
/-
  Contract of the document's answer one, where a sign begins, or nothing. Memory that was there is left as it was.
-/
namespace Go.Proofs.Ytcajcmaldnmbjaa.Tk
open Go.RowKit
set_option linter.unusedVariables false
set_option linter.unusedSimpArgs false

end Go.Proofs.Ytcajcmaldnmbjaa.Tk
/-
  Contract of the document's answer number: the number at a place of a text, and where it ends. Memory is left as it was.
-/
namespace Go.Proofs.Ytcajcmaldnmbjaa.Tk
open Go.RowKit
set_option linter.unusedVariables false
set_option linter.unusedSimpArgs false

/-- What has been read so far: its value, or that it is beyond 2^63. -/
def NumI (D : List UInt8) (k nn : Nat) (bb : Bool) : Prop := bb = decide (9223372036854775808 < decV (D.take k)) ∧ (bb = false → nn = decV (D.take k))
theorem NumI.start (D : List UInt8) : NumI D 0 0 false := ⟨rfl, fun _ => rfl⟩
theorem NumI.next {D : List UInt8} {k nn : Nat} {bb : Bool} {d : UInt8} (h : NumI D k nn bb) (hd : D[k]? = some d) (hg : dig d = true) :
    NumI D (k + 1) ((10 * nn + (d.toNat - 48)) % 18446744073709551616) (bb || decide (922337203685477580 < nn) || (decide (nn = 922337203685477580) && decide (56 < d.toNat))) := by
  simp only [dig, Bool.and_eq_true, decide_eq_true_eq] at hg
  have e : D.take (k + 1) = D.take k ++ [d] := by rw [List.take_add_one, hd]; rfl
  unfold NumI
  rw [e, decV_snoc]
  obtain ⟨h1, h2⟩ := h
  cases bb with
  | true =>
    have h3 := of_decide_eq_true h1.symm
    refine ⟨?_, fun h => by simp at h⟩
    have h5 : 9223372036854775808 < decV (D.take k) * 10 + (d.toNat - 48) := by omega
    rw [decide_eq_true h5]
    simp
  | false =>
    have h3 := of_decide_eq_false h1.symm
    have h4 := h2 rfl
    rw [← h4] at h3 ⊢
    refine ⟨?_, fun h => ?_⟩
    · rw [Bool.false_or, Bool.eq_iff_iff]
      simp only [Bool.or_eq_true, Bool.and_eq_true, decide_eq_true_eq]
      omega
    · simp only [Bool.false_or, Bool.or_eq_false_iff, Bool.and_eq_false_iff, decide_eq_false_iff_not] at h
      omega
/-- Between the rounds: so far k digits of D, which begins at f, have been read. -/
def NumR (D : List UInt8) (f : Nat) (w : World) (va vn vb : Value) (wr : World) : Prop :=
  ∃ (p k nn : Nat) (bb : Bool), va = .int .i64 (p : Nat) ∧ vn = .int .u64 (nn : Nat) ∧ vb = .bool bb ∧ Hid (p = f + k ∧ k ≤ D.length ∧ nn < 18446744073709551616) ∧
    Hid (∀ (j : Nat) (c : UInt8), j < k → D[j]? = some c → dig c = true) ∧ Hid (NumI D k nn bb) ∧ w = wr
theorem all_more {p : UInt8 → Bool} {l : List UInt8} {k : Nat} {c : UInt8} (h : ∀ (j : Nat) (c : UInt8), j < k → l[j]? = some c → p c = true) (hc : l[k]? = some c) (hp : p c = true) : ∀ (j : Nat) (c : UInt8), j < k + 1 → l[j]? = some c → p c = true := by
  intro j d hj hd
  by_cases e : j = k
  · subst e
    rw [hc] at hd
    cases hd
    exact hp
  · exact h j d (by omega) hd
/-- What the rows of digits come to. -/
theorem dec_one {l : List UInt8} {d : UInt8} (h0 : l.head? = some d) (h1 : l.length = 1) : decV l = d.toNat - 48 := by
  match l, h0, h1 with
  | [x], h0, _ =>
    simp at h0
    subst h0
    unfold decV
    rw [decA_cons, decA_nil]
    omega
theorem dec_pos {l : List UInt8} {d : UInt8} (h0 : l.head? = some d) (hd : 49 ≤ d.toNat) : 1 ≤ decV l := by
  match l, h0 with
  | x :: r, h0 =>
    simp at h0
    subst h0
    unfold decV
    rw [decA_cons]
    exact Nat.le_trans (by omega) (decA_ge r _)
theorem digs_mem {l : List UInt8} {d : UInt8} (h : (digs l).head? = some d) : dig d = true := take_run_all dig l d (List.mem_of_mem_head? h)

end Go.Proofs.Ytcajcmaldnmbjaa.Tk
/-
  Contract of the document's answer number behind a -: the number at a place of a text, and where it ends. Memory is left as it was.
-/
namespace Go.Proofs.Ytcajcmaldnmbjaa.Tk
open Go.RowKit
set_option linter.unusedVariables false
set_option linter.unusedSimpArgs false

end Go.Proofs.Ytcajcmaldnmbjaa.Tk
/-
  Contract of the document's answer one, where a number begins. Memory that was there is left as it was.
-/
namespace Go.Proofs.Ytcajcmaldnmbjaa.Tk
open Go.RowKit
set_option linter.unusedVariables false
set_option linter.unusedSimpArgs false

theorem numL_is {l : List UInt8} {x : Lx} (h : numL l = some x) : x.kind = 3 ∧ x.str = [] := by
  match l, h with
  | c :: r, h =>
    rw [numL_cons] at h
    split at h
    · split at h
      · cases h
      · have e := (Option.some.inj h).symm
        subst e
        exact ⟨rfl, rfl⟩
    · split at h
      · cases h
      · have e := (Option.some.inj h).symm
        subst e
        exact ⟨rfl, rfl⟩
end Go.Proofs.Ytcajcmaldnmbjaa.Tk
/-
  Contract of the document's answer one: the token at a place of a text, where it ends, and whether it is well. Memory that was there is left as it was.
-/
namespace Go.Proofs.Ytcajcmaldnmbjaa.Tk
open Go.RowKit
set_option linter.unusedVariables false

end Go.Proofs.Ytcajcmaldnmbjaa.Tk
/-
  What token.Cut answers at any text, in one; contracts of isName of package filter and of Name of the document's answer: is a text a name? Memory that was there is left as it was.
-/
namespace Go.Proofs.Ytcajcmaldnmbjaa.Fl
open Go.RowKit Go.Proofs.Ytcajcmaldnmbjaa.Tk
set_option linter.unusedVariables false
set_option linter.unusedSimpArgs false

theorem name_short {l : List UInt8} (h : nameB l = true) : l.length ≤ 20 ∧ 1 ≤ l.length := by
  have hx := name_lex h
  refine ⟨?_, (lex_size hx).1⟩
  match l, h, hx with
  | c :: r, h, hx =>
    rw [lex_cons] at hx
    split at hx
    · unfold nameL at hx
      split at hx
      · rename_i hr
        have e := Option.some.inj hx
        have e2 := congrArg Lx.size e
        simp only at e2
        omega
      · cases hx
    · split at hx
      · rw [numL_cons] at hx
        split at hx
        · split at hx
          · cases hx
          · have e := congrArg Lx.kind (Option.some.inj hx)
            simp only at e
            omega
        · split at hx
          · cases hx
          · have e := congrArg Lx.kind (Option.some.inj hx)
            simp only at e
            omega
      · split at hx
        · unfold textL at hx
          split at hx
          · have e := congrArg Lx.kind (Option.some.inj hx)
            simp only at e
            omega
          · cases hx
        · unfold signL at hx
          split at hx
          · have e := congrArg Lx.kind (Option.some.inj hx)
            simp only at e
            omega
          · split at hx
            · have e := congrArg Lx.kind (Option.some.inj hx)
              simp only at e
              omega
            · cases hx
/-- Is it the one token, a name, which is all of l? -/
def oneNm (l : List UInt8) : Option (List Tok) → Bool
  | some [t] => t.kind == 1 && t.str == l
  | _ => false
theorem name_cut (l : List UInt8) : nameB l = oneNm l (cutAt 0 l) := by
  cases h : nameB l with
  | true =>
    obtain ⟨ks, e, hc⟩ := cuts_of (name_lex h) rfl 0 [] stp_nil
    rw [List.append_nil, cutAt_nil] at hc
    rw [hc]
    have hl : ks.length = 1 := by
      have := congrArg List.length e
      simpa using this
    match ks, hl, e with
    | [t], _, e =>
      simp only [List.map_cons, List.map_nil, List.cons.injEq, and_true, core] at e
      have e1 := congrArg Tc.kind e
      have e2 := congrArg Tc.str e
      simp only at e1 e2
      simp [oneNm, e1, e2]
  | false =>
    symm
    cases hc : cutAt 0 l with
    | none => rfl
    | some ts =>
      match ts, hc with
      | [], _ => rfl
      | _ :: _ :: _, _ => rfl
      | [t], hc =>
        have hg := (cut_good l.length 0 l [t] (Nat.le_refl _) hc).1 (core t) (by simp)
        simp only [oneNm, Bool.and_eq_false_iff, beq_eq_false_iff_ne]
        by_cases hk : t.kind = 1
        · right
          intro hs
          have := hg.1 hk
          rw [show (core t).str = t.str from rfl, hs, h] at this
          cases this
        · exact Or.inl hk
theorem bytes_eq (s : ByteArray) (l : List UInt8) : ((⟨l.toArray⟩ : ByteArray) = s) ↔ l = s.data.toList := by
  obtain ⟨d⟩ := s
  obtain ⟨m⟩ := d
  simp
end Go.Proofs.Ytcajcmaldnmbjaa.Fl
/-
  Cells that are known stay known behind whatever only makes memory: lists of two to eight cells, at any addresses. No program here.
-/
namespace Go.Proofs.Ytcajcmaldnmbjaa.Kp
open Go.RowKit

variable {w W w1 : World} {N : Nat} {a0 a1 a2 a3 a4 a5 a6 a7 a8 a9 a10 a11 a12 a13 : Addr} {v0 v1 v2 v3 v4 v5 v6 v7 v8 v9 v10 v11 v12 v13 : Value}

theorem ends (hb : Below W.heap.size W w1) (h : N ≤ W.heap.size ∧ Below N w W) : N ≤ w1.heap.size ∧ Below N w w1 :=
  ⟨Nat.le_trans h.1 hb.size, h.2.trans (hb.mono h.1)⟩
theorem one {P P' : Prop} (hb : Below W.heap.size W w1) (f : P → P') (h : W.cell? a0 = some v0 ∧ P) : w1.cell? a0 = some v0 ∧ P' := ⟨cell_later hb h.1, f h.2⟩
theorem two {P P' : Prop} (hb : Below W.heap.size W w1) (f : P → P') (h : W.cell? a0 = some v0 ∧ W.cell? a1 = some v1 ∧ P) : w1.cell? a0 = some v0 ∧ w1.cell? a1 = some v1 ∧ P' := one hb (one hb f) h

theorem keep2 (hb : Below W.heap.size W w1) (h : W.cell? a0 = some v0 ∧ W.cell? a1 = some v1 ∧ N ≤ W.heap.size ∧ Below N w W) :
    w1.cell? a0 = some v0 ∧ w1.cell? a1 = some v1 ∧ N ≤ w1.heap.size ∧ Below N w w1 := two hb (ends hb) h
theorem keep4 (hb : Below W.heap.size W w1) (h : W.cell? a0 = some v0 ∧ W.cell? a1 = some v1 ∧ W.cell? a2 = some v2 ∧ W.cell? a3 = some v3 ∧ N ≤ W.heap.size ∧ Below N w W) :
    w1.cell? a0 = some v0 ∧ w1.cell? a1 = some v1 ∧ w1.cell? a2 = some v2 ∧ w1.cell? a3 = some v3 ∧ N ≤ w1.heap.size ∧ Below N w w1 := two hb (two hb (ends hb)) h
theorem keep6 (hb : Below W.heap.size W w1) (h : W.cell? a0 = some v0 ∧ W.cell? a1 = some v1 ∧ W.cell? a2 = some v2 ∧ W.cell? a3 = some v3 ∧ W.cell? a4 = some v4 ∧ W.cell? a5 = some v5 ∧ N ≤ W.heap.size ∧ Below N w W) :
    w1.cell? a0 = some v0 ∧ w1.cell? a1 = some v1 ∧ w1.cell? a2 = some v2 ∧ w1.cell? a3 = some v3 ∧ w1.cell? a4 = some v4 ∧ w1.cell? a5 = some v5 ∧ N ≤ w1.heap.size ∧ Below N w w1 := two hb (two hb (two hb (ends hb))) h
theorem keep8 (hb : Below W.heap.size W w1) (h : W.cell? a0 = some v0 ∧ W.cell? a1 = some v1 ∧ W.cell? a2 = some v2 ∧ W.cell? a3 = some v3 ∧ W.cell? a4 = some v4 ∧ W.cell? a5 = some v5 ∧ W.cell? a6 = some v6 ∧ W.cell? a7 = some v7 ∧ N ≤ W.heap.size ∧ Below N w W) :
    w1.cell? a0 = some v0 ∧ w1.cell? a1 = some v1 ∧ w1.cell? a2 = some v2 ∧ w1.cell? a3 = some v3 ∧ w1.cell? a4 = some v4 ∧ w1.cell? a5 = some v5 ∧ w1.cell? a6 = some v6 ∧ w1.cell? a7 = some v7 ∧ N ≤ w1.heap.size ∧ Below N w w1 := two hb (two hb (two hb (two hb (ends hb)))) h

/-- A new block of two cells; its number is b. -/
theorem fresh (W : World) (b : Nat) (e : W.heap.size = b) (x y : Value) (t : TypeId) : (W.alloc (.cells #[x, y] t)).cell? ⟨b, 0, none⟩ = some x ∧ (W.alloc (.cells #[x, y] t)).cell? ⟨b, 1, none⟩ = some y := by
  subst e; constructor <;> simp [go_sem]
theorem behind (W : World) (o : Obj) : Below W.heap.size W (W.alloc o) := (Below.refl _ _).alloc (Nat.le_refl _) _
theorem add0 (h : N ≤ W.heap.size ∧ Below N w W) (b : Nat) (e : W.heap.size = b) (x y : Value) (t : TypeId) :
    (W.alloc (.cells #[x, y] t)).cell? ⟨b, 0, none⟩ = some x ∧ (W.alloc (.cells #[x, y] t)).cell? ⟨b, 1, none⟩ = some y ∧ N ≤ (W.alloc (.cells #[x, y] t)).heap.size ∧ Below N w (W.alloc (.cells #[x, y] t)) :=
  ⟨(fresh W b e x y t).1, (fresh W b e x y t).2, ends (behind ..) h⟩
theorem add2 (h : W.cell? a0 = some v0 ∧ W.cell? a1 = some v1 ∧ N ≤ W.heap.size ∧ Below N w W) (b : Nat) (e : W.heap.size = b) (x y : Value) (t : TypeId) :
    (W.alloc (.cells #[x, y] t)).cell? a0 = some v0 ∧ (W.alloc (.cells #[x, y] t)).cell? a1 = some v1 ∧ (W.alloc (.cells #[x, y] t)).cell? ⟨b, 0, none⟩ = some x ∧ (W.alloc (.cells #[x, y] t)).cell? ⟨b, 1, none⟩ = some y
      ∧ N ≤ (W.alloc (.cells #[x, y] t)).heap.size ∧ Below N w (W.alloc (.cells #[x, y] t)) := two (behind ..) (fun h => add0 h b e x y t) h
theorem add4 (h : W.cell? a0 = some v0 ∧ W.cell? a1 = some v1 ∧ W.cell? a2 = some v2 ∧ W.cell? a3 = some v3 ∧ N ≤ W.heap.size ∧ Below N w W) (b : Nat) (e : W.heap.size = b) (x y : Value) (t : TypeId) :
    (W.alloc (.cells #[x, y] t)).cell? a0 = some v0 ∧ (W.alloc (.cells #[x, y] t)).cell? a1 = some v1 ∧ (W.alloc (.cells #[x, y] t)).cell? a2 = some v2 ∧ (W.alloc (.cells #[x, y] t)).cell? a3 = some v3
      ∧ (W.alloc (.cells #[x, y] t)).cell? ⟨b, 0, none⟩ = some x ∧ (W.alloc (.cells #[x, y] t)).cell? ⟨b, 1, none⟩ = some y
      ∧ N ≤ (W.alloc (.cells #[x, y] t)).heap.size ∧ Below N w (W.alloc (.cells #[x, y] t)) := two (behind ..) (two (behind ..) (fun h => add0 h b e x y t)) h
theorem add6 (h : W.cell? a0 = some v0 ∧ W.cell? a1 = some v1 ∧ W.cell? a2 = some v2 ∧ W.cell? a3 = some v3 ∧ W.cell? a4 = some v4 ∧ W.cell? a5 = some v5 ∧ N ≤ W.heap.size ∧ Below N w W) (b : Nat) (e : W.heap.size = b) (x y : Value) (t : TypeId) :
    (W.alloc (.cells #[x, y] t)).cell? a0 = some v0 ∧ (W.alloc (.cells #[x, y] t)).cell? a1 = some v1 ∧ (W.alloc (.cells #[x, y] t)).cell? a2 = some v2 ∧ (W.alloc (.cells #[x, y] t)).cell? a3 = some v3 ∧ (W.alloc (.cells #[x, y] t)).cell? a4 = some v4 ∧ (W.alloc (.cells #[x, y] t)).cell? a5 = some v5
      ∧ (W.alloc (.cells #[x, y] t)).cell? ⟨b, 0, none⟩ = some x ∧ (W.alloc (.cells #[x, y] t)).cell? ⟨b, 1, none⟩ = some y
      ∧ N ≤ (W.alloc (.cells #[x, y] t)).heap.size ∧ Below N w (W.alloc (.cells #[x, y] t)) := two (behind ..) (two (behind ..) (two (behind ..) (fun h => add0 h b e x y t))) h

/-- A draw moves no cell. -/
theorem drew8 (h : W.cell? a0 = some v0 ∧ W.cell? a1 = some v1 ∧ W.cell? a2 = some v2 ∧ W.cell? a3 = some v3 ∧ W.cell? a4 = some v4 ∧ W.cell? a5 = some v5 ∧ W.cell? a6 = some v6 ∧ W.cell? a7 = some v7 ∧ N ≤ W.heap.size ∧ Below N w W) :
    W.drew.cell? a0 = some v0 ∧ W.drew.cell? a1 = some v1 ∧ W.drew.cell? a2 = some v2 ∧ W.drew.cell? a3 = some v3 ∧ W.drew.cell? a4 = some v4 ∧ W.drew.cell? a5 = some v5 ∧ W.drew.cell? a6 = some v6 ∧ W.drew.cell? a7 = some v7 ∧ N ≤ W.drew.heap.size ∧ Below N w W.drew :=
  ⟨h.1, h.2.1, h.2.2.1, h.2.2.2.1, h.2.2.2.2.1, h.2.2.2.2.2.1, h.2.2.2.2.2.2.1, h.2.2.2.2.2.2.2.1, h.2.2.2.2.2.2.2.2.1, h.2.2.2.2.2.2.2.2.2.drew⟩
theorem end2 {p0 p1 p2 : Prop} (h : p0 ∧ p1 ∧ p2 ∧ Below N w W) : Below N w W := h.2.2.2
theorem end4 {p0 p1 p2 p3 p4 : Prop} (h : p0 ∧ p1 ∧ p2 ∧ p3 ∧ p4 ∧ Below N w W) : Below N w W := h.2.2.2.2.2
theorem end6 {p0 p1 p2 p3 p4 p5 p6 : Prop} (h : p0 ∧ p1 ∧ p2 ∧ p3 ∧ p4 ∧ p5 ∧ p6 ∧ Below N w W) : Below N w W := h.2.2.2.2.2.2.2
theorem end8 {p0 p1 p2 p3 p4 p5 p6 p7 p8 : Prop} (h : p0 ∧ p1 ∧ p2 ∧ p3 ∧ p4 ∧ p5 ∧ p6 ∧ p7 ∧ p8 ∧ Below N w W) : Below N w W := h.2.2.2.2.2.2.2.2.2
theorem keep10 (hb : Below W.heap.size W w1) (h : W.cell? a0 = some v0 ∧ W.cell? a1 = some v1 ∧ W.cell? a2 = some v2 ∧ W.cell? a3 = some v3 ∧ W.cell? a4 = some v4 ∧ W.cell? a5 = some v5 ∧ W.cell? a6 = some v6 ∧ W.cell? a7 = some v7 ∧ W.cell? a8 = some v8 ∧ W.cell? a9 = some v9 ∧ N ≤ W.heap.size ∧ Below N w W) :
    w1.cell? a0 = some v0 ∧ w1.cell? a1 = some v1 ∧ w1.cell? a2 = some v2 ∧ w1.cell? a3 = some v3 ∧ w1.cell? a4 = some v4 ∧ w1.cell? a5 = some v5 ∧ w1.cell? a6 = some v6 ∧ w1.cell? a7 = some v7 ∧ w1.cell? a8 = some v8 ∧ w1.cell? a9 = some v9 ∧ N ≤ w1.heap.size ∧ Below N w w1 := two hb (two hb (two hb (two hb (two hb (ends hb))))) h
theorem keep12 (hb : Below W.heap.size W w1) (h : W.cell? a0 = some v0 ∧ W.cell? a1 = some v1 ∧ W.cell? a2 = some v2 ∧ W.cell? a3 = some v3 ∧ W.cell? a4 = some v4 ∧ W.cell? a5 = some v5 ∧ W.cell? a6 = some v6 ∧ W.cell? a7 = some v7 ∧ W.cell? a8 = some v8 ∧ W.cell? a9 = some v9 ∧ W.cell? a10 = some v10 ∧ W.cell? a11 = some v11 ∧ N ≤ W.heap.size ∧ Below N w W) :
    w1.cell? a0 = some v0 ∧ w1.cell? a1 = some v1 ∧ w1.cell? a2 = some v2 ∧ w1.cell? a3 = some v3 ∧ w1.cell? a4 = some v4 ∧ w1.cell? a5 = some v5 ∧ w1.cell? a6 = some v6 ∧ w1.cell? a7 = some v7 ∧ w1.cell? a8 = some v8 ∧ w1.cell? a9 = some v9 ∧ w1.cell? a10 = some v10 ∧ w1.cell? a11 = some v11 ∧ N ≤ w1.heap.size ∧ Below N w w1 := two hb (two hb (two hb (two hb (two hb (two hb (ends hb)))))) h
theorem keep14 (hb : Below W.heap.size W w1) (h : W.cell? a0 = some v0 ∧ W.cell? a1 = some v1 ∧ W.cell? a2 = some v2 ∧ W.cell? a3 = some v3 ∧ W.cell? a4 = some v4 ∧ W.cell? a5 = some v5 ∧ W.cell? a6 = some v6 ∧ W.cell? a7 = some v7 ∧ W.cell? a8 = some v8 ∧ W.cell? a9 = some v9 ∧ W.cell? a10 = some v10 ∧ W.cell? a11 = some v11 ∧ W.cell? a12 = some v12 ∧ W.cell? a13 = some v13 ∧ N ≤ W.heap.size ∧ Below N w W) :
    w1.cell? a0 = some v0 ∧ w1.cell? a1 = some v1 ∧ w1.cell? a2 = some v2 ∧ w1.cell? a3 = some v3 ∧ w1.cell? a4 = some v4 ∧ w1.cell? a5 = some v5 ∧ w1.cell? a6 = some v6 ∧ w1.cell? a7 = some v7 ∧ w1.cell? a8 = some v8 ∧ w1.cell? a9 = some v9 ∧ w1.cell? a10 = some v10 ∧ w1.cell? a11 = some v11 ∧ w1.cell? a12 = some v12 ∧ w1.cell? a13 = some v13 ∧ N ≤ w1.heap.size ∧ Below N w w1 := two hb (two hb (two hb (two hb (two hb (two hb (two hb (ends hb))))))) h
theorem add8 (h : W.cell? a0 = some v0 ∧ W.cell? a1 = some v1 ∧ W.cell? a2 = some v2 ∧ W.cell? a3 = some v3 ∧ W.cell? a4 = some v4 ∧ W.cell? a5 = some v5 ∧ W.cell? a6 = some v6 ∧ W.cell? a7 = some v7 ∧ N ≤ W.heap.size ∧ Below N w W) (b : Nat) (e : W.heap.size = b) (x y : Value) (t : TypeId) :
    (W.alloc (.cells #[x, y] t)).cell? a0 = some v0 ∧ (W.alloc (.cells #[x, y] t)).cell? a1 = some v1 ∧ (W.alloc (.cells #[x, y] t)).cell? a2 = some v2 ∧ (W.alloc (.cells #[x, y] t)).cell? a3 = some v3 ∧ (W.alloc (.cells #[x, y] t)).cell? a4 = some v4 ∧ (W.alloc (.cells #[x, y] t)).cell? a5 = some v5 ∧ (W.alloc (.cells #[x, y] t)).cell? a6 = some v6 ∧ (W.alloc (.cells #[x, y] t)).cell? a7 = some v7 ∧ (W.alloc (.cells #[x, y] t)).cell? ⟨b, 0, none⟩ = some x ∧ (W.alloc (.cells #[x, y] t)).cell? ⟨b, 1, none⟩ = some y ∧ N ≤ (W.alloc (.cells #[x, y] t)).heap.size ∧ Below N w (W.alloc (.cells #[x, y] t)) := two (behind ..) (two (behind ..) (two (behind ..) (two (behind ..) (fun h => add0 h b e x y t)))) h
theorem add10 (h : W.cell? a0 = some v0 ∧ W.cell? a1 = some v1 ∧ W.cell? a2 = some v2 ∧ W.cell? a3 = some v3 ∧ W.cell? a4 = some v4 ∧ W.cell? a5 = some v5 ∧ W.cell? a6 = some v6 ∧ W.cell? a7 = some v7 ∧ W.cell? a8 = some v8 ∧ W.cell? a9 = some v9 ∧ N ≤ W.heap.size ∧ Below N w W) (b : Nat) (e : W.heap.size = b) (x y : Value) (t : TypeId) :
    (W.alloc (.cells #[x, y] t)).cell? a0 = some v0 ∧ (W.alloc (.cells #[x, y] t)).cell? a1 = some v1 ∧ (W.alloc (.cells #[x, y] t)).cell? a2 = some v2 ∧ (W.alloc (.cells #[x, y] t)).cell? a3 = some v3 ∧ (W.alloc (.cells #[x, y] t)).cell? a4 = some v4 ∧ (W.alloc (.cells #[x, y] t)).cell? a5 = some v5 ∧ (W.alloc (.cells #[x, y] t)).cell? a6 = some v6 ∧ (W.alloc (.cells #[x, y] t)).cell? a7 = some v7 ∧ (W.alloc (.cells #[x, y] t)).cell? a8 = some v8 ∧ (W.alloc (.cells #[x, y] t)).cell? a9 = some v9 ∧ (W.alloc (.cells #[x, y] t)).cell? ⟨b, 0, none⟩ = some x ∧ (W.alloc (.cells #[x, y] t)).cell? ⟨b, 1, none⟩ = some y ∧ N ≤ (W.alloc (.cells #[x, y] t)).heap.size ∧ Below N w (W.alloc (.cells #[x, y] t)) := two (behind ..) (two (behind ..) (two (behind ..) (two (behind ..) (two (behind ..) (fun h => add0 h b e x y t))))) h
theorem add12 (h : W.cell? a0 = some v0 ∧ W.cell? a1 = some v1 ∧ W.cell? a2 = some v2 ∧ W.cell? a3 = some v3 ∧ W.cell? a4 = some v4 ∧ W.cell? a5 = some v5 ∧ W.cell? a6 = some v6 ∧ W.cell? a7 = some v7 ∧ W.cell? a8 = some v8 ∧ W.cell? a9 = some v9 ∧ W.cell? a10 = some v10 ∧ W.cell? a11 = some v11 ∧ N ≤ W.heap.size ∧ Below N w W) (b : Nat) (e : W.heap.size = b) (x y : Value) (t : TypeId) :
    (W.alloc (.cells #[x, y] t)).cell? a0 = some v0 ∧ (W.alloc (.cells #[x, y] t)).cell? a1 = some v1 ∧ (W.alloc (.cells #[x, y] t)).cell? a2 = some v2 ∧ (W.alloc (.cells #[x, y] t)).cell? a3 = some v3 ∧ (W.alloc (.cells #[x, y] t)).cell? a4 = some v4 ∧ (W.alloc (.cells #[x, y] t)).cell? a5 = some v5 ∧ (W.alloc (.cells #[x, y] t)).cell? a6 = some v6 ∧ (W.alloc (.cells #[x, y] t)).cell? a7 = some v7 ∧ (W.alloc (.cells #[x, y] t)).cell? a8 = some v8 ∧ (W.alloc (.cells #[x, y] t)).cell? a9 = some v9 ∧ (W.alloc (.cells #[x, y] t)).cell? a10 = some v10 ∧ (W.alloc (.cells #[x, y] t)).cell? a11 = some v11 ∧ (W.alloc (.cells #[x, y] t)).cell? ⟨b, 0, none⟩ = some x ∧ (W.alloc (.cells #[x, y] t)).cell? ⟨b, 1, none⟩ = some y ∧ N ≤ (W.alloc (.cells #[x, y] t)).heap.size ∧ Below N w (W.alloc (.cells #[x, y] t)) := two (behind ..) (two (behind ..) (two (behind ..) (two (behind ..) (two (behind ..) (two (behind ..) (fun h => add0 h b e x y t)))))) h
theorem drewEnds (h : N ≤ W.heap.size ∧ Below N w W) : N ≤ W.drew.heap.size ∧ Below N w W.drew := ⟨h.1, h.2.drew⟩
theorem drewTwo {P P' : Prop} (f : P → P') (h : W.cell? a0 = some v0 ∧ W.cell? a1 = some v1 ∧ P) : W.drew.cell? a0 = some v0 ∧ W.drew.cell? a1 = some v1 ∧ P' := ⟨h.1, h.2.1, f h.2.2⟩
theorem drew2 (h : W.cell? a0 = some v0 ∧ W.cell? a1 = some v1 ∧ N ≤ W.heap.size ∧ Below N w W) :
    W.drew.cell? a0 = some v0 ∧ W.drew.cell? a1 = some v1 ∧ N ≤ W.drew.heap.size ∧ Below N w W.drew := drewTwo (drewEnds) h
theorem drew4 (h : W.cell? a0 = some v0 ∧ W.cell? a1 = some v1 ∧ W.cell? a2 = some v2 ∧ W.cell? a3 = some v3 ∧ N ≤ W.heap.size ∧ Below N w W) :
    W.drew.cell? a0 = some v0 ∧ W.drew.cell? a1 = some v1 ∧ W.drew.cell? a2 = some v2 ∧ W.drew.cell? a3 = some v3 ∧ N ≤ W.drew.heap.size ∧ Below N w W.drew := drewTwo (drewTwo (drewEnds)) h
theorem drew6 (h : W.cell? a0 = some v0 ∧ W.cell? a1 = some v1 ∧ W.cell? a2 = some v2 ∧ W.cell? a3 = some v3 ∧ W.cell? a4 = some v4 ∧ W.cell? a5 = some v5 ∧ N ≤ W.heap.size ∧ Below N w W) :
    W.drew.cell? a0 = some v0 ∧ W.drew.cell? a1 = some v1 ∧ W.drew.cell? a2 = some v2 ∧ W.drew.cell? a3 = some v3 ∧ W.drew.cell? a4 = some v4 ∧ W.drew.cell? a5 = some v5 ∧ N ≤ W.drew.heap.size ∧ Below N w W.drew := drewTwo (drewTwo (drewTwo (drewEnds))) h
theorem drew10 (h : W.cell? a0 = some v0 ∧ W.cell? a1 = some v1 ∧ W.cell? a2 = some v2 ∧ W.cell? a3 = some v3 ∧ W.cell? a4 = some v4 ∧ W.cell? a5 = some v5 ∧ W.cell? a6 = some v6 ∧ W.cell? a7 = some v7 ∧ W.cell? a8 = some v8 ∧ W.cell? a9 = some v9 ∧ N ≤ W.heap.size ∧ Below N w W) :
    W.drew.cell? a0 = some v0 ∧ W.drew.cell? a1 = some v1 ∧ W.drew.cell? a2 = some v2 ∧ W.drew.cell? a3 = some v3 ∧ W.drew.cell? a4 = some v4 ∧ W.drew.cell? a5 = some v5 ∧ W.drew.cell? a6 = some v6 ∧ W.drew.cell? a7 = some v7 ∧ W.drew.cell? a8 = some v8 ∧ W.drew.cell? a9 = some v9 ∧ N ≤ W.drew.heap.size ∧ Below N w W.drew := drewTwo (drewTwo (drewTwo (drewTwo (drewTwo (drewEnds))))) h
theorem drew12 (h : W.cell? a0 = some v0 ∧ W.cell? a1 = some v1 ∧ W.cell? a2 = some v2 ∧ W.cell? a3 = some v3 ∧ W.cell? a4 = some v4 ∧ W.cell? a5 = some v5 ∧ W.cell? a6 = some v6 ∧ W.cell? a7 = some v7 ∧ W.cell? a8 = some v8 ∧ W.cell? a9 = some v9 ∧ W.cell? a10 = some v10 ∧ W.cell? a11 = some v11 ∧ N ≤ W.heap.size ∧ Below N w W) :
    W.drew.cell? a0 = some v0 ∧ W.drew.cell? a1 = some v1 ∧ W.drew.cell? a2 = some v2 ∧ W.drew.cell? a3 = some v3 ∧ W.drew.cell? a4 = some v4 ∧ W.drew.cell? a5 = some v5 ∧ W.drew.cell? a6 = some v6 ∧ W.drew.cell? a7 = some v7 ∧ W.drew.cell? a8 = some v8 ∧ W.drew.cell? a9 = some v9 ∧ W.drew.cell? a10 = some v10 ∧ W.drew.cell? a11 = some v11 ∧ N ≤ W.drew.heap.size ∧ Below N w W.drew := drewTwo (drewTwo (drewTwo (drewTwo (drewTwo (drewTwo (drewEnds)))))) h
theorem drew14 (h : W.cell? a0 = some v0 ∧ W.cell? a1 = some v1 ∧ W.cell? a2 = some v2 ∧ W.cell? a3 = some v3 ∧ W.cell? a4 = some v4 ∧ W.cell? a5 = some v5 ∧ W.cell? a6 = some v6 ∧ W.cell? a7 = some v7 ∧ W.cell? a8 = some v8 ∧ W.cell? a9 = some v9 ∧ W.cell? a10 = some v10 ∧ W.cell? a11 = some v11 ∧ W.cell? a12 = some v12 ∧ W.cell? a13 = some v13 ∧ N ≤ W.heap.size ∧ Below N w W) :
    W.drew.cell? a0 = some v0 ∧ W.drew.cell? a1 = some v1 ∧ W.drew.cell? a2 = some v2 ∧ W.drew.cell? a3 = some v3 ∧ W.drew.cell? a4 = some v4 ∧ W.drew.cell? a5 = some v5 ∧ W.drew.cell? a6 = some v6 ∧ W.drew.cell? a7 = some v7 ∧ W.drew.cell? a8 = some v8 ∧ W.drew.cell? a9 = some v9 ∧ W.drew.cell? a10 = some v10 ∧ W.drew.cell? a11 = some v11 ∧ W.drew.cell? a12 = some v12 ∧ W.drew.cell? a13 = some v13 ∧ N ≤ W.drew.heap.size ∧ Below N w W.drew := drewTwo (drewTwo (drewTwo (drewTwo (drewTwo (drewTwo (drewTwo (drewEnds))))))) h
theorem end10 {p0 p1 p2 p3 p4 p5 p6 p7 p8 p9 p10 : Prop} (h : p0 ∧ p1 ∧ p2 ∧ p3 ∧ p4 ∧ p5 ∧ p6 ∧ p7 ∧ p8 ∧ p9 ∧ p10 ∧ Below N w W) : Below N w W := h.2.2.2.2.2.2.2.2.2.2.2
theorem end12 {p0 p1 p2 p3 p4 p5 p6 p7 p8 p9 p10 p11 p12 : Prop} (h : p0 ∧ p1 ∧ p2 ∧ p3 ∧ p4 ∧ p5 ∧ p6 ∧ p7 ∧ p8 ∧ p9 ∧ p10 ∧ p11 ∧ p12 ∧ Below N w W) : Below N w W := h.2.2.2.2.2.2.2.2.2.2.2.2.2
theorem end14 {p0 p1 p2 p3 p4 p5 p6 p7 p8 p9 p10 p11 p12 p13 p14 : Prop} (h : p0 ∧ p1 ∧ p2 ∧ p3 ∧ p4 ∧ p5 ∧ p6 ∧ p7 ∧ p8 ∧ p9 ∧ p10 ∧ p11 ∧ p12 ∧ p13 ∧ p14 ∧ Below N w W) : Below N w W := h.2.2.2.2.2.2.2.2.2.2.2.2.2.2.2
end Go.Proofs.Ytcajcmaldnmbjaa.Kp
/-
  Contracts of isBare, isLeaf, isWhole of package filter: has a filter all that its kind asks for, and nothing else, but for its parts' own fields? Memory that was there is left as it was.
-/
namespace Go.Proofs.Ytcajcmaldnmbjaa.Fl
open Go.RowKit Go.Proofs.Ytcajcmaldnmbjaa.Tk
set_option linter.unusedVariables false
set_option linter.unusedSimpArgs false

section
variable {w W w1 : World} {N g : Nat} {x0 x1 x2 x3 x4 : Value}
/-- A new block of five cells. -/
theorem k5_new (w : World) (x0 x1 x2 x3 x4 : Value) (t : TypeId) :
    (w.alloc (.cells #[x0, x1, x2, x3, x4] t)).cell? ⟨w.heap.size, 0, none⟩ = some x0 ∧ (w.alloc (.cells #[x0, x1, x2, x3, x4] t)).cell? ⟨w.heap.size, 1, none⟩ = some x1 ∧ (w.alloc (.cells #[x0, x1, x2, x3, x4] t)).cell? ⟨w.heap.size, 2, none⟩ = some x2 ∧ (w.alloc (.cells #[x0, x1, x2, x3, x4] t)).cell? ⟨w.heap.size, 3, none⟩ = some x3 ∧ (w.alloc (.cells #[x0, x1, x2, x3, x4] t)).cell? ⟨w.heap.size, 4, none⟩ = some x4 ∧ w.heap.size ≤ (w.alloc (.cells #[x0, x1, x2, x3, x4] t)).heap.size ∧ Below w.heap.size w (w.alloc (.cells #[x0, x1, x2, x3, x4] t)) := by
  refine ⟨?_, ?_, ?_, ?_, ?_, ?_, (Below.refl _ _).alloc (Nat.le_refl _) _⟩ <;> simp [go_sem]
theorem k5_keep (hb : Below W.heap.size W w1) (h : W.cell? ⟨g, 0, none⟩ = some x0 ∧ W.cell? ⟨g, 1, none⟩ = some x1 ∧ W.cell? ⟨g, 2, none⟩ = some x2 ∧ W.cell? ⟨g, 3, none⟩ = some x3 ∧ W.cell? ⟨g, 4, none⟩ = some x4 ∧ N ≤ W.heap.size ∧ Below N w W) :
    w1.cell? ⟨g, 0, none⟩ = some x0 ∧ w1.cell? ⟨g, 1, none⟩ = some x1 ∧ w1.cell? ⟨g, 2, none⟩ = some x2 ∧ w1.cell? ⟨g, 3, none⟩ = some x3 ∧ w1.cell? ⟨g, 4, none⟩ = some x4 ∧ N ≤ w1.heap.size ∧ Below N w w1 :=
  Kp.one hb (Kp.two hb (Kp.two hb (Kp.ends hb))) h
theorem k5_end (h : W.cell? ⟨g, 0, none⟩ = some x0 ∧ W.cell? ⟨g, 1, none⟩ = some x1 ∧ W.cell? ⟨g, 2, none⟩ = some x2 ∧ W.cell? ⟨g, 3, none⟩ = some x3 ∧ W.cell? ⟨g, 4, none⟩ = some x4 ∧ N ≤ W.heap.size ∧ Below N w W) : Below N w W := h.2.2.2.2.2.2
theorem AttsAt.fit {a : Option Addr} {vs : List Att} (h : AttsAt w (Old w.heap.size) a vs) (hB : Below w.heap.size w W) : AttsAt W (Old W.heap.size) a vs := h.far fun i hi => ⟨Nat.lt_of_lt_of_le hi hB.size, hB.block i hi⟩
theorem FltAt.fit {f : Flt} {a b : Option Addr} (h : FltAt w (Old w.heap.size) f a b) (hB : Below w.heap.size w W) : FltAt W (Old W.heap.size) f a b := (h.later hB).wide hB.size
theorem PartsAt.fit {j : Nat} {ps : List Flt} {b : Option Addr} (h : PartsAt w (Old w.heap.size) b j ps) (hB : Below w.heap.size w W) : PartsAt W (Old W.heap.size) b j ps := PartsAt.far (fun i hi => ⟨Nat.lt_of_lt_of_le hi hB.size, hB.block i hi⟩) ps h
end

def bareB (n o : List UInt8) (vs : List Att) : Bool := n == [] && o == [] && decide (vs.length = 0)
def leafQ (n : List UInt8) (vs : List Att) (lp : Nat) : Bool := decide (lp = 0) && nameB n && decide (vs.length ≤ 20) && vs.all valB
def firstText : List Att → Bool
  | [] => false
  | v :: _ => v.text
def wholeB (k : Int) (n o : List UInt8) (vs : List Att) (lp : Nat) : Bool :=
  if k = 1 ∨ k = 2 then bareB n o vs && decide (2 ≤ lp)
  else if k = 3 then bareB n o vs && decide (lp = 1)
  else if k = 7 then bareB n o vs && decide (lp = 0)
  else if k = 4 then leafQ n vs lp && opB o && decide (vs.length = 1)
  else if k = 5 then leafQ n vs lp && o == [] && decide (vs.length = 1) && firstText vs
  else if k = 6 then leafQ n vs lp && o == [] && decide (0 < vs.length) && sortB vs
  else false
theorem nat_dec {n : Nat} {m : Nat} : decide ((n : Int) = (m : Nat)) = decide (n = m) := decide_eq_decide.2 (by omega)

end Go.Proofs.Ytcajcmaldnmbjaa.Fl
/-
  Plain facts on filters' depths and numbers of nodes: may a filter be, at most so deep, with at most so many nodes? No program here.
-/
namespace Go.Proofs.Ytcajcmaldnmbjaa.Fl
set_option linter.unusedVariables false
set_option linter.unusedSimpArgs false

mutual
/-- How deep a filter is. -/
def dep : Flt → Nat
  | .mk _ _ _ _ l => depL l + 1
def depL : List Flt → Nat
  | [] => 0
  | p :: r => max (dep p) (depL r)
end
def mayB (f : Flt) (deep n : Nat) : Bool := fine f && decide (dep f ≤ deep) && decide (sz f ≤ n)
/-- May a filter of kind k have these parts, at most so deep, with so many nodes? -/
def okU (k : Int) (d m : Nat) (ps : List Flt) : Bool := ps.all (fun q => !(joinedB k && decide (q.kind = k)) && fine q) && decide (depL ps ≤ d) && decide (szL ps ≤ m)
theorem fineL_all (k : Int) : ∀ ps : List Flt, fineL k ps = ps.all fun q => fine q && (decide (k = 3) || !decide (q.kind = k))
  | [] => rfl
  | p :: r => by rw [fineL, fineL_all k r, List.all_cons]
theorem joined_part {k : Int} (h : k = 1 ∨ k = 2 ∨ k = 3) (q : Flt) : (fine q && (decide (k = 3) || !decide (q.kind = k))) = (!(joinedB k && decide (q.kind = k)) && fine q) := by
  rcases h with rfl | rfl | rfl
  · cases fine q <;> simp [joinedB]
  · cases fine q <;> simp [joinedB]
  · cases fine q <;> simp [joinedB]
theorem leaf_whole {k : Int} (hk : k = 4 ∨ k = 5 ∨ k = 6) (n o : List UInt8) (vs : List Att) (lp : Nat) : wholeB k n o vs lp = (leafB k n o vs && decide (lp = 0)) := by
  rcases hk with rfl | rfl | rfl
  · show (leafQ n vs lp && opB o && decide (vs.length = 1)) = _
    match vs with
    | [] => simp [leafQ, leafB]
    | [v] => simp only [leafQ, leafB]; cases decide (lp = 0) <;> cases nameB n <;> cases hv : valB v <;> cases opB o <;> simp [hv]
    | v :: u :: r => simp [leafQ, leafB]
  · show (leafQ n vs lp && o == [] && decide (vs.length = 1) && firstText vs) = _
    match vs with
    | [] => simp [leafQ, leafB]
    | [v] => simp only [leafQ, leafB, firstText]; cases decide (lp = 0) <;> cases nameB n <;> cases hv : valB v <;> cases ho : (o == []) <;> cases ht : v.text <;> simp [hv, ht, ho]
    | v :: u :: r => simp [leafQ, leafB]
  · show (leafQ n vs lp && o == [] && decide (0 < vs.length) && sortB vs) = _
    match vs with
    | [] => simp [leafQ, leafB]
    | v :: r =>
      have e1 : decide ((v :: r).length ≤ 20) = decide (r.length < 20) := decide_eq_decide.2 (by simp only [List.length_cons]; omega)
      have e2 : (r.all fun u => valB u && u.text == v.text) = (r.all valB && r.all fun u => u.text == v.text) := by
        induction r with
        | nil => rfl
        | cons u r ih =>
          have := ih (decide_eq_decide.2 (by simp only [List.length_cons]; omega))
          simp only [List.all_cons, this]
          cases valB u <;> cases (u.text == v.text) <;> cases r.all valB <;> simp
      simp only [leafQ, leafB, e1, e2, sortB, List.all_cons, if_true]
      cases decide (lp = 0) <;> cases nameB n <;> cases valB v <;> cases ho : (o == []) <;> cases decide (r.length < 20) <;> cases r.all valB <;> cases (r.all fun u => u.text == v.text) <;> simp [ho]
theorem whole_kinds {k : Int} {n o : List UInt8} {vs : List Att} {lp : Nat} (h : wholeB k n o vs lp = true) : (k = 1 ∨ k = 2 ∨ k = 3) ∨ ((k = 7 ∨ k = 4 ∨ k = 5 ∨ k = 6) ∧ lp = 0) := by
  unfold wholeB at h
  split at h
  · omega
  split at h
  · omega
  split at h
  · simp at h; omega
  split at h
  · simp [leafQ] at h; omega
  split at h
  · simp [leafQ] at h; omega
  split at h
  · simp [leafQ] at h; omega
  · cases h
theorem all_congr {ps : List Flt} {p q : Flt → Bool} (h : ∀ x, p x = q x) : ps.all p = ps.all q := by rw [funext h]
theorem fine_eq (k : Int) (n o : List UInt8) (vs : List Att) (ps : List Flt) : fine (.mk k n o vs ps) = (wholeB k n o vs ps.length && ps.all fun q => !(joinedB k && decide (q.kind = k)) && fine q) := by
  rw [fine]
  by_cases h456 : k = 4 ∨ k = 5 ∨ k = 6
  · rw [if_pos h456, leaf_whole h456]
    match ps with
    | [] => simp
    | p :: r => simp
  · rw [if_neg h456]
    by_cases h12 : k = 1 ∨ k = 2
    · rw [if_pos h12, fineL_all, all_congr (joined_part (by omega))]
      unfold wholeB bareB
      rw [if_pos h12]
      cases vs <;> simp
    · rw [if_neg h12]
      by_cases h3 : k = 3
      · rw [if_pos h3, fineL_all, all_congr (joined_part (by omega))]
        unfold wholeB bareB
        rw [if_neg h12, if_pos h3]
        cases vs <;> simp
      · rw [if_neg h3]
        unfold wholeB bareB
        rw [if_neg h12, if_neg h3]
        by_cases h7 : k = 7
        · rw [if_pos h7]
          cases ps <;> cases vs <;> simp [h7, fineL]
        · rw [if_neg h7, if_neg (by omega), if_neg (by omega), if_neg (by omega)]
          simp [h7]
theorem may_eq (k : Int) (n o : List UInt8) (vs : List Att) (ps : List Flt) (d m : Nat) : mayB (.mk k n o vs ps) (d + 1) (m + 1) = (wholeB k n o vs ps.length && okU k d m ps) := by
  unfold mayB okU
  have e1 : decide (depL ps + 1 ≤ d + 1) = decide (depL ps ≤ d) := decide_eq_decide.2 (by omega)
  have e2 : decide (szL ps + 1 ≤ m + 1) = decide (szL ps ≤ m) := decide_eq_decide.2 (by omega)
  rw [fine_eq, dep, sz, e1, e2]
  simp only [Bool.and_assoc]
theorem dep_pos (f : Flt) : 1 ≤ dep f := by cases f; rw [dep]; omega
theorem may_flat (f : Flt) (n : Nat) : mayB f 0 n = false := by
  unfold mayB
  rw [decide_eq_false (show ¬ dep f ≤ 0 by have := dep_pos f; omega)]
  simp
theorem may_none (f : Flt) (d : Nat) : mayB f d 0 = false := by
  unfold mayB
  rw [decide_eq_false (show ¬ sz f ≤ 0 by have := sz_pos f; omega)]
  simp
theorem depL_app : ∀ l m : List Flt, depL (l ++ m) = max (depL l) (depL m)
  | [], m => by simp [depL]
  | p :: r, m => by rw [List.cons_append, depL, depL, depL_app r m]; omega
theorem szL_app' : ∀ l m : List Flt, szL (l ++ m) = szL l + szL m
  | [], m => by simp [szL]
  | p :: r, m => by rw [List.cons_append, szL, szL, szL_app' r m]; omega
theorem okU_nil (k : Int) (d m : Nat) : okU k d m [] = true := by simp [okU, depL, szL]
theorem okU_snoc {k : Int} {d m : Nat} {l : List Flt} (h : okU k d m l = true) (q : Flt) : okU k d m (l ++ [q]) = (!(joinedB k && decide (q.kind = k)) && mayB q d (m - szL l)) := by
  unfold okU mayB at *
  simp only [Bool.and_eq_true, decide_eq_true_eq] at h
  obtain ⟨⟨h1, h2⟩, h3⟩ := h
  have e1 : depL (l ++ [q]) = max (depL l) (dep q) := by rw [depL_app, depL, depL]; omega
  have e2 : szL (l ++ [q]) = szL l + sz q := by rw [szL_app', szL, szL]; omega
  have e3 : decide (max (depL l) (dep q) ≤ d) = decide (dep q ≤ d) := decide_eq_decide.2 (by omega)
  have e4 : decide (szL l + sz q ≤ m) = decide (sz q ≤ m - szL l) := decide_eq_decide.2 (by omega)
  rw [List.all_append, h1, Bool.true_and, e1, e2, e3, e4]
  simp only [List.all_cons, List.all_nil, Bool.and_true, Bool.and_assoc]
theorem okU_front {k : Int} {d m : Nat} {l r : List Flt} (h : okU k d m (l ++ r) = true) : okU k d m l = true := by
  unfold okU at *
  rw [List.all_append, depL_app, szL_app'] at h
  simp only [Bool.and_eq_true, decide_eq_true_eq] at h ⊢
  exact ⟨⟨h.1.1.1, by omega⟩, by omega⟩
theorem okU_szL {k : Int} {d m : Nat} {l : List Flt} (h : okU k d m l = true) : szL l ≤ m := by
  unfold okU at h
  simp only [Bool.and_eq_true, decide_eq_true_eq] at h
  exact h.2
theorem okU_take {k : Int} {d m j : Nat} {ps : List Flt} (h : okU k d m (ps.take j) = false) : okU k d m ps = false := by
  cases e : okU k d m ps with
  | false => rfl
  | true =>
    rw [← List.take_append_drop j ps] at e
    rw [okU_front e] at h
    cases h
theorem okU_step {k : Int} {d m j : Nat} {ps : List Flt} (h : okU k d m (ps.take j) = true) {q : Flt} (hq : ps[j]? = some q) : okU k d m (ps.take (j + 1)) = (!(joinedB k && decide (q.kind = k)) && mayB q d (m - szL (ps.take j))) := by
  rw [List.take_add_one, hq]
  exact okU_snoc h q
theorem szL_step {j : Nat} {ps : List Flt} {q : Flt} (hq : ps[j]? = some q) : szL (ps.take (j + 1)) = szL (ps.take j) + sz q := by
  rw [List.take_add_one, hq, szL_app']
  simp [szL]
theorem mayB_sz {f : Flt} {d n : Nat} (h : mayB f d n = true) : sz f ≤ n := by
  unfold mayB at h
  simp only [Bool.and_eq_true, decide_eq_true_eq] at h
  exact h.2
end Go.Proofs.Ytcajcmaldnmbjaa.Fl
/-
  Plain facts on filters and schemas: a filter's names, whether it is well typed, what Check and Fits tell. No program here.
-/
namespace Go.Proofs.Ytcajcmaldnmbjaa.Ck
open Go.Proofs.Ytcajcmaldnmbjaa.Fl
set_option linter.unusedVariables false
set_option linter.unusedSimpArgs false

/-- Is there one among the first k? -/
def anyTo (f : Nat → Bool) : Nat → Bool
  | 0 => false
  | k + 1 => anyTo f k || f k
theorem anyTo_no {f : Nat → Bool} : ∀ {n : Nat}, anyTo f n = false ↔ ∀ i, i < n → f i = false
  | 0 => by simp [anyTo]
  | n + 1 => by
    rw [anyTo, Bool.or_eq_false_iff, anyTo_no]
    constructor
    · rintro ⟨h1, h2⟩ i hi
      rcases Nat.lt_or_ge i n with h | h
      · exact h1 i h
      · obtain rfl : i = n := by omega
        exact h2
    · exact fun h => ⟨fun i hi => h i (by omega), h n (by omega)⟩
theorem anyTo_yes {f : Nat → Bool} {n i : Nat} (h : i < n) (hf : f i = true) : anyTo f n = true := by
  rw [← Bool.not_eq_false, anyTo_no]
  intro hh
  rw [hh i h] at hf
  cases hf
theorem anyTo_next {f : Nat → Bool} {k : Nat} (h : anyTo f k = false) (hf : f k = false) : anyTo f (k + 1) = false := by rw [anyTo, h, hf]; rfl

/-- What amiss may be at a schema's i-th name. -/
def badN (l : List Nm) (i : Nat) : Bool := !(nameB (l.getD i [])) || (decide (0 < i) && !decide (l.getD (i - 1) [] < l.getD i []))
def schB (l : List Nm) (t : List Bool) : Bool := decide (l.length = t.length) && !anyTo (badN l) l.length
theorem sch_rising {l : List Nm} {t : List Bool} (h : schB l t = true) : Rising l ∧ l.length = t.length := by
  unfold schB at h
  rw [Bool.and_eq_true, decide_eq_true_eq, Bool.not_eq_true', anyTo_no] at h
  refine ⟨?_, h.1⟩
  have key : ∀ i j, i < j → (hj : j < l.length) → l.getD i [] < l.getD j [] := by
    intro i j hij
    induction j with
    | zero => omega
    | succ j ih =>
      intro hj
      have h1 := h.2 (j + 1) hj
      unfold badN at h1
      simp only [Bool.or_eq_false_iff, Bool.and_eq_false_iff, decide_eq_false_iff_not, Bool.not_eq_false', decide_eq_true_eq] at h1
      have h2 : l.getD j [] < l.getD (j + 1) [] := by
        rcases h1.2 with h3 | h3
        · omega
        · simpa using h3
      rcases Nat.lt_or_ge i j with h4 | h4
      · exact List.lt_trans (ih h4 (by omega)) h2
      · obtain rfl : i = j := by omega
        exact h2
  refine List.pairwise_iff_getElem.2 fun i j hi hj hij => ?_
  have := key i j hij hj
  simpa [List.getD_eq_getElem?_getD, hi, hj] using this

mutual
/-- All names in a filter. -/
def nms : Flt → List Nm
  | .mk _ n _ _ l => (if n = [] then [] else [n]) ++ nmsL l
def nmsL : List Flt → List Nm
  | [] => []
  | p :: r => nms p ++ nmsL r
end
mutual
def typB (l : List Nm) (t : List Bool) : Flt → Bool
  | .mk _ n _ vs ps => vs.all (fun v => v.text == isT l t n) && typL l t ps
def typL (l : List Nm) (t : List Bool) : List Flt → Bool
  | [] => true
  | p :: r => typB l t p && typL l t r
end
theorem nmsL_app : ∀ l m : List Flt, nmsL (l ++ m) = nmsL l ++ nmsL m
  | [], m => by simp [nmsL]
  | p :: r, m => by rw [List.cons_append, nmsL, nmsL, nmsL_app r m, List.append_assoc]
theorem nmsL_step {ps : List Flt} {j : Nat} {q : Flt} (h : ps[j]? = some q) : nmsL (ps.take (j + 1)) = nmsL (ps.take j) ++ nms q := by
  rw [List.take_add_one, h, nmsL_app]
  simp [nmsL]
theorem nmsL_mem : ∀ {l : List Flt} {q : Flt} {x : Nm}, q ∈ l → x ∈ nms q → x ∈ nmsL l
  | p :: r, q, x, hq, hx => by
    rw [nmsL, List.mem_append]
    rcases List.mem_cons.1 hq with rfl | h
    · exact .inl hx
    · exact .inr (nmsL_mem h hx)
theorem nms_part {f q : Flt} {x : Nm} (hq : q ∈ f.parts) (hx : x ∈ nms q) : x ∈ nms f := by
  obtain ⟨k, n, o, vs, ps⟩ := f
  rw [nms, List.mem_append]
  exact .inr (nmsL_mem hq hx)
theorem typL_all (l : List Nm) (t : List Bool) : ∀ ps : List Flt, typL l t ps = ps.all (typB l t)
  | [] => rfl
  | p :: r => by rw [typL, typL_all l t r, List.all_cons]
mutual
theorem nms_sz : ∀ f : Flt, (nms f).length ≤ sz f
  | .mk _ n _ _ l => by
    have := nmsL_sz l
    rw [nms, sz, List.length_append]
    split <;> simp <;> omega
theorem nmsL_sz : ∀ l : List Flt, (nmsL l).length ≤ szL l
  | [] => by simp [nmsL]
  | p :: r => by
    have := nms_sz p
    have := nmsL_sz r
    rw [nmsL, szL, List.length_append]
    omega
end
theorem nmsL_take_le : ∀ (ps : List Flt) (j : Nat), (nmsL (ps.take j)).length ≤ (nmsL ps).length
  | [], j => by simp
  | p :: r, 0 => by simp [nmsL]
  | p :: r, j + 1 => by have := nmsL_take_le r j; rw [List.take_succ_cons, nmsL, nmsL, List.length_append, List.length_append]; omega
theorem nmsL_one : ∀ {ps : List Flt} {q : Flt}, q ∈ ps → (nms q).length ≤ (nmsL ps).length
  | p :: r, q, h => by
    rw [nmsL, List.length_append]
    rcases List.mem_cons.1 h with rfl | h
    · omega
    · have := nmsL_one h; omega

/-- What Check tells: an error's number. -/
def chkN (l : List Nm) (t : List Bool) (f : Flt) : Nat :=
  if schB l t = true ∧ mayB f 10 60 = true then (if (nms f).all (hasN l t) = true then (if typB l t f = true then 0 else 4) else 9) else 1
/-- What amiss may be with an attribute's value. -/
def oddB (v : Att) : Bool := !(valB ⟨[], v.text, v.num, v.str⟩)
def attNms (a : List Att) : List Nm := a.map Att.name
/-- What Fits tells. -/
def fitN (l : List Nm) (t : List Bool) (a : List Att) : Nat :=
  if schB l t = true then
    (if 16 < a.length then 5 else if ¬ (attNms a).Nodup then 10 else if (attNms a).all (hasN l t) = true then (if a.any (fun v => !(v.text == isT l t v.name)) = true then 4 else if a.any oddB = true then 1 else 0) else 9)
  else 1

theorem cmp_may (nm : Nm) (v : Att) : mayB (.mk 4 nm [61] [v] []) 10 60 = (nameB nm && valB v) := by
  have h : opB [61] = true := by decide
  simp [mayB, fine, leafB, dep, depL, sz, szL, h]
theorem val_zero : valB ⟨[], false, 0, []⟩ = true := by simp [valB]
theorem name_a : nameB [97] = true := by rfl

mutual
theorem fine_part {k : Int} : ∀ {ps : List Flt}, fineL k ps = true → ∀ q ∈ ps, fine q = true
  | p :: r, h, q, hq => by
    rw [fineL, Bool.and_eq_true, Bool.and_eq_true] at h
    rcases List.mem_cons.1 hq with rfl | hq
    · exact h.1.1
    · exact fine_part h.2 q hq
end
theorem depL_mem : ∀ {ps : List Flt} {q : Flt}, q ∈ ps → dep q ≤ depL ps
  | p :: r, q, h => by
    rw [depL]
    rcases List.mem_cons.1 h with rfl | h
    · omega
    · have := depL_mem h; omega
theorem szL_mem : ∀ {ps : List Flt} {q : Flt}, q ∈ ps → sz q ≤ szL ps
  | p :: r, q, h => by
    rw [szL]
    rcases List.mem_cons.1 h with rfl | h
    · omega
    · have := szL_mem h; omega
theorem may_part {f q : Flt} (h : mayB f 10 60 = true) (hq : q ∈ f.parts) : mayB q 10 60 = true := by
  obtain ⟨k, n, o, vs, ps⟩ := f
  unfold mayB at h ⊢
  rw [Bool.and_eq_true, Bool.and_eq_true, decide_eq_true_eq, decide_eq_true_eq] at h ⊢
  obtain ⟨⟨h1, h2⟩, h3⟩ := h
  rw [dep] at h2
  rw [sz] at h3
  simp only [Flt.parts] at hq
  have e1 := depL_mem hq
  have e2 := szL_mem hq
  refine ⟨⟨?_, by omega⟩, by omega⟩
  rw [fine] at h1
  split at h1
  · rw [Bool.and_eq_true, List.isEmpty_iff] at h1
    rw [h1.2] at hq
    simp at hq
  · rw [Bool.and_eq_true] at h1
    exact fine_part h1.2 q hq
/-- A part of what is well typed is. -/
theorem chk_part {l : List Nm} {t : List Bool} {f q : Flt} (h : chkN l t f = 0) (hq : q ∈ f.parts) : chkN l t q = 0 := by
  unfold chkN at h
  split at h
  · rename_i h1
    split at h
    · rename_i h2
      split at h
      · rename_i h3
        unfold chkN
        rw [if_pos ⟨h1.1, may_part h1.2 hq⟩, if_pos, if_pos]
        · obtain ⟨k, n, o, vs, ps⟩ := f
          rw [typB, Bool.and_eq_true, typL_all] at h3
          exact List.all_eq_true.1 h3.2 q hq
        · rw [List.all_eq_true] at h2 ⊢
          exact fun x hx => h2 x (nms_part hq hx)
      · cases h
    · cases h
  · cases h
theorem chk_may {l : List Nm} {t : List Bool} {f : Flt} (h : chkN l t f = 0) : mayB f 10 60 = true := by
  unfold chkN at h
  split at h
  · rename_i h1
    exact h1.2
  · cases h
theorem may_nms {f : Flt} (h : mayB f 10 60 = true) : (nms f).length ≤ 60 := by
  have := nms_sz f
  unfold mayB at h
  rw [Bool.and_eq_true, decide_eq_true_eq] at h
  omega
theorem chk_codes (l : List Nm) (t : List Bool) (f : Flt) : chkN l t f = 0 ∨ chkN l t f = 1 ∨ chkN l t f = 4 ∨ chkN l t f = 9 := by
  unfold chkN
  split
  · split
    · split <;> simp
    · simp
  · simp
theorem fit_codes (l : List Nm) (t : List Bool) (a : List Att) : fitN l t a = 0 ∨ fitN l t a = 1 ∨ fitN l t a = 4 ∨ fitN l t a = 5 ∨ fitN l t a = 9 ∨ fitN l t a = 10 := by
  unfold fitN
  split
  · split
    · simp
    · split
      · simp
      · split
        · split
          · simp
          · split <;> simp
        · simp
  · simp
end Go.Proofs.Ytcajcmaldnmbjaa.Ck
namespace Go.Proofs.Ytcajcmaldnmbjaa.Ev
open Go.Proofs.Ytcajcmaldnmbjaa.Fl Go.Proofs.Ytcajcmaldnmbjaa.Ck
set_option linter.unusedVariables false
set_option linter.unusedSimpArgs false

/-- Do two stand so to each other? -/
def standsB (o : List UInt8) (less more : Bool) : Bool :=
  if o = [60] then less else if o = [60, 61] then !more else if o = [61] then !less && !more else if o = [33, 61] then less || more else if o = [62, 61] then !less else if o = [62] then more else false
/-- The first attribute of a name. -/
def attOf : List Att → List UInt8 → Option Att
  | [], _ => none
  | a :: l, n => if a.name = n then some a else attOf l n
/-- Is it this value? -/
def sameV (a v : Att) : Bool := (a.text == v.text) && (if a.text then decide (a.str = v.str) else decide (a.num = v.num))
def cmpV (o : List UInt8) (a v : Att) : Bool := (a.text == v.text) && (if a.text then standsB o (decide (a.str < v.str)) (decide (v.str < a.str)) else standsB o (decide (a.num < v.num)) (decide (v.num < a.num)))
def preV (a v : Att) : Bool := a.text && v.text && v.str.isPrefixOf a.str
/-- FCmp, FPre, FIn; no other kind holds. -/
def leafH (l : List Att) (k : Int) (n o : List UInt8) (vs : List Att) : Bool :=
  match attOf l n with
  | none => false
  | some a =>
    match vs with
    | [] => false
    | v :: r => if k = 4 then cmpV o a v else if k = 5 then preV a v else if k = 6 then (v :: r).any (sameV a) else false
mutual
def holdsB (l : List Att) : Flt → Bool
  | .mk k n o vs ps => if k = 7 then true else if k = 3 then notH l ps else if k = 1 then allH l ps else if k = 2 then anyH l ps else leafH l k n o vs
def notH (l : List Att) : List Flt → Bool
  | [] => false
  | p :: _ => !(holdsB l p)
def allH (l : List Att) : List Flt → Bool
  | [] => true
  | p :: r => holdsB l p && allH l r
def anyH (l : List Att) : List Flt → Bool
  | [] => false
  | p :: r => holdsB l p || anyH l r
end
theorem allH_all (l : List Att) : ∀ ps : List Flt, allH l ps = ps.all (holdsB l)
  | [] => rfl
  | p :: r => by rw [allH, allH_all l r, List.all_cons]
theorem anyH_any (l : List Att) : ∀ ps : List Flt, anyH l ps = ps.any (holdsB l)
  | [] => rfl
  | p :: r => by rw [anyH, anyH_any l r, List.any_cons]
def notF (f : Flt) : Flt := .mk 3 [] [] [] [f]
theorem holds_not (l : List Att) (f : Flt) : holdsB l (notF f) = !(holdsB l f) := by
  unfold notF
  rw [holdsB]
  simp [notH]
theorem holds_and (l : List Att) (f g : Flt) : holdsB l (.mk 1 [] [] [] [f, g]) = (holdsB l f && holdsB l g) := by
  rw [holdsB]
  simp [allH]
theorem holds_or (l : List Att) (f g : Flt) : holdsB l (.mk 2 [] [] [] [notF f, notF g]) = !(holdsB l f && holdsB l g) := by
  rw [holdsB]
  simp [anyH, holds_not]
theorem leaf_more {l : List Att} {m : Att} {k : Int} {n o : List UInt8} {vs : List Att} (h : ¬ m.name = n) : leafH (m :: l) k n o vs = leafH l k n o vs := by
  unfold leafH
  rw [attOf, if_neg h]
mutual
/-- What doesn't name an attribute doesn't hang on it. -/
theorem holds_more {l : List Att} {m : Att} (h0 : ¬ m.name = []) : ∀ f : Flt, m.name ∉ nms f → holdsB (m :: l) f = holdsB l f
  | .mk k n o vs ps, h => by
    rw [nms, List.mem_append] at h
    have hp : ∀ q ∈ ps, m.name ∉ nms q := fun q hq hm => h (.inr (nmsL_mem hq hm))
    have hn : ¬ m.name = n := by
      intro e
      apply h
      left
      rw [if_neg (by rw [← e]; exact h0)]
      simp [e]
    rw [holdsB, holdsB, leaf_more hn, not_more h0 ps hp, allH_more h0 ps hp, anyH_more h0 ps hp]
theorem not_more {l : List Att} {m : Att} (h0 : ¬ m.name = []) : ∀ ps : List Flt, (∀ q ∈ ps, m.name ∉ nms q) → notH (m :: l) ps = notH l ps
  | [], _ => rfl
  | p :: r, h => by rw [notH, notH, holds_more h0 p (h p (by simp))]
theorem allH_more {l : List Att} {m : Att} (h0 : ¬ m.name = []) : ∀ ps : List Flt, (∀ q ∈ ps, m.name ∉ nms q) → allH (m :: l) ps = allH l ps
  | [], _ => rfl
  | p :: r, h => by rw [allH, allH, holds_more h0 p (h p (by simp)), allH_more h0 r (fun q hq => h q (by simp [hq]))]
theorem anyH_more {l : List Att} {m : Att} (h0 : ¬ m.name = []) : ∀ ps : List Flt, (∀ q ∈ ps, m.name ∉ nms q) → anyH (m :: l) ps = anyH l ps
  | [], _ => rfl
  | p :: r, h => by rw [anyH, anyH, holds_more h0 p (h p (by simp)), anyH_more h0 r (fun q hq => h q (by simp [hq]))]
end
/-- As the document's loop finds it: from the last one on to the first one. -/
theorem attOf_at : ∀ (l : List Att) (n : List UInt8) (k : Nat) (a : Att), l[k]? = some a → a.name = n → (∀ j y, j < k → l[j]? = some y → ¬ y.name = n) → attOf l n = some a
  | b :: l, n, 0, a, h, hn, _ => by
    simp at h
    subst h
    rw [attOf, if_pos hn]
  | b :: l, n, k + 1, a, h, hn, h2 => by
    rw [attOf, if_neg (h2 0 b (by omega) rfl)]
    exact attOf_at l n k a (by simpa using h) hn fun j y hj hy => h2 (j + 1) y (by omega) (by simpa using hy)
  | [], n, k, a, h, _, _ => by simp at h
theorem attOf_none : ∀ (l : List Att) (n : List UInt8), (∀ y ∈ l, ¬ y.name = n) → attOf l n = none
  | [], _, _ => rfl
  | b :: l, n, h => by
    rw [attOf, if_neg (h b (by simp))]
    exact attOf_none l n fun y hy => h y (by simp [hy])
end Go.Proofs.Ytcajcmaldnmbjaa.Ev
