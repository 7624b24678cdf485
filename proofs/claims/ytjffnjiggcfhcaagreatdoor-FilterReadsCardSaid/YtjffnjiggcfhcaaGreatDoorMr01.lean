/-
  Contracts of token and val of the document's parser. Memory that was there is left as it was, but for the parser's own block.
-/
import Derived.Test.YtjffnjiggcfhcaaGreatDoorMt10
import Derived.Test.YtjffnjiggcfhcaaGreatDoorMt11
import Derived.BigQuiet
import Derived.Great.BuildSlice
import Derived.Deep.AppendLies
/-
  The document's parser in memory; contracts of its kind, takes and must. Memory that was there is left as it was, but for the parser's own block.
-/
namespace Go.Proofs.YtjffnjiggcfhcaaGreatDoor.Fl
open Go.RowKit Go.Proofs.YtjffnjiggcfhcaaGreatDoor.Tk
set_option linter.unusedVariables false
set_option linter.unusedSimpArgs false

/-- The parser in block p: x are the tokens that are left; none: it is amiss. -/
def PS (W : World) (p z : Nat) (L : List Tok) (x : Option (List Tok)) : Prop :=
  ∃ (a : Option Addr) (cap at_ : Nat), at_ ≤ L.length ∧ W.cell? ⟨p, 0, none⟩ = some (.slice a L.length cap) ∧ W.cell? ⟨p, 1, none⟩ = some (.int .i64 at_) ∧ W.cell? ⟨p, 2, none⟩ = some (.bool x.isNone) ∧
    (∀ o, W.frozen? ⟨p, o, none⟩ = false) ∧ Toks W (Old z) a L ∧ ∀ ts, x = some ts → ts = L.drop at_
theorem PS.lt {W : World} {p z : Nat} {L : List Tok} {x : Option (List Tok)} (h : PS W p z L x) : p < W.heap.size := by
  obtain ⟨a, cap, at_, _, hc, _⟩ := h
  exact World.block_lt_of_cell? W ⟨p, 0, none⟩ hc
theorem PS.keep {W V : World} {p z : Nat} {L : List Tok} {x : Option (List Tok)} (h : PS W p z L x) (hp : V.heap[p]? = W.heap[p]?) (hz : ∀ g, g < z → V.heap[g]? = W.heap[g]?) : PS V p z L x := by
  obtain ⟨a, cap, at_, h1, c0, c1, c2, hf, ht, hx⟩ := h
  have hq : ∀ y, V.cell? ⟨p, y, none⟩ = W.cell? ⟨p, y, none⟩ := fun y => World.cell?_of_block (w := W) (w' := V) (a := ⟨p, y, none⟩) hp
  exact ⟨a, cap, at_, h1, (hq _).trans c0, (hq _).trans c1, (hq _).trans c2, fun o => (World.frozen?_of_block (w := W) (w' := V) (a := ⟨p, o, none⟩) hp).trans (hf o), ht.far fun g hg => ⟨hg, hz g hg⟩, hx⟩
theorem PS.later {W V : World} {p z : Nat} {L : List Tok} {x : Option (List Tok)} (h : PS W p z L x) (hz : z ≤ p) (hb : Below W.heap.size W V) : PS V p z L x :=
  h.keep (hb.block p h.lt) fun g hg => hb.block g (by have := h.lt; omega)
theorem PS.alloc {W : World} {p z : Nat} {L : List Tok} {x : Option (List Tok)} (h : PS W p z L x) (hz : z ≤ p) (o : Obj) : PS (W.alloc o) p z L x := h.later hz ((Below.refl _ _).alloc (Nat.le_refl _) o)
/-- A store into another block, from z on. -/
theorem PS.setCell {W : World} {p z q y : Nat} {L : List Tok} {x : Option (List Tok)} (h : PS W p z L x) (hq : q ≠ p) (hz : z ≤ q) (v : Value) : PS (W.setCell ⟨q, y, none⟩ v) p z L x :=
  h.keep (Below.heap_setCell _ _ _ _ (fun e => hq e.symm)) fun g hg => Below.heap_setCell _ _ _ _ (by intro e; simp only at e; omega)
theorem PS.row {W : World} {p z q : Nat} {L : List Tok} {x : Option (List Tok)} (h : PS W p z L x) (hq : q ≠ p) (hz : z ≤ q) (cs : Array Value) : PS (W.setRow q cs) p z L x :=
  h.keep (setRow_other W q p cs (fun e => hq e.symm)) fun g hg => setRow_other W q g cs (by omega)
/-- A token is taken. -/
theorem PS.next {W : World} {p z at_ cap : Nat} {a : Option Addr} {L r : List Tok} {t : Tok} (hz : z ≤ p) (hd : t :: r = L.drop at_) (c0 : W.cell? ⟨p, 0, none⟩ = some (.slice a L.length cap)) (c1 : W.cell? ⟨p, 1, none⟩ = some (.int .i64 at_)) (c2 : W.cell? ⟨p, 2, none⟩ = some (.bool false))
    (hf : ∀ o, W.frozen? ⟨p, o, none⟩ = false) (ht : Toks W (Old z) a L) : PS (W.setCell ⟨p, 1, none⟩ (.int .i64 ((at_ : Int) + 1))) p z L (some r) := by
  have hl : at_ < L.length := by
    have := congrArg List.length hd
    rw [List.length_drop, List.length_cons] at this
    omega
  refine ⟨a, cap, at_ + 1, hl, by simp [go_sem, c0], by simp [go_sem, c1], by simp [go_sem, c2], fun o => by simp [go_sem, hf], ht.far fun g hg => ⟨hg, Below.heap_setCell _ _ _ _ (by have : g < z := hg; simp only; omega)⟩, fun ts e => ?_⟩
  cases e
  rw [List.drop_eq_getElem_cons hl] at hd
  exact (List.cons.inj hd).2
/-- It is told whether it is amiss. -/
theorem PS.setBad {W : World} {p z : Nat} {L : List Tok} {x : Option (List Tok)} (h : PS W p z L x) (hz : z ≤ p) (b : Bool) (y : Bool) (hy : y = (x.isNone || b)) : PS (W.setCell ⟨p, 2, none⟩ (.bool y)) p z L (if b then none else x) := by
  obtain ⟨a, cap, at_, h1, c0, c1, c2, hf, ht, hx⟩ := h
  refine ⟨a, cap, at_, h1, by simp [go_sem, c0], by simp [go_sem, c1], by subst hy; cases b <;> simp [go_sem, c2], fun o => by simp [go_sem, hf], ht.far fun g hg => ⟨hg, Below.heap_setCell _ _ _ _ (by have : g < z := hg; simp only; omega)⟩, fun ts e => ?_⟩
  cases b with
  | true => simp at e
  | false => exact hx ts (by simpa using e)
def kindX : Option (List Tok) → Int
  | some (t :: _) => t.kind
  | _ => 0
def coreX (x : Option (List Tok)) : Option (List Tc) := x.map (List.map core)
set_option maxHeartbeats 1000000 in
set_option maxRecDepth 100000 in
theorem pkind_any (L : List Tok) (hl : L.length ≤ 600) (x : Option (List Tok)) (p z : Nat) (w : World) (h : PS w p z L x) :
    Calls Tryz.prog 68 #[.pointer (some ⟨p, 0, none⟩)] w fun e w' => e = .returned (.int .i64 (kindX x)) ∧ Below w.heap.size w w' := by
  have hp : p < w.heap.size := h.lt
  obtain ⟨a, cap, at_, h1, c0, c1, c2, hf, ht, hx⟩ := h
  have HB0 := Lib.hid (Below.refl w.heap.size w)
  cases x with
  | none =>
    simp only [Option.isNone_none] at c2
    clear hf ht hx
    go_enter Tryz.func68, Tryz.ntmps68
    go_wp2_with fail
    go_big_quiet (fail)
    go_wp2_with fail
    go_ret
    exact ⟨rfl, below_drewN HB0.out _⟩
  | some ts =>
    have hd := hx ts rfl
    simp only [Option.isNone_some] at c2
    cases ts with
    | nil =>
      have hle : L.length = at_ := by
        have := congrArg List.length hd
        rw [List.length_drop, List.length_nil] at this
        omega
      rw [hle] at c0
      have hge : (at_ : Int) ≥ (at_ : Int) := Int.le_refl _
      have hgb : decide ((at_ : Int) ≥ (at_ : Int)) = true := decide_eq_true hge
      clear hf ht hx hd h1 hl hle
      go_enter Tryz.func68, Tryz.ntmps68
      go_wp2_with fail
      go_big_quiet (fail)
      go_wp2_with fail
      go_ret
      exact ⟨rfl, below_drewN HB0.out _⟩
    | cons t r =>
      have hlt : at_ < L.length := by
        have := congrArg List.length hd
        rw [List.length_drop, List.length_cons] at this
        omega
      obtain ⟨g, o, ha, hgz, hcl⟩ := ht (by omega)
      subst ha
      obtain ⟨d0, _, _, _⟩ := hcl at_ hlt
      have htt : L[at_] = t := by
        rw [List.drop_eq_getElem_cons hlt] at hd
        exact (List.cons.inj hd).1.symm
      rw [htt] at d0
      obtain ⟨k, hk⟩ : ∃ k, k = t.kind := ⟨_, rfl⟩
      have HK := Lib.hid (show kindX (some (t :: r)) = k from hk.symm)
      rw [HK.out]
      rw [← hk] at d0
      obtain ⟨n, hn⟩ : ∃ n, n = L.length := ⟨_, rfl⟩
      rw [← hn] at c0 hlt hl
      have hge : ¬ (at_ : Int) ≥ (n : Int) := by omega
      have hgb : decide ((at_ : Int) ≥ (n : Int)) = false := decide_eq_false hge
      have hlz : (at_ : Int) < (n : Int) := by omega
      have hgw : g < w.heap.size := World.block_lt_of_cell? w ⟨g, _, none⟩ d0
      clear hf ht hx hd h1 hcl htt hk hn
      go_enter Tryz.func68, Tryz.ntmps68
      go_wp2_with fail
      go_big_quiet (fail)
      go_wp2_with fail
      go_big_quiet (fail)
      go_wp2_with fail
      go_ret
      exact ⟨rfl, below_drewN (below_drewN HB0.out _) _⟩
theorem gr_drewN {w V : World} {r : Option Nat} (h : w.grownBy V r) (n : Nat) : w.grownBy (V.drewN n) r := gr_trans h (gr_of_below (below_drewN (Below.refl _ _) n))
theorem PS.drewN {W : World} {p z : Nat} {L : List Tok} {x : Option (List Tok)} (h : PS W p z L x) (n : Nat) : PS (W.drewN n) p z L x := h
theorem PS.step {W : World} {p z at_ : Nat} {L r : List Tok} {t : Tok} (h : PS W p z L (some (t :: r))) (hz : z ≤ p) (c : W.cell? ⟨p, 1, none⟩ = some (.int .i64 at_)) : PS (W.setCell ⟨p, 1, none⟩ (.int .i64 ((at_ : Int) + 1))) p z L (some r) := by
  obtain ⟨a, cap, at2, h1, c0, c1, c2, hf, ht, hx⟩ := h
  rw [c] at c1
  have e : (at_ : Int) = (at2 : Int) := by
    have := Option.some.inj c1
    injection this
  obtain rfl : at_ = at2 := by omega
  exact PS.next hz (hx _ rfl) c0 c c2 hf ht
/-- What takes tells. -/
def TkE (s : List UInt8) (x : Option (List Tok)) (p z : Nat) (L : List Tok) (w w' : World) (e : Ending) : Prop :=
  w.grownBy w' (some p) ∧ ((∃ t r, x = some (t :: r) ∧ takes s ((t :: r).map core) = some (r.map core) ∧ e = .returned (.bool true) ∧ PS w' p z L (some r)) ∨ ((coreX x).bind (takes s) = none ∧ e = .returned (.bool false) ∧ PS w' p z L x))
set_option maxHeartbeats 4000000 in
set_option maxRecDepth 100000 in
theorem ptakes_any (L : List Tok) (hl : L.length ≤ 600) (x : Option (List Tok)) (s : ByteArray) (p z : Nat) (hz : z ≤ p) (w : World) (h : PS w p z L x) :
    Calls Tryz.prog 44 #[.pointer (some ⟨p, 0, none⟩), .string s] w fun e w' => TkE s.data.toList x p z L w w' e := by
  have hp : p < w.heap.size := h.lt
  have CK := Lib.hid (pkind_any L hl x p z w h)
  have HX := Lib.hid h
  clear h
  cases x with
  | none =>
    go_enter Tryz.func44, Tryz.ntmps44
    go_wp2_with fail
    refine Calls.mono CK.out ?_
    rintro e w1 ⟨he, hb⟩
    obtain rfl : e = .returned (.int .i64 0) := he
    go_wp2_with fail
    go_ret
    exact ⟨gr_of_below hb, Or.inr ⟨rfl, rfl, HX.out.later hz hb⟩⟩
  | some ts =>
    cases ts with
    | nil =>
      go_enter Tryz.func44, Tryz.ntmps44
      go_wp2_with fail
      refine Calls.mono CK.out ?_
      rintro e w1 ⟨he, hb⟩
      obtain rfl : e = .returned (.int .i64 0) := he
      go_wp2_with fail
      go_ret
      exact ⟨gr_of_below hb, Or.inr ⟨rfl, rfl, HX.out.later hz hb⟩⟩
    | cons t r =>
      obtain ⟨k, hk⟩ : ∃ k, k = t.kind := ⟨_, rfl⟩
      obtain ⟨st, est, hst⟩ := bs_bytes t.str
      have HTK := Lib.hid (show (k = 2 ∨ k = 5) → st = s → takes s.data.toList ((t :: r).map core) = some (r.map core) from fun h1 h2 => by
        show (if (t.kind = 2 ∨ t.kind = 5) ∧ t.str = s.data.toList then some (r.map core) else none) = _
        rw [← hk, ← hst, if_pos ⟨h1, by rw [h2]⟩])
      have HTN := Lib.hid (show ¬ (k = 2 ∨ k = 5) ∨ ¬ st = s → (coreX (some (t :: r))).bind (takes s.data.toList) = none from fun h1 => by
        show (if (t.kind = 2 ∨ t.kind = 5) ∧ t.str = s.data.toList then some (r.map core) else none) = _
        rw [← hk, ← hst, if_neg (fun h => h1.elim (fun h2 => h2 h.1) fun h2 => h2 (by have := h.2; obtain ⟨⟨x⟩⟩ := st; obtain ⟨⟨y⟩⟩ := s; simpa using this))])
      have HK := Lib.hid (show kindX (some (t :: r)) = k from hk.symm)
      rw [HK.out] at CK
      go_enter Tryz.func44, Tryz.ntmps44
      go_wp2_with fail
      refine Calls.mono CK.out ?_
      rintro e w1 ⟨rfl, hb⟩
      have G1 := Lib.hid (show w.grownBy w1 (some p) from gr_of_below hb)
      have HX1 := Lib.hid (HX.out.later hz hb)
      clear hb
      obtain ⟨a, cap, at_, h1, c0, c1, c2, hf, ht, hx⟩ := HX1.out
      have hd := hx _ rfl
      have HD := Lib.hid hd
      have HT := Lib.hid ht
      have HFZ := Lib.hid hf
      have hfp : w1.frozen? ⟨p, 1, none⟩ = false := hf 1
      simp only [Option.isNone_some] at c2
      have hlt : at_ < L.length := by
        have := congrArg List.length hd
        rw [List.length_drop, List.length_cons] at this
        omega
      obtain ⟨g, o, ha, hgz, hcl⟩ := ht (by omega)
      subst ha
      obtain ⟨_, _, _, d3⟩ := hcl at_ hlt
      have htt : L[at_] = t := by
        rw [List.drop_eq_getElem_cons hlt] at hd
        exact (List.cons.inj hd).1.symm
      rw [htt, est] at d3
      have hgz2 : g < z := hgz
      have hgp : ¬ g = p := by omega
      have hgw : g < w1.heap.size := World.block_lt_of_cell? w1 ⟨g, _, none⟩ d3
      obtain ⟨n, hn⟩ : ∃ n, n = L.length := ⟨_, rfl⟩
      have HLN := Lib.hid hn
      rw [← hn] at c0 hlt hl
      have hlz : (at_ : Int) < (n : Int) := by omega
      have hpw : p < w1.heap.size := HX1.out.lt
      clear hf ht hx hd h1 hcl htt hk hn hst est hgz
      by_cases hk2 : k = 2
      · skip
        subst hk2
        by_cases hs : st = s
        · have HY := Lib.hid (HTK.out (Or.inl rfl) hs)
          subst hs
          go_wp2_with fail
          go_big_quiet (fail)
          go_wp2_with fail
          go_ret
          exact ⟨gr_set (gr_drewN G1.out _) _, Or.inl ⟨t, r, rfl, HY.out, rfl, PS.step (W := w1.drewN _) HX1.out hz c1⟩⟩
        · have h2l := ne_bytes hs
          have h2b : (st.toList == s.toList) = false := by rw [beq_eq_false_iff_ne]; exact h2l
          have HNO := Lib.hid (HTN.out (Or.inr hs))
          go_wp2_with fail
          go_big_quiet (fail)
          go_wp2_with fail
          go_ret
          exact ⟨gr_drewN G1.out _, Or.inr ⟨HNO.out, rfl, HX1.out.drewN _⟩⟩
      by_cases hk5 : k = 5
      · skip
        subst hk5
        by_cases hs : st = s
        · have HY := Lib.hid (HTK.out (Or.inr rfl) hs)
          subst hs
          go_wp2_with fail
          go_big_quiet (fail)
          go_wp2_with fail
          go_ret
          exact ⟨gr_set (gr_drewN G1.out _) _, Or.inl ⟨t, r, rfl, HY.out, rfl, PS.step (W := w1.drewN _) HX1.out hz c1⟩⟩
        · have h2l := ne_bytes hs
          have h2b : (st.toList == s.toList) = false := by rw [beq_eq_false_iff_ne]; exact h2l
          have HNO := Lib.hid (HTN.out (Or.inr hs))
          go_wp2_with fail
          go_big_quiet (fail)
          go_wp2_with fail
          go_ret
          exact ⟨gr_drewN G1.out _, Or.inr ⟨HNO.out, rfl, HX1.out.drewN _⟩⟩
      have h2b : (k == 2) = false := by rw [beq_eq_false_iff_ne]; exact hk2
      have h5b : (k == 5) = false := by rw [beq_eq_false_iff_ne]; exact hk5
      have h2e : (k != 2) = true := by rw [bne, h2b]; rfl
      have h5e : (k != 5) = true := by rw [bne, h5b]; rfl
      have h2d : decide (k = 2) = false := decide_eq_false hk2
      have h5d : decide (k = 5) = false := decide_eq_false hk5
      have HNO := Lib.hid (HTN.out (Or.inl (by omega)))
      go_wp2_with fail
      go_ret
      exact ⟨G1.out, Or.inr ⟨HNO.out, rfl, HX1.out⟩⟩
/-- What must tells. -/
def MuE (s : List UInt8) (x : Option (List Tok)) (p z : Nat) (L : List Tok) (w w' : World) (e : Ending) : Prop :=
  w.grownBy w' (some p) ∧ ∃ y, e = .returned (.tuple #[]) ∧ PS w' p z L y ∧ coreX y = (coreX x).bind (takes s)
set_option maxHeartbeats 4000000 in
set_option maxRecDepth 100000 in
theorem pmust_any (L : List Tok) (hl : L.length ≤ 600) (x : Option (List Tok)) (s : ByteArray) (p z : Nat) (hz : z ≤ p) (w : World) (h : PS w p z L x) :
    Calls Tryz.prog 89 #[.pointer (some ⟨p, 0, none⟩), .string s] w fun e w' => MuE s.data.toList x p z L w w' e := by
  have CT := Lib.hid (ptakes_any L hl x s p z hz w h)
  clear h
  go_enter Tryz.func89, Tryz.ntmps89
  go_wp2_with fail
  refine Calls.mono CT.out ?_
  rintro e w1 ⟨hg, ⟨t, r, rfl, hts, rfl, hps⟩ | ⟨hts, rfl, hps⟩⟩
  · have G1 := Lib.hid hg
    have HX1 := Lib.hid hps
    have HY := Lib.hid hts
    obtain ⟨a, cap, at_, h1, c0, c1, c2, hf, ht, hx⟩ := hps
    simp only [Option.isNone_some] at c2
    have hfp : w1.frozen? ⟨p, 2, none⟩ = false := hf 2
    have hpw : p < w1.heap.size := HX1.out.lt
    clear hg hts h1 c0 c1 hf ht hx
    go_wp2_with fail
    refine bodyPost_end (results_none rfl _ _ _) rfl ?_
    exact ⟨gr_set G1.out _, _, rfl, HX1.out.setBad hz false false rfl, HY.out.symm⟩
  · have G1 := Lib.hid hg
    have HX1 := Lib.hid hps
    have HY := Lib.hid hts
    obtain ⟨a, cap, at_, h1, c0, c1, c2, hf, ht, hx⟩ := hps
    have hfp : w1.frozen? ⟨p, 2, none⟩ = false := hf 2
    have hpw : p < w1.heap.size := HX1.out.lt
    clear hg hts h1 c0 c1 hf ht hx
    cases x with
    | none =>
      simp only [Option.isNone_none] at c2
      go_wp2_with fail
      refine bodyPost_end (results_none rfl _ _ _) rfl ?_
      exact ⟨gr_set G1.out _, _, rfl, HX1.out.setBad hz true true rfl, HY.out.symm⟩
    | some ts =>
      simp only [Option.isNone_some] at c2
      go_wp2_with fail
      refine bodyPost_end (results_none rfl _ _ _) rfl ?_
      exact ⟨gr_set G1.out _, _, rfl, HX1.out.setBad hz true true rfl, HY.out.symm⟩
end Go.Proofs.YtjffnjiggcfhcaaGreatDoor.Fl
namespace Go.Proofs.YtjffnjiggcfhcaaGreatDoor.Fl
open Go.RowKit Go.Proofs.YtjffnjiggcfhcaaGreatDoor.Tk
set_option linter.unusedVariables false
set_option linter.unusedSimpArgs false

/-- Block g is a row of four cells of type T, and may be written. -/
def R4 (T : TypeId) (W : World) (g : Nat) (cs : Array Value) : Prop := W.heap[g]? = some (.cells cs T (0, 0))
theorem R4.new (T : TypeId) (w : World) (cs : Array Value) : R4 T (w.alloc (.cells cs T)) w.heap.size cs := heap_alloc_new w _
theorem R4.lt {T : TypeId} {W : World} {g : Nat} {cs : Array Value} (h : R4 T W g cs) : g < W.heap.size := (Array.getElem?_eq_some_iff.1 h).1
theorem R4.same {T : TypeId} {W V : World} {g : Nat} {cs : Array Value} (h : R4 T W g cs) (e : V.heap[g]? = W.heap[g]?) : R4 T V g cs := e.trans h
theorem R4.later {T : TypeId} {W V : World} {g : Nat} {cs : Array Value} (h : R4 T W g cs) (hb : Below W.heap.size W V) : R4 T V g cs := h.same (hb.block g h.lt)
theorem R4.gr {T : TypeId} {W V : World} {g p : Nat} {cs : Array Value} (h : R4 T W g cs) (hg : W.grownBy V (some p)) (hne : g ≠ p) : R4 T V g cs := h.same (hg.block g h.lt (by simpa using hne))
theorem R4.alloc {T : TypeId} {W : World} {g : Nat} {cs : Array Value} (h : R4 T W g cs) (o : Obj) : R4 T (W.alloc o) g cs := h.same (Below.heap_alloc _ _ _ h.lt)
theorem R4.alloc2 {T : TypeId} {W : World} {g : Nat} {cs : Array Value} (h : R4 T W g cs) (o u : Obj) : R4 T ((W.alloc o).alloc u) g cs := (h.alloc o).alloc u
theorem R4.cell {T : TypeId} {W : World} {g p i : Nat} {cs : Array Value} (h : R4 T W g cs) (hne : g ≠ p) (v : Value) : R4 T (W.setCell ⟨p, i, none⟩ v) g cs := h.same (Below.heap_setCell _ _ _ _ hne)
theorem R4.set {T : TypeId} {W : World} {g : Nat} {cs : Array Value} (h : R4 T W g cs) (ds : Array Value) : R4 T (W.setRow g ds) g ds := setRow_heap W g cs ds _ _ h
theorem R4.four {T : TypeId} {W : World} {g : Nat} {x0 x1 x2 x3 : Value} (h : R4 T W g #[x0, x1, x2, x3]) : W.cell? ⟨g, 0, none⟩ = some x0 ∧ W.cell? ⟨g, 1, none⟩ = some x1 ∧ W.cell? ⟨g, 2, none⟩ = some x2 ∧ W.cell? ⟨g, 3, none⟩ = some x3 := by
  unfold R4 at h
  refine ⟨?_, ?_, ?_, ?_⟩ <;> simp [World.cell?, h]
theorem retT {s : Nat} {fn : Func} {R : Ending → World → Prop} {a : Act} {V : World} {q : Nat} {x0 x1 x2 x3 : Value} (hr : fn.results = #[.cell s 76]) (h2 : a.tmps.getD s undef = .pointer (some ⟨q, 0, none⟩)) (hb : V.cell? ⟨q, 0, none⟩ = some x0 ∧ V.cell? ⟨q, 1, none⟩ = some x1 ∧ V.cell? ⟨q, 2, none⟩ = some x2 ∧ V.cell? ⟨q, 3, none⟩ = some x3) (hd : a.defers = [])
    (hR : R (.returned (.agg #[x0, x1, x2, x3])) V) : bodyPost Tryz.prog fn R .ret a V := by
  obtain ⟨b0, b1, b2, b3⟩ := hb
  refine bodyPost_ret (v := .agg #[x0, x1, x2, x3]) ?_ hd hR
  rw [Array.getD_eq_getD_getElem?] at h2
  simp [results, hr, go_sem, h2, b0, b1, b2, b3]
theorem retA {s : Nat} {fn : Func} {R : Ending → World → Prop} {a : Act} {V : World} {q : Nat} {x0 x1 x2 x3 : Value} (hr : fn.results = #[.cell s 47]) (h2 : a.tmps.getD s undef = .pointer (some ⟨q, 0, none⟩)) (hb : V.cell? ⟨q, 0, none⟩ = some x0 ∧ V.cell? ⟨q, 1, none⟩ = some x1 ∧ V.cell? ⟨q, 2, none⟩ = some x2 ∧ V.cell? ⟨q, 3, none⟩ = some x3) (hd : a.defers = [])
    (hR : R (.returned (.agg #[x0, x1, x2, x3])) V) : bodyPost Tryz.prog fn R .ret a V := by
  obtain ⟨b0, b1, b2, b3⟩ := hb
  refine bodyPost_ret (v := .agg #[x0, x1, x2, x3]) ?_ hd hR
  rw [Array.getD_eq_getD_getElem?] at h2
  simp [results, hr, go_sem, h2, b0, b1, b2, b3]
theorem retF {s : Nat} {fn : Func} {R : Ending → World → Prop} {a : Act} {V : World} {q : Nat} {x0 x1 x2 x3 x4 : Value} (hr : fn.results = #[.cell s 25]) (h2 : a.tmps.getD s undef = .pointer (some ⟨q, 0, none⟩)) (hb : V.cell? ⟨q, 0, none⟩ = some x0 ∧ V.cell? ⟨q, 1, none⟩ = some x1 ∧ V.cell? ⟨q, 2, none⟩ = some x2 ∧ V.cell? ⟨q, 3, none⟩ = some x3 ∧ V.cell? ⟨q, 4, none⟩ = some x4) (hd : a.defers = [])
    (hR : R (.returned (.agg #[x0, x1, x2, x3, x4])) V) : bodyPost Tryz.prog fn R .ret a V := by
  obtain ⟨b0, b1, b2, b3, b4⟩ := hb
  refine bodyPost_ret (v := .agg #[x0, x1, x2, x3, x4]) ?_ hd hR
  rw [Array.getD_eq_getD_getElem?] at h2
  simp [results, hr, go_sem, h2, b0, b1, b2, b3, b4]
/-- What token tells. -/
def ToE (ka kb : Int) (x : Option (List Tok)) (p z : Nat) (L : List Tok) (w w' : World) (e : Ending) : Prop :=
  w.grownBy w' (some p) ∧ ((∃ t r, x = some (t :: r) ∧ (t.kind = ka ∨ t.kind = kb) ∧ e = .returned (.agg #[.int .i64 t.kind, .int .i64 (t.pos : Nat), .int .i64 t.num, bs t.str]) ∧ PS w' p z L (some r)) ∨
    ((∀ t r, x = some (t :: r) → ¬ (t.kind = ka ∨ t.kind = kb)) ∧ e = .returned (.agg #[.int .i64 0, .int .i64 0, .int .i64 0, .string ⟨#[]⟩]) ∧ PS w' p z L none))
set_option maxHeartbeats 4000000 in
set_option maxRecDepth 100000 in
theorem ptoken_any (L : List Tok) (hl : L.length ≤ 600) (ka kb : Int) (hab : ¬ ka = 0 ∧ ¬ kb = 0) (x : Option (List Tok)) (p z : Nat) (hz : z ≤ p) (w : World) (h : PS w p z L x) :
    Calls Tryz.prog 107 #[.pointer (some ⟨p, 0, none⟩), .int .i64 ka, .int .i64 kb] w fun e w' => ToE ka kb x p z L w w' e := by
  have hp : p < w.heap.size := h.lt
  have hqp : w.heap.size ≠ p := by omega
  have hpw0 : w.heap.size ≠ p := hqp
  obtain ⟨w1, hw1⟩ : ∃ v, v = w.alloc (.cells #[.int .i64 0, .int .i64 0, .int .i64 0, .string ⟨#[]⟩] 76) := ⟨_, rfl⟩
  have HW := Lib.hid hw1
  have CK := Lib.hid (pkind_any L hl x p z w1 (by rw [hw1]; exact h.alloc hz _))
  have X1 := Lib.hid (show R4 76 w1 w.heap.size #[.int .i64 0, .int .i64 0, .int .i64 0, .string ⟨#[]⟩] by rw [hw1]; exact R4.new ..)
  have HX1 := Lib.hid (show PS w1 p z L x by rw [hw1]; exact h.alloc hz _)
  have G1 := Lib.hid (show w.grownBy w1 (some p) by rw [hw1]; exact gr_alloc (gr_refl _ _) _)
  have hsz1 : w1.heap.size = w.heap.size + 1 := by rw [hw1]; simp
  clear hw1 h
  go_enter Tryz.func107, Tryz.ntmps107
  go_wp2_with fail
  rw [← HW.out]
  refine Calls.mono CK.out ?_
  rintro e w2 ⟨rfl, hb⟩
  have X2 := Lib.hid (X1.out.later hb)
  have HX2 := Lib.hid (HX1.out.later hz hb)
  have G2 := Lib.hid (G1.out.trans (gr_of_below hb))
  have hpw : p < w2.heap.size := HX2.out.lt
  have hsz2 : w1.heap.size ≤ w2.heap.size := hb.size
  clear hb CK
  obtain ⟨a, cap, at_, h1, c0, c1, c2, hf, ht, hx⟩ := HX2.out
  have hfp1 : w2.frozen? ⟨p, 1, none⟩ = false := hf 1
  have hfp2 : w2.frozen? ⟨p, 2, none⟩ = false := hf 2
  have HT := Lib.hid ht
  clear hf
  cases x with
  | none =>
    rw [show kindX none = 0 from rfl]
    clear ht hx h1
    go_wp2_with (skip; (refine wpList_store_rowTo rfl _ _ _ rfl rfl w.heap.size _ rfl rfl _ #[.int .i64 0, .int .i64 0, .int .i64 0, .string ⟨#[]⟩] (by first | exact X2.out | exact R4.alloc X2.out _ | exact R4.alloc2 X2.out _ _ | exact R4.cell X2.out hpw0 _) (by kernel_rfl) rfl (by simp [Value.oneCell']) ?_))
    refine retT Tryz.results107 rfl (((X2.out.cell hpw0 _).set _).four) rfl ?_
    exact ⟨gr_row (gr_set G2.out _) (Nat.le_refl _) _, Or.inr ⟨(fun t r h => by cases h), rfl, (PS.setBad HX2.out hz true true (by simp)).row hqp (by omega) _⟩⟩
  | some ts =>
    cases ts with
    | nil =>
      rw [show kindX (some []) = 0 from rfl]
      clear ht hx h1
      go_wp2_with (skip; (refine wpList_store_rowTo rfl _ _ _ rfl rfl w.heap.size _ rfl rfl _ #[.int .i64 0, .int .i64 0, .int .i64 0, .string ⟨#[]⟩] (by first | exact X2.out | exact R4.alloc X2.out _ | exact R4.alloc2 X2.out _ _ | exact R4.cell X2.out hpw0 _) (by kernel_rfl) rfl (by simp [Value.oneCell']) ?_))
      refine retT Tryz.results107 rfl (((X2.out.cell hpw0 _).set _).four) rfl ?_
      exact ⟨gr_row (gr_set G2.out _) (Nat.le_refl _) _, Or.inr ⟨(fun t r h => by cases h), rfl, (PS.setBad HX2.out hz true true (by simp)).row hqp (by omega) _⟩⟩
    | cons t r =>
      obtain ⟨k, hk⟩ : ∃ k, k = t.kind := ⟨_, rfl⟩
      rw [show kindX (some (t :: r)) = k from hk.symm]
      have HK := Lib.hid hk
      clear ht
      by_cases hko : k = ka ∨ k = kb
      · have hd := hx _ rfl
        simp only [Option.isNone_some] at c2
        have hlt : at_ < L.length := by
          have := congrArg List.length hd
          rw [List.length_drop, List.length_cons] at this
          omega
        obtain ⟨g, o, ha, hgz, hcl⟩ := HT.out (by omega)
        subst ha
        obtain ⟨d0, d1, d2, d3⟩ := hcl at_ hlt
        have htt : L[at_] = t := by
          rw [List.drop_eq_getElem_cons hlt] at hd
          exact (List.cons.inj hd).1.symm
        obtain ⟨st, est, hst⟩ := bs_bytes t.str
        obtain ⟨ps, hps⟩ : ∃ x, x = t.pos := ⟨_, rfl⟩
        obtain ⟨nm, hnm⟩ : ∃ x, x = t.num := ⟨_, rfl⟩
        rw [htt, ← hk] at d0
        rw [htt, ← hps] at d1
        rw [htt, ← hnm] at d2
        rw [htt, est] at d3
        have HV := Lib.hid (show Ending.returned (.agg #[.int .i64 k, .int .i64 (ps : Nat), .int .i64 nm, .string st]) = .returned (Value.agg #[.int .i64 t.kind, .int .i64 (t.pos : Nat), .int .i64 t.num, bs t.str]) by rw [hk, hps, hnm, est])
        have hgz2 : g < z := hgz
        have hgp : ¬ g = p := by omega
        have hgw : g < w2.heap.size := World.block_lt_of_cell? w2 ⟨g, _, none⟩ d0
        have hgq : ¬ g = w.heap.size := by omega
        obtain ⟨n, hn⟩ : ∃ n, n = L.length := ⟨_, rfl⟩
        rw [← hn] at c0 hlt hl
        have hlz : (at_ : Int) < (n : Int) := by omega
        have HPN := Lib.hid (HX2.out.step hz c1)
        have X3 := Lib.hid (show R4 76 (w2.setCell ⟨p, 1, none⟩ (.int .i64 ((at_ : Int) + 1))).drew w.heap.size #[.int .i64 0, .int .i64 0, .int .i64 0, .string ⟨#[]⟩] from X2.out.cell hpw0 _)
        have HS0 := Lib.hid (show (fun W => W.cell? ⟨p, 0, none⟩ = some (.slice (some ⟨g, o, none⟩) n cap) ∧ W.cell? ⟨p, 1, none⟩ = some (.int .i64 ((at_ : Int) + 1)) ∧ W.cell? ⟨g, o + at_ * 4, none⟩ = some (.int .i64 k) ∧ W.cell? ⟨g, o + at_ * 4 + 1, none⟩ = some (.int .i64 (ps : Nat)) ∧ W.cell? ⟨g, o + at_ * 4 + 2, none⟩ = some (.int .i64 nm) ∧ W.cell? ⟨g, o + at_ * 4 + 3, none⟩ = some (.string st) ∧ ∃ cs, R4 76 W w.heap.size cs) (w2.setCell ⟨p, 1, none⟩ (.int .i64 ((at_ : Int) + 1))).drew from ⟨by simp [go_sem, c0], by simp [go_sem, c1], by simp [go_sem, d0, hgp], by simp [go_sem, d1, hgp], by simp [go_sem, d2, hgp], by simp [go_sem, d3, hgp], _, X3.out⟩)
        have HS1 := Lib.hid (show (fun W => W.cell? ⟨p, 0, none⟩ = some (.slice (some ⟨g, o, none⟩) n cap) ∧ W.cell? ⟨p, 1, none⟩ = some (.int .i64 ((at_ : Int) + 1)) ∧ W.cell? ⟨g, o + at_ * 4, none⟩ = some (.int .i64 k) ∧ W.cell? ⟨g, o + at_ * 4 + 1, none⟩ = some (.int .i64 (ps : Nat)) ∧ W.cell? ⟨g, o + at_ * 4 + 2, none⟩ = some (.int .i64 nm) ∧ W.cell? ⟨g, o + at_ * 4 + 3, none⟩ = some (.string st) ∧ ∃ cs, R4 76 W w.heap.size cs) ((w2.setCell ⟨p, 1, none⟩ (.int .i64 ((at_ : Int) + 1))).drew.setRow w.heap.size #[.int .i64 k, .int .i64 (ps : Nat), .int .i64 nm, .string st]) from by
          obtain ⟨s0, s1, s2, s3, s4, s5, _⟩ := HS0.out
          have e1 := fun y => World.cell?_of_block (w := (w2.setCell ⟨p, 1, none⟩ (.int .i64 ((at_ : Int) + 1))).drew) (w' := (w2.setCell ⟨p, 1, none⟩ (.int .i64 ((at_ : Int) + 1))).drew.setRow w.heap.size #[.int .i64 k, .int .i64 (ps : Nat), .int .i64 nm, .string st]) (a := ⟨p, y, none⟩) (setRow_other _ w.heap.size p _ (fun e => hqp e.symm))
          have e2 := fun y => World.cell?_of_block (w := (w2.setCell ⟨p, 1, none⟩ (.int .i64 ((at_ : Int) + 1))).drew) (w' := (w2.setCell ⟨p, 1, none⟩ (.int .i64 ((at_ : Int) + 1))).drew.setRow w.heap.size #[.int .i64 k, .int .i64 (ps : Nat), .int .i64 nm, .string st]) (a := ⟨g, y, none⟩) (setRow_other _ w.heap.size g _ hgq)
          exact ⟨(e1 _).trans s0, (e1 _).trans s1, (e2 _).trans s2, (e2 _).trans s3, (e2 _).trans s4, (e2 _).trans s5, _, X3.out.set _⟩)
        have HKK := Lib.hid (show t.kind = ka ∨ t.kind = kb by rw [← hk]; exact hko)
        have hk0 : ¬ k = 0 := by omega
        have hk0b : (k == 0) = false := by rw [beq_eq_false_iff_ne]; exact hk0
        have hk0d : decide (k = 0) = false := decide_eq_false hk0
        have HSUB := Lib.hid (show IntKind.i64.wrap (at_ : Int) = (at_ : Int) from IntWalk.i64_in _ (by omega))
        clear hx h1 hd hcl htt hk hn hst est hgz hps hnm d0 d1 d2 d3
        by_cases hka : k = ka
        · subst hka
          have HS0 := HS0.out
          have HS1 := HS1.out
          have X3 := X3.out
          have hsub := HSUB.out
          go_wp2_with fail
          refine wp_region_held_drew (S := (fun W => W.cell? ⟨p, 0, none⟩ = some (.slice (some ⟨g, o, none⟩) n cap) ∧ W.cell? ⟨p, 1, none⟩ = some (.int .i64 ((at_ : Int) + 1)) ∧ W.cell? ⟨g, o + at_ * 4, none⟩ = some (.int .i64 k) ∧ W.cell? ⟨g, o + at_ * 4 + 1, none⟩ = some (.int .i64 (ps : Nat)) ∧ W.cell? ⟨g, o + at_ * 4 + 2, none⟩ = some (.int .i64 nm) ∧ W.cell? ⟨g, o + at_ * 4 + 3, none⟩ = some (.string st) ∧ ∃ cs, R4 76 W w.heap.size cs)) (by kernel_rfl) HS0 (fun hHeld => ?_)
          refine wpAnyH_take (i := 0) (v := ?vA0) rfl (by kernel_rfl) (by kernel_rfl) (by kernel_rfl) (fun _ _ _ h => h) (Or.inl ⟨by rfl, ?yA0⟩) hHeld ?rA0
          case yA0 => (intro W hSw; simp only [List.getElem_toArray, List.getElem_cons_zero]; go_simp; try (with_reducible rfl))
          simp only [List.getElem_toArray, List.getElem_cons_zero, Act.put, List.setIfInBounds_toArray, List.set_cons_zero, List.set_cons_succ]
          refine wpAnyH_take (i := 1) (v := ?vA1) rfl (by kernel_rfl) (by kernel_rfl) (by kernel_rfl) (fun _ _ _ h => h) (Or.inl ⟨by rfl, ?yA1⟩) hHeld ?rA1
          case yA1 => (intro W hSw; simp only [List.getElem_toArray, List.getElem_cons_succ, List.getElem_cons_zero]; go_simp; try (with_reducible rfl))
          simp only [List.getElem_toArray, List.getElem_cons_succ, List.getElem_cons_zero, Act.put, List.setIfInBounds_toArray, List.set_cons_zero, List.set_cons_succ]
          refine wpAnyH_take (i := 2) (v := ?vA2) rfl (by kernel_rfl) (by kernel_rfl) (by kernel_rfl) (fun _ _ _ h => h) (Or.inl ⟨by rfl, ?yA2⟩) hHeld ?rA2
          case yA2 => (intro W hSw; simp only [List.getElem_toArray, List.getElem_cons_succ, List.getElem_cons_zero]; go_simp; try (with_reducible rfl))
          simp only [List.getElem_toArray, List.getElem_cons_succ, List.getElem_cons_zero, Act.put, List.setIfInBounds_toArray, List.set_cons_zero, List.set_cons_succ]
          refine wpAnyH_take (i := 3) (v := ?vA3) rfl (by kernel_rfl) (by kernel_rfl) (by kernel_rfl) (fun _ _ _ h => h) (Or.inl ⟨by rfl, ?yA3⟩) hHeld ?rA3
          case yA3 => (intro W hSw; simp only [List.getElem_toArray, List.getElem_cons_succ, List.getElem_cons_zero]; go_simp; try (with_reducible rfl))
          simp only [List.getElem_toArray, List.getElem_cons_succ, List.getElem_cons_zero, Act.put, List.setIfInBounds_toArray, List.set_cons_zero, List.set_cons_succ]
          refine wpAnyH_take (i := 4) (v := ?vA4) rfl (by kernel_rfl) (by kernel_rfl) (by kernel_rfl) (fun _ _ _ h => h) (Or.inl ⟨by rfl, ?yA4⟩) hHeld ?rA4
          case yA4 => (intro W hSw; simp only [List.getElem_toArray, List.getElem_cons_succ, List.getElem_cons_zero]; go_simp; try (with_reducible rfl))
          simp only [List.getElem_toArray, List.getElem_cons_succ, List.getElem_cons_zero, Act.put, List.setIfInBounds_toArray, List.set_cons_zero, List.set_cons_succ]
          refine wpAnyH_take (i := 5) (v := ?vA5) rfl (by kernel_rfl) (by kernel_rfl) (by kernel_rfl) (fun _ _ _ h => h) (Or.inl ⟨by rfl, ?yA5⟩) hHeld ?rA5
          case yA5 => (intro W hSw; simp only [List.getElem_toArray, List.getElem_cons_succ, List.getElem_cons_zero]; go_simp; try (with_reducible rfl))
          simp only [List.getElem_toArray, List.getElem_cons_succ, List.getElem_cons_zero, Act.put, List.setIfInBounds_toArray, List.set_cons_zero, List.set_cons_succ]
          refine wpAnyH_take (i := 6) (v := ?vA6) rfl (by kernel_rfl) (by kernel_rfl) (by kernel_rfl) (fun _ _ _ h => h) (Or.inl ⟨by rfl, ?yA6⟩) hHeld ?rA6
          case yA6 => (intro W hSw; simp only [List.getElem_toArray, List.getElem_cons_succ, List.getElem_cons_zero]; go_simp; try (with_reducible rfl))
          simp only [List.getElem_toArray, List.getElem_cons_succ, List.getElem_cons_zero, Act.put, List.setIfInBounds_toArray, List.set_cons_zero, List.set_cons_succ]
          refine wpAnyH_take (i := 7) (v := ?vA7) rfl (by kernel_rfl) (by kernel_rfl) (by kernel_rfl) (fun _ _ _ h => h) (Or.inl ⟨by rfl, ?yA7⟩) hHeld ?rA7
          case yA7 => (intro W hSw; simp only [List.getElem_toArray, List.getElem_cons_succ, List.getElem_cons_zero]; go_simp; try (with_reducible rfl))
          simp only [List.getElem_toArray, List.getElem_cons_succ, List.getElem_cons_zero, Act.put, List.setIfInBounds_toArray, List.set_cons_zero, List.set_cons_succ]
          refine wpAnyH_take (i := 8) (v := .int .i64 at_) rfl (by kernel_rfl) (by kernel_rfl) (by kernel_rfl) (fun _ _ _ h => h) (Or.inl ⟨by rfl, ?yA8⟩) hHeld ?rA8
          case yA8 => (intro W hSw; simp only [List.getElem_toArray, List.getElem_cons_succ, List.getElem_cons_zero]; go_simp; try first | rfl | (simp [hsub]; done))
          simp only [List.getElem_toArray, List.getElem_cons_succ, List.getElem_cons_zero, Act.put, List.setIfInBounds_toArray, List.set_cons_zero, List.set_cons_succ]
          refine wpAnyH_take (i := 9) (v := ?vA9) rfl (by kernel_rfl) (by kernel_rfl) (by kernel_rfl) (fun _ _ _ h => h) (Or.inl ⟨by rfl, ?yA9⟩) hHeld ?rA9
          case yA9 => (intro W hSw; simp only [List.getElem_toArray, List.getElem_cons_succ, List.getElem_cons_zero]; go_simp; try (with_reducible rfl))
          simp only [List.getElem_toArray, List.getElem_cons_succ, List.getElem_cons_zero, Act.put, List.setIfInBounds_toArray, List.set_cons_zero, List.set_cons_succ]
          refine wpAnyH_take (i := 10) (v := ?vA10) rfl (by kernel_rfl) (by kernel_rfl) (by kernel_rfl) (fun _ _ _ h => h) (Or.inl ⟨by rfl, ?yA10⟩) hHeld ?rA10
          case yA10 => (intro W hSw; simp only [List.getElem_toArray, List.getElem_cons_succ, List.getElem_cons_zero]; go_simp; try (with_reducible rfl))
          simp only [List.getElem_toArray, List.getElem_cons_succ, List.getElem_cons_zero, Act.put, List.setIfInBounds_toArray, List.set_cons_zero, List.set_cons_succ]
          refine wpAnyH_ready (rs := [11]) (by kernel_rfl) (by simp) (AllReadyH.cons rfl (fun K hK => ?_) AllReadyH.nil)
          simp only [List.getElem_toArray, List.getElem_cons_succ, List.getElem_cons_zero]
          refine wp_store_row _ _ _ rfl w.heap.size #[.int .i64 k, .int .i64 (ps : Nat), .int .i64 nm, .string st] rfl rfl _ _ X3 (by kernel_rfl) rfl (by simp [Value.oneCell']) ?_
          refine hK.out _ _ (HS1) (fun hHeld1 => ?_)
          clear hK K hHeld hHeld1
          try simp only [List.getElem_toArray, List.getElem_cons_succ, List.getElem_cons_zero, Act.put, List.setIfInBounds_toArray, List.set_cons_zero, List.set_cons_succ]
          refine wpAnyH_done (by kernel_rfl) ?_ _
          go_wp2_with fail
          refine retT Tryz.results107 rfl (X3.set _).four rfl ?_
          exact ⟨gr_row (gr_drew (gr_set G2.out _)) (Nat.le_refl _) _, Or.inl ⟨t, r, rfl, HKK.out, HV.out, (HPN.out.keep rfl fun _ _ => rfl).row hqp (by omega) _⟩⟩
        · have hkb : k = kb := by omega
          have hkab : (k == ka) = false := by rw [beq_eq_false_iff_ne]; exact hka
          have hkad : decide (k = ka) = false := decide_eq_false hka
          have hkae : (k != ka) = true := by rw [bne, hkab]; rfl
          subst hkb
          have HS0 := HS0.out
          have HS1 := HS1.out
          have X3 := X3.out
          have hsub := HSUB.out
          go_wp2_with fail
          refine wp_region_held_drew (S := (fun W => W.cell? ⟨p, 0, none⟩ = some (.slice (some ⟨g, o, none⟩) n cap) ∧ W.cell? ⟨p, 1, none⟩ = some (.int .i64 ((at_ : Int) + 1)) ∧ W.cell? ⟨g, o + at_ * 4, none⟩ = some (.int .i64 k) ∧ W.cell? ⟨g, o + at_ * 4 + 1, none⟩ = some (.int .i64 (ps : Nat)) ∧ W.cell? ⟨g, o + at_ * 4 + 2, none⟩ = some (.int .i64 nm) ∧ W.cell? ⟨g, o + at_ * 4 + 3, none⟩ = some (.string st) ∧ ∃ cs, R4 76 W w.heap.size cs)) (by kernel_rfl) HS0 (fun hHeld => ?_)
          refine wpAnyH_take (i := 0) (v := ?vB0) rfl (by kernel_rfl) (by kernel_rfl) (by kernel_rfl) (fun _ _ _ h => h) (Or.inl ⟨by rfl, ?yB0⟩) hHeld ?rB0
          case yB0 => (intro W hSw; simp only [List.getElem_toArray, List.getElem_cons_zero]; go_simp; try (with_reducible rfl))
          simp only [List.getElem_toArray, List.getElem_cons_zero, Act.put, List.setIfInBounds_toArray, List.set_cons_zero, List.set_cons_succ]
          refine wpAnyH_take (i := 1) (v := ?vB1) rfl (by kernel_rfl) (by kernel_rfl) (by kernel_rfl) (fun _ _ _ h => h) (Or.inl ⟨by rfl, ?yB1⟩) hHeld ?rB1
          case yB1 => (intro W hSw; simp only [List.getElem_toArray, List.getElem_cons_succ, List.getElem_cons_zero]; go_simp; try (with_reducible rfl))
          simp only [List.getElem_toArray, List.getElem_cons_succ, List.getElem_cons_zero, Act.put, List.setIfInBounds_toArray, List.set_cons_zero, List.set_cons_succ]
          refine wpAnyH_take (i := 2) (v := ?vB2) rfl (by kernel_rfl) (by kernel_rfl) (by kernel_rfl) (fun _ _ _ h => h) (Or.inl ⟨by rfl, ?yB2⟩) hHeld ?rB2
          case yB2 => (intro W hSw; simp only [List.getElem_toArray, List.getElem_cons_succ, List.getElem_cons_zero]; go_simp; try (with_reducible rfl))
          simp only [List.getElem_toArray, List.getElem_cons_succ, List.getElem_cons_zero, Act.put, List.setIfInBounds_toArray, List.set_cons_zero, List.set_cons_succ]
          refine wpAnyH_take (i := 3) (v := ?vB3) rfl (by kernel_rfl) (by kernel_rfl) (by kernel_rfl) (fun _ _ _ h => h) (Or.inl ⟨by rfl, ?yB3⟩) hHeld ?rB3
          case yB3 => (intro W hSw; simp only [List.getElem_toArray, List.getElem_cons_succ, List.getElem_cons_zero]; go_simp; try (with_reducible rfl))
          simp only [List.getElem_toArray, List.getElem_cons_succ, List.getElem_cons_zero, Act.put, List.setIfInBounds_toArray, List.set_cons_zero, List.set_cons_succ]
          refine wpAnyH_take (i := 4) (v := ?vB4) rfl (by kernel_rfl) (by kernel_rfl) (by kernel_rfl) (fun _ _ _ h => h) (Or.inl ⟨by rfl, ?yB4⟩) hHeld ?rB4
          case yB4 => (intro W hSw; simp only [List.getElem_toArray, List.getElem_cons_succ, List.getElem_cons_zero]; go_simp; try (with_reducible rfl))
          simp only [List.getElem_toArray, List.getElem_cons_succ, List.getElem_cons_zero, Act.put, List.setIfInBounds_toArray, List.set_cons_zero, List.set_cons_succ]
          refine wpAnyH_take (i := 5) (v := ?vB5) rfl (by kernel_rfl) (by kernel_rfl) (by kernel_rfl) (fun _ _ _ h => h) (Or.inl ⟨by rfl, ?yB5⟩) hHeld ?rB5
          case yB5 => (intro W hSw; simp only [List.getElem_toArray, List.getElem_cons_succ, List.getElem_cons_zero]; go_simp; try (with_reducible rfl))
          simp only [List.getElem_toArray, List.getElem_cons_succ, List.getElem_cons_zero, Act.put, List.setIfInBounds_toArray, List.set_cons_zero, List.set_cons_succ]
          refine wpAnyH_take (i := 6) (v := ?vB6) rfl (by kernel_rfl) (by kernel_rfl) (by kernel_rfl) (fun _ _ _ h => h) (Or.inl ⟨by rfl, ?yB6⟩) hHeld ?rB6
          case yB6 => (intro W hSw; simp only [List.getElem_toArray, List.getElem_cons_succ, List.getElem_cons_zero]; go_simp; try (with_reducible rfl))
          simp only [List.getElem_toArray, List.getElem_cons_succ, List.getElem_cons_zero, Act.put, List.setIfInBounds_toArray, List.set_cons_zero, List.set_cons_succ]
          refine wpAnyH_take (i := 7) (v := ?vB7) rfl (by kernel_rfl) (by kernel_rfl) (by kernel_rfl) (fun _ _ _ h => h) (Or.inl ⟨by rfl, ?yB7⟩) hHeld ?rB7
          case yB7 => (intro W hSw; simp only [List.getElem_toArray, List.getElem_cons_succ, List.getElem_cons_zero]; go_simp; try (with_reducible rfl))
          simp only [List.getElem_toArray, List.getElem_cons_succ, List.getElem_cons_zero, Act.put, List.setIfInBounds_toArray, List.set_cons_zero, List.set_cons_succ]
          refine wpAnyH_take (i := 8) (v := .int .i64 at_) rfl (by kernel_rfl) (by kernel_rfl) (by kernel_rfl) (fun _ _ _ h => h) (Or.inl ⟨by rfl, ?yB8⟩) hHeld ?rB8
          case yB8 => (intro W hSw; simp only [List.getElem_toArray, List.getElem_cons_succ, List.getElem_cons_zero]; go_simp; try first | rfl | (simp [hsub]; done))
          simp only [List.getElem_toArray, List.getElem_cons_succ, List.getElem_cons_zero, Act.put, List.setIfInBounds_toArray, List.set_cons_zero, List.set_cons_succ]
          refine wpAnyH_take (i := 9) (v := ?vB9) rfl (by kernel_rfl) (by kernel_rfl) (by kernel_rfl) (fun _ _ _ h => h) (Or.inl ⟨by rfl, ?yB9⟩) hHeld ?rB9
          case yB9 => (intro W hSw; simp only [List.getElem_toArray, List.getElem_cons_succ, List.getElem_cons_zero]; go_simp; try (with_reducible rfl))
          simp only [List.getElem_toArray, List.getElem_cons_succ, List.getElem_cons_zero, Act.put, List.setIfInBounds_toArray, List.set_cons_zero, List.set_cons_succ]
          refine wpAnyH_take (i := 10) (v := ?vB10) rfl (by kernel_rfl) (by kernel_rfl) (by kernel_rfl) (fun _ _ _ h => h) (Or.inl ⟨by rfl, ?yB10⟩) hHeld ?rB10
          case yB10 => (intro W hSw; simp only [List.getElem_toArray, List.getElem_cons_succ, List.getElem_cons_zero]; go_simp; try (with_reducible rfl))
          simp only [List.getElem_toArray, List.getElem_cons_succ, List.getElem_cons_zero, Act.put, List.setIfInBounds_toArray, List.set_cons_zero, List.set_cons_succ]
          refine wpAnyH_ready (rs := [11]) (by kernel_rfl) (by simp) (AllReadyH.cons rfl (fun K hK => ?_) AllReadyH.nil)
          simp only [List.getElem_toArray, List.getElem_cons_succ, List.getElem_cons_zero]
          refine wp_store_row _ _ _ rfl w.heap.size #[.int .i64 k, .int .i64 (ps : Nat), .int .i64 nm, .string st] rfl rfl _ _ X3 (by kernel_rfl) rfl (by simp [Value.oneCell']) ?_
          refine hK.out _ _ (HS1) (fun hHeld1 => ?_)
          clear hK K hHeld hHeld1
          try simp only [List.getElem_toArray, List.getElem_cons_succ, List.getElem_cons_zero, Act.put, List.setIfInBounds_toArray, List.set_cons_zero, List.set_cons_succ]
          refine wpAnyH_done (by kernel_rfl) ?_ _
          go_wp2_with fail
          refine retT Tryz.results107 rfl (X3.set _).four rfl ?_
          exact ⟨gr_row (gr_drew (gr_set G2.out _)) (Nat.le_refl _) _, Or.inl ⟨t, r, rfl, HKK.out, HV.out, (HPN.out.keep rfl fun _ _ => rfl).row hqp (by omega) _⟩⟩
      · have hka : ¬ k = ka := by omega
        have hkb : ¬ k = kb := by omega
        have HNO := Lib.hid (show ∀ t' r', some (t :: r) = some (t' :: r') → ¬ (t'.kind = ka ∨ t'.kind = kb) from fun t' r' h => by cases h; rw [← hk]; exact hko)
        clear hx h1 hk
        have hkab : (k == ka) = false := by rw [beq_eq_false_iff_ne]; exact hka
        have hkbb : (k == kb) = false := by rw [beq_eq_false_iff_ne]; exact hkb
        have hkae : (k != ka) = true := by rw [bne, hkab]; rfl
        have hkbe : (k != kb) = true := by rw [bne, hkbb]; rfl
        have hkad : decide (k = ka) = false := decide_eq_false hka
        have hkbd : decide (k = kb) = false := decide_eq_false hkb
        by_cases hk0 : k = 0
        · subst hk0
          go_wp2_with (skip; (refine wpList_store_rowTo rfl _ _ _ rfl rfl w.heap.size _ rfl rfl _ #[.int .i64 0, .int .i64 0, .int .i64 0, .string ⟨#[]⟩] (by first | exact X2.out | exact R4.alloc X2.out _ | exact R4.alloc2 X2.out _ _ | exact R4.cell X2.out hpw0 _) (by kernel_rfl) rfl (by simp [Value.oneCell']) ?_))
          refine retT Tryz.results107 rfl (((X2.out.cell hpw0 _).set _).four) rfl ?_
          exact ⟨gr_row (gr_set G2.out _) (Nat.le_refl _) _, Or.inr ⟨(HNO.out), rfl, (PS.setBad HX2.out hz true true (by simp)).row hqp (by omega) _⟩⟩
        · have hk0b : (k == 0) = false := by rw [beq_eq_false_iff_ne]; exact hk0
          have hk0d : decide (k = 0) = false := decide_eq_false hk0
          go_wp2_with (skip; (refine wpList_store_rowTo rfl _ _ _ rfl rfl w.heap.size _ rfl rfl _ #[.int .i64 0, .int .i64 0, .int .i64 0, .string ⟨#[]⟩] (by first | exact X2.out | exact R4.alloc X2.out _ | exact R4.alloc2 X2.out _ _ | exact R4.cell X2.out hpw0 _) (by kernel_rfl) rfl (by simp [Value.oneCell']) ?_))
          refine retT Tryz.results107 rfl (((X2.out.cell hpw0 _).set _).four) rfl ?_
          exact ⟨gr_row (gr_set G2.out _) (Nat.le_refl _) _, Or.inr ⟨(HNO.out), rfl, (PS.setBad HX2.out hz true true (by simp)).row hqp (by omega) _⟩⟩
/-- What val tells. -/
def VaE (x : Option (List Tok)) (p z : Nat) (L : List Tok) (w w' : World) (e : Ending) : Prop :=
  w.grownBy w' (some p) ∧ ((∃ t r v, x = some (t :: r) ∧ valP ((t :: r).map core) = some (v, r.map core) ∧ v.name = [] ∧ rngV v ∧ v.str.length ≤ 500 ∧ e = .returned (.agg #[bs v.name, .bool v.text, .int .i64 v.num, bs v.str]) ∧ PS w' p z L (some r)) ∨
    ((coreX x).bind valP = none ∧ e = .returned (.agg #[.string ⟨#[]⟩, .bool false, .int .i64 0, .string ⟨#[]⟩]) ∧ PS w' p z L none))
set_option maxHeartbeats 4000000 in
set_option maxRecDepth 100000 in
theorem pval_any (L : List Tok) (hl : L.length ≤ 600) (hg : ∀ t ∈ L, TG t) (x : Option (List Tok)) (p z : Nat) (hz : z ≤ p) (w : World) (h : PS w p z L x) :
    Calls Tryz.prog 108 #[.pointer (some ⟨p, 0, none⟩)] w fun e w' => VaE x p z L w w' e := by
  have hp : p < w.heap.size := h.lt
  have hqp : w.heap.size ≠ p := by omega
  have HM := Lib.hid (show ∀ t r, x = some (t :: r) → TG t from fun t r e => by
    obtain ⟨a, cap, at_, _, _, _, _, _, _, hx⟩ := h
    exact hg t (List.mem_of_mem_drop (by rw [← hx _ e]; exact List.mem_cons_self ..)))
  obtain ⟨w1, hw1⟩ : ∃ v, v = w.alloc (.cells #[.string ⟨#[]⟩, .bool false, .int .i64 0, .string ⟨#[]⟩] 47) := ⟨_, rfl⟩
  have HW := Lib.hid hw1
  have CK := Lib.hid (ptoken_any L hl 3 4 (by omega) x p z hz w1 (by rw [hw1]; exact h.alloc hz _))
  have X1 := Lib.hid (show R4 47 w1 w.heap.size #[.string ⟨#[]⟩, .bool false, .int .i64 0, .string ⟨#[]⟩] by rw [hw1]; exact R4.new ..)
  have G1 := Lib.hid (show w.grownBy w1 (some p) by rw [hw1]; exact gr_alloc (gr_refl _ _) _)
  have hsz1 : w1.heap.size = w.heap.size + 1 := by rw [hw1]; simp
  clear hw1 h hg
  go_enter Tryz.func108, Tryz.ntmps108
  go_wp2_with fail
  rw [← HW.out]
  refine Calls.mono CK.out ?_
  rintro e w2 ⟨hgb, ⟨t, r, rfl, hk, rfl, hps⟩ | ⟨hno, rfl, hps⟩⟩
  · have X2 := Lib.hid (X1.out.gr hgb hqp)
    have HX2 := Lib.hid hps
    have G2 := Lib.hid (G1.out.trans hgb)
    have HTG := Lib.hid (HM.out t r rfl)
    have hsz2 : w1.heap.size ≤ w2.heap.size := hgb.size
    obtain ⟨st, est, hst⟩ := bs_bytes t.str
    obtain ⟨k, hkk⟩ : ∃ x, x = t.kind := ⟨_, rfl⟩
    obtain ⟨ps, hpp⟩ : ∃ x, x = t.pos := ⟨_, rfl⟩
    obtain ⟨nm, hnm⟩ : ∃ x, x = t.num := ⟨_, rfl⟩
    have HVP := Lib.hid (show valP ((t :: r).map core) = if k = 4 then some (⟨[], true, 0, t.str⟩, r.map core) else if k = 3 then some (⟨[], false, nm, []⟩, r.map core) else none by rw [hkk, hnm]; rfl)
    have HRN := Lib.hid (show -9223372036854775808 ≤ nm ∧ nm ≤ 9223372036854775807 ∧ t.str.length ≤ 500 by rw [hnm]; exact HTG.out.2.2.2.2)
    have HES := Lib.hid est
    rw [← hkk, ← hpp, ← hnm, est]
    rw [← hkk] at hk
    clear hgb hps est hst hkk hpp hnm
    by_cases h4 : k = 4
    · have HV := Lib.hid (show valP ((t :: r).map core) = some (⟨[], true, 0, t.str⟩, r.map core) by rw [HVP.out, if_pos h4])
      subst h4
      go_wp2_with (skip; (refine wpList_store_rowTo rfl _ _ _ rfl rfl w.heap.size _ rfl rfl _ #[.string ⟨#[]⟩, .bool false, .int .i64 0, .string ⟨#[]⟩] (by first | exact X2.out | exact R4.alloc X2.out _ | exact R4.alloc2 X2.out _ _) (by kernel_rfl) rfl (by simp [Value.oneCell']) ?_))
      refine retA Tryz.results108 rfl (((X2.out.alloc _).set _).four) rfl ?_
      exact ⟨gr_row (gr_alloc G2.out _) (Nat.le_refl _) _, Or.inl ⟨t, r, _, rfl, HV.out, rfl, (by constructor <;> simp), HRN.out.2.2, (by rw [← HES.out]; rfl), (HX2.out.alloc hz _).row hqp (by omega) _⟩⟩
    · have h3 : k = 3 := by omega
      have HV := Lib.hid (show valP ((t :: r).map core) = some (⟨[], false, nm, []⟩, r.map core) by rw [HVP.out, if_neg h4, if_pos h3])
      subst h3
      go_wp2_with (skip; (refine wpList_store_rowTo rfl _ _ _ rfl rfl w.heap.size _ rfl rfl _ #[.string ⟨#[]⟩, .bool false, .int .i64 0, .string ⟨#[]⟩] (by first | exact X2.out | exact R4.alloc X2.out _ | exact R4.alloc2 X2.out _ _) (by kernel_rfl) rfl (by simp [Value.oneCell']) ?_))
      refine retA Tryz.results108 rfl (((X2.out.alloc _).set _).four) rfl ?_
      exact ⟨gr_row (gr_alloc G2.out _) (Nat.le_refl _) _, Or.inl ⟨t, r, _, rfl, HV.out, rfl, ⟨HRN.out.1, HRN.out.2.1⟩, (by simp), rfl, (HX2.out.alloc hz _).row hqp (by omega) _⟩⟩
  · have X2 := Lib.hid (X1.out.gr hgb hqp)
    have HX2 := Lib.hid hps
    have G2 := Lib.hid (G1.out.trans hgb)
    have hsz2 : w1.heap.size ≤ w2.heap.size := hgb.size
    have HV := Lib.hid (show (coreX x).bind valP = none from by
      match x, hno with
      | none, _ => rfl
      | some [], _ => rfl
      | some (t :: r), hno =>
        have := hno t r rfl
        show (if t.kind = 4 then some ((⟨[], true, 0, t.str⟩ : Att), r.map core) else if t.kind = 3 then some (⟨[], false, t.num, []⟩, r.map core) else none) = none
        rw [if_neg (by omega), if_neg (by omega)])
    clear hgb hps hno
    go_wp2_with (skip; (refine wpList_store_rowTo rfl _ _ _ rfl rfl w.heap.size _ rfl rfl _ #[.string ⟨#[]⟩, .bool false, .int .i64 0, .string ⟨#[]⟩] (by first | exact X2.out | exact R4.alloc X2.out _ | exact R4.alloc2 X2.out _ _) (by kernel_rfl) rfl (by simp [Value.oneCell']) ?_))
    refine retA Tryz.results108 rfl (((X2.out.alloc _).set _).four) rfl ?_
    exact ⟨gr_row (gr_alloc G2.out _) (Nat.le_refl _) _, Or.inr ⟨HV.out, rfl, (HX2.out.alloc hz _).row hqp (by omega) _⟩⟩
end Go.Proofs.YtjffnjiggcfhcaaGreatDoor.Fl
