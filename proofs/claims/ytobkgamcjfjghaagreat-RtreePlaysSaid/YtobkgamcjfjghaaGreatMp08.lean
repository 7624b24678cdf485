/-
  Contract of package rsplit's cutsBy: for fewer than twenty rectangles, cuts of a row of all places into parts that have so many at least. Memory that was there is left as it was.
-/
import Derived.Test.YtobkgamcjfjghaaGreatMp07
import Derived.Test.YtobkgamcjfjghaaGreatMp06
import Derived.Test.YtobkgamcjfjghaaGreatMp03
import Derived.Test.YtobkgamcjfjghaaGreatMp01
import Derived.Deep.AppendLies
import Derived.Deep.Cut
import Derived.Deep.CutRange
namespace Go.Proofs.YtobkgamcjfjghaaGreat.Rs
open Go.RowKit Go.Proofs.YtobkgamcjfjghaaGreat.Pt Go.Proofs.YtobkgamcjfjghaaGreat.Rc Go.Proofs.YtobkgamcjfjghaaGreat.Pts Go.Proofs.YtobkgamcjfjghaaGreat.So
open Go.Proofs.YtobkgamcjfjghaaGreat.Rt (Rr setQ setQ_below A.infoRc)
set_option linter.unusedVariables false
set_option linter.unusedSimpArgs false
set_option maxHeartbeats 4000000
set_option maxRecDepth 100000
theorem infoCut : (Tryz.prog.info? 127).map (fun i => (i.zero, i.size, i.bytes)) = some (some (.agg #[.slice none 0 0, .int .i64 0, .int .i64 0, .int .i64 0, .int .u64 0]), 5, 56) := by kernel_rfl
/-- A cut's cells. -/
def cutL (x : Cut) : List Value := [.slice x.s x.n x.c, .int .i64 x.f, .int .i64 x.m, .int .i64 x.o, .int .u64 x.r]
theorem flat_at : ∀ (xs : List Cut) (k t : Nat) (hk : k < xs.length) (ht : t < 5), (xs.flatMap cutL)[k * 5 + t]? = (cutL xs[k])[t]?
  | x :: xs, 0, t, hk, ht => by
    rw [List.flatMap_cons, List.getElem?_append_left (by simp [cutL]; omega)]
    simp
  | x :: xs, k + 1, t, hk, ht => by
    rw [List.flatMap_cons, List.getElem?_append_right (by simp [cutL]; omega)]
    have e : (k + 1) * 5 + t - (cutL x).length = k * 5 + t := by simp [cutL]; omega
    rw [e]
    simpa using flat_at xs k t (by simpa using hk) ht
theorem flat_len (xs : List Cut) : (xs.flatMap cutL).length = xs.length * 5 := by
  induction xs with
  | nil => rfl
  | cons x xs ih => rw [List.flatMap_cons, List.length_append, ih]; simp [cutL]; omega
theorem flat_one (xs : List Cut) : ∀ u ∈ xs.flatMap cutL, u.oneCell' = true := by
  intro u hu
  obtain ⟨x, -, hx⟩ := List.mem_flatMap.1 hu
  simp only [cutL, List.mem_cons, List.not_mem_nil, or_false] at hx
  rcases hx with rfl | rfl | rfl | rfl | rfl <;> rfl
theorem own_bel {W V : World} {base k n : Nat} {t : TypeId} {v : Value} {xs : List Value} (h : W.ownsRow base t k v n xs) (hb : Below W.heap.size W V) : V.ownsRow base t k v n xs := by
  refine ⟨h.1, ?_⟩
  rcases h.2 with ⟨e, e2⟩ | ⟨g, c, cur, rfl, k1, k2, k3⟩
  · exact Or.inl ⟨e, e2⟩
  · exact Or.inr ⟨g, c, cur, rfl, k1, (hb.block g (Array.getElem?_eq_some_iff.1 k2).1).trans k2, k3⟩
theorem HI.bel {W V : World} {z g : Nat} {d : Array Int} (h : HI W g 0 d) (hb : Below z W V) (hg : g < z) : HI V g 0 d := fun i hi => ⟨(hb.cell (p := ⟨g, 0 + i, none⟩) hg).trans (h i hi).1, (hb.frozen (p := ⟨g, 0 + i, none⟩) hg).trans (h i hi).2⟩
/-- A row of cuts of one's own, as its cells. -/
theorem cs_of {W : World} {base : Nat} {v : Value} {xs : List Cut} (h : W.ownsRow base 127 5 v xs.length (xs.flatMap cutL)) (h0 : 0 < xs.length) (hl : xs.length ≤ 1000) :
    ∃ g c, v = .slice (some ⟨g, 0, none⟩) xs.length c ∧ base ≤ g ∧ CsAt W W.heap.size (some ⟨g, 0, none⟩) xs := by
  rcases h.2 with ⟨e, e2⟩ | ⟨g, c, cur, rfl, k1, k2, k3⟩
  · have h1 := h.1
    rw [flat_len] at h1
    omega
  · refine ⟨g, c, rfl, k1, hl, fun _ => ⟨g, 0, rfl, (Array.getElem?_eq_some_iff.1 k2).1, fun k hk => ?_⟩⟩
    have hat : ∀ t, t < 5 → W.cell? ⟨g, k * 5 + t, none⟩ = (cutL xs[k])[t]? := fun t ht => by
      have := h.cellAt (k * 5 + t) (by omega)
      rw [this, flat_at xs k t hk ht]
    simp only [Nat.zero_add]
    exact ⟨hat 0 (by decide), hat 1 (by decide), hat 2 (by decide), hat 3 (by decide), hat 4 (by decide)⟩
/-- A cut of all n places, each part at least m. -/
def Gc (W : World) (z n m : Nat) (x : Cut) : Prop := ∃ (g : Nat) (d : Array Int) (f : Nat), x.s = some ⟨g, 0, none⟩ ∧ g < z ∧ x.n = n ∧ x.c = n ∧ HI W g 0 d ∧ d.size = n ∧ Sort.PermIn 0 n (idA n) d ∧ x.f = (f : Int) ∧ m ≤ f ∧ f + m ≤ n
theorem Gc.later {W V : World} {z n m : Nat} {x : Cut} (h : Gc W z n m x) (hb : Below z W V) : Gc V z n m x := by
  obtain ⟨g, d, f, h1, h2, h3, h4, h5, h6⟩ := h
  exact ⟨g, d, f, h1, h2, h3, h4, h5.bel hb h2, h6⟩
theorem Gc.wide {W : World} {z z' n m : Nat} {x : Cut} (h : Gc W z n m x) (hz : z ≤ z') : Gc W z' n m x := by
  obtain ⟨g, d, f, h1, h2, h3⟩ := h
  exact ⟨g, d, f, h1, by omega, h3⟩
theorem set4_at {w W : World} {z g : Nat} (h : Below z w W) (hg : z ≤ g) (a b c d : Value) : Below z w ((((W.setCell ⟨g, 0, none⟩ a).setCell ⟨g, 1, none⟩ b).setCell ⟨g, 2, none⟩ c).setCell ⟨g, 3, none⟩ d) :=
  (((h.setCell hg _).setCell hg _).setCell hg _).setCell hg _
theorem Rr.rs {W : World} {g n : Nat} {os : List R4} (h : Rr W g n os) (hm : ∀ r ∈ os, may4 r) (hl : os.length ≤ 20) (f : Nat) : RsAt W W.heap.size (some ⟨g, 0, none⟩) (os.take f) ∧ RsAt W W.heap.size (some ⟨g, f * 4, none⟩) (os.drop f) := by
  refine ⟨⟨by rw [List.length_take]; omega, fun r hr => hm r (List.mem_of_mem_take hr), fun _ => ⟨g, 0, rfl, h.lt, fun k hk => ?_⟩⟩, by rw [List.length_drop]; omega, fun r hr => hm r (List.mem_of_mem_drop hr), fun _ => ⟨g, f * 4, rfl, h.lt, fun k hk => ?_⟩⟩
  · rw [List.length_take] at hk
    rw [List.getElem_take]
    simpa using h.at' k (by omega)
  · rw [List.length_drop] at hk
    rw [List.getElem_drop]
    have := h.at' (f + k) (by omega)
    rw [show (f + k) * 4 = f * 4 + k * 4 by omega] at this
    exact this
theorem c8_grown {W V v : World} {r : Option Nat} {g1 g2 : Nat} {a b c d e f g h : Value} (hg : W.grownBy V r) (h1 : some g1 ≠ r) (h2 : some g2 ≠ r) (hr : ∀ k, r = some k → v.heap.size ≤ k)
    (hc : W.cell? ⟨g1, 0, none⟩ = some a ∧ W.cell? ⟨g1, 1, none⟩ = some b ∧ W.cell? ⟨g1, 2, none⟩ = some c ∧ W.cell? ⟨g1, 3, none⟩ = some d ∧ W.cell? ⟨g2, 0, none⟩ = some e ∧ W.cell? ⟨g2, 1, none⟩ = some f ∧ W.cell? ⟨g2, 2, none⟩ = some g ∧ W.cell? ⟨g2, 3, none⟩ = some h ∧ v.heap.size ≤ W.heap.size ∧ Below v.heap.size v W) :
    V.cell? ⟨g1, 0, none⟩ = some a ∧ V.cell? ⟨g1, 1, none⟩ = some b ∧ V.cell? ⟨g1, 2, none⟩ = some c ∧ V.cell? ⟨g1, 3, none⟩ = some d ∧ V.cell? ⟨g2, 0, none⟩ = some e ∧ V.cell? ⟨g2, 1, none⟩ = some f ∧ V.cell? ⟨g2, 2, none⟩ = some g ∧ V.cell? ⟨g2, 3, none⟩ = some h ∧ v.heap.size ≤ V.heap.size ∧ Below v.heap.size v V := by
  obtain ⟨c0, c1, c2, c3, d0, d1, d2, d3, hz, hb⟩ := hc
  have k1 := hg.block g1 (World.block_lt_of_cell? W ⟨g1, 0, none⟩ c0) h1
  have k2 := hg.block g2 (World.block_lt_of_cell? W ⟨g2, 0, none⟩ d0) h2
  have q1 : ∀ x, V.cell? ⟨g1, x, none⟩ = W.cell? ⟨g1, x, none⟩ := fun x => World.cell?_of_block (w := W) (w' := V) (a := ⟨g1, x, none⟩) k1
  have q2 : ∀ x, V.cell? ⟨g2, x, none⟩ = W.cell? ⟨g2, x, none⟩ := fun x => World.cell?_of_block (w := W) (w' := V) (a := ⟨g2, x, none⟩) k2
  simp only [q1, q2]
  exact ⟨c0, c1, c2, c3, d0, d1, d2, d3, Nat.le_trans hz hg.size, hb.grown hg hz hr⟩
/-- The rectangles, put in order. -/
def ordL (l : List R4) (d : Array Int) (n : Nat) : List R4 := (List.range n).map fun t => l.getD (d[t]!).toNat ⟨0, 0, 0, 0⟩
theorem ordL_len (l : List R4) (d : Array Int) (n : Nat) : (ordL l d n).length = n := by simp [ordL]
theorem ordL_may {l : List R4} {d : Array Int} {n : Nat} (h : ∀ r ∈ l, may4 r) : ∀ r ∈ ordL l d n, may4 r := by
  intro r hr
  unfold ordL at hr
  obtain ⟨t, -, rfl⟩ := List.mem_map.1 hr
  rw [List.getD_eq_getElem?_getD]
  cases e : l[(d[t]!).toNat]? with
  | none => exact may0
  | some x => exact h x (List.mem_of_getElem? e)
def OdR (w2 : World) (z g n : Nat) (os : List R4) (i : Value) (wr : World) : Prop := ∃ j : Nat, j ≤ n ∧ i = .int .i64 j ∧ Rr wr g n (os.take j) ∧ Below z w2 wr
/-- The cuts so far. -/
def ByR (v : World) (g7 n mi : Nat) (v11 v12 : Value) (wr : World) : Prop := ∃ (f : Nat) (xs : List Cut), v12 = .int .i64 (f : Int) ∧ mi ≤ f ∧ f + mi ≤ n + 1 ∧ xs.length = f - mi ∧ wr.ownsRow v.heap.size 127 5 v11 xs.length (xs.flatMap cutL) ∧
  (∀ x ∈ xs, x.s = some ⟨g7, 0, none⟩ ∧ x.n = n ∧ x.c = n ∧ ∃ q : Nat, x.f = (q : Int) ∧ mi ≤ q ∧ q + mi ≤ n) ∧ Below v.heap.size v wr
/-- Both hulls in blocks of the call's own. -/
def ByC (v : World) (s13 s14 : Value) (wx : World) : Prop := ∃ (g1 g2 : Nat) (r1 r2 : R4), s13 = .pointer (some ⟨g1, 0, none⟩) ∧ s14 = .pointer (some ⟨g2, 0, none⟩) ∧ v.heap.size ≤ g1 ∧ v.heap.size ≤ g2 ∧ may4 r1 ∧ may4 r2 ∧ Rc4 wx g1 r1.x1 r1.y1 r1.x2 r1.y2 ∧ Rc4 wx g2 r2.x1 r2.y1 r2.x2 r2.y2 ∧ Below v.heap.size v wx
theorem ByC.name {v W : World} {s13 s14 : Value} (h : ByC v s13 s14 W) : ∃ wx, wx = W ∧ ByC v s13 s14 wx := ⟨W, rfl, h⟩
def ByE (w : World) (n mi : Nat) (e : Ending) (w' : World) : Prop := ∃ (g c : Nat) (xs : List Cut), e = .returned (.slice (some ⟨g, 0, none⟩) xs.length c) ∧ w.heap.size ≤ g ∧ 0 < xs.length ∧ xs.length ≤ 20 ∧ xs.length ≤ c ∧ CsAt w' w'.heap.size (some ⟨g, 0, none⟩) xs ∧ (∀ x ∈ xs, Gc w' w'.heap.size n mi x) ∧ Below w.heap.size w w'
/-- What a side must be. -/
def AtH (fn : FuncId) : Prop := ∀ (g2 g3 : Nat) (a : Option Addr) (c : Nat) (l : List R4) (x y : Nat) (w : World), w.cell? ⟨g2, 0, none⟩ = some (.func (.func 109) #[.func (.func fn) #[] #[]] #[]) → w.cell? ⟨g3, 0, none⟩ = some (.slice a l.length c) → RsAt w w.heap.size a l → x < l.length → y < l.length →
  Calls Tryz.prog 116 #[.int .i64 (x : Int), .int .i64 (y : Int), .pointer (some ⟨g2, 0, none⟩), .pointer (some ⟨g3, 0, none⟩)] w fun e w' => ∃ m : Int, e = .returned (.int .i64 m) ∧ Below w.heap.size w w'
theorem at_four : AtH 85 ∧ AtH 86 ∧ AtH 87 ∧ AtH 88 := ⟨at_lowX, at_highX, at_lowY, at_highY⟩
theorem cutsBy_any (fn : FuncId) (hf : AtH fn) (a : Option Addr) (c mi : Nat) (l : List R4) (w : World) (hl : RsAt w w.heap.size a l) (hn : l.length < 20) (h1 : 1 ≤ mi) (hm : 2 * mi ≤ l.length) :
    Calls Tryz.prog 84 #[.slice a l.length c, .int .i64 (mi : Int), .func (.func fn) #[] #[]] w (ByE w l.length mi) := by
  have CP := Lib.hid (places_any a l.length c 109 #[.func (.func fn) #[] #[]] #[] l w hn (fun V hB h2 h3 x y hx hy => hf (w.heap.size + 1) w.heap.size a c l x y V h2 h3 ((hl.later hB).wide hB.size) hx hy))
  have HL := Lib.hid hl
  have HMAY := Lib.hid hl.2.1
  obtain ⟨n, hnn⟩ : ∃ n, n = l.length := ⟨_, rfl⟩
  rw [← hnn] at CP hn hm ⊢
  have HN := Lib.hid hnn
  clear hl hnn hf
  have hnz : (n : Int) < 20 := by omega
  obtain ⟨K, hK⟩ : ∃ K, K = n - mi := ⟨_, rfl⟩
  have HK := Lib.hid hK
  have hw : IntKind.i64.wrap ((n : Int) - (mi : Int)) = (K : Int) := by
    rw [show (n : Int) - (mi : Int) = (K : Int) by omega]
    exact IntWalk.i64_in _ (by omega)
  have HWK := Lib.hid hw
  clear hK hw
  obtain ⟨i0, hi, hz0, hz1, hz2⟩ := info_parts A.infoRc
  obtain ⟨ic, ci, cz0, cz1, cz2⟩ := info_parts infoCut
  go_enter Tryz.func84, Tryz.ntmps84
  go_wp2_with fail
  refine Calls.mono CP.out ?_
  rintro e w1 ⟨g7, d, rfl, hg, hg7, hH, hs, hp, hb1⟩
  have B1 := Lib.hid hb1
  have HX := Lib.hid (And.intro hg (And.intro hg7 (And.intro hH (And.intro hs hp))))
  clear hb1 hg hg7 hH hs hp CP
  go_wp2_with (first | (at_make; refine wpList_make_full _ rfl _ _ 55 rfl w1.heap.size 26 i0 (.agg #[.int .i64 0, .int .i64 0, .int .i64 0, .int .i64 0]) 4 Tryz.underlying55 hi hz0 hz1 .i64 .i64 _ _ n rfl rfl rfl rfl (by rw [hz2]; omega) (by unfold maxLen; omega) (Nat.le_refl _) ?_; intro w2 hown hgrow; have B2 := Lib.hid ((Below.refl w1.heap.size w1).grown hgrow (Nat.le_refl _) (fun k hk => by cases hk))))
  have R0 := Lib.hid (Rr.made hown)
  have L2 := Lib.hid (hown.lt _ rfl).2
  clear hown hgrow
  obtain ⟨g8, hg8⟩ : ∃ g, g = w1.heap.size := ⟨_, rfl⟩
  rw [← hg8] at R0 L2 ⊢
  have G8 := Lib.hid hg8
  clear hg8
  obtain ⟨os, hos⟩ : ∃ os, os = ordL l d n := ⟨_, rfl⟩
  have HOS := Lib.hid hos
  clear hos
  go_loopw [24] (fun i wr => OdR w2 w1.heap.size g8 n os i wr) (fun i _ => n - (intOf i).toNat)
  case atStart => exact ⟨0, Nat.zero_le _, rfl, R0.out, Below.refl _ _⟩
  case round =>
    clear R0
    obtain ⟨j, hj, rfl, hR, hB⟩ := hrel
    have HR := Lib.hid hR
    have HB := Lib.hid hB
    clear hR hB
    by_cases hlt : j < n
    · have hlz : (j : Int) < (n : Int) := by omega
      have hj0 : (0 : Int) ≤ (j : Int) := by omega
      have BA := Lib.hid (show Below w1.heap.size w1 wr from B2.out.trans HB.out)
      obtain ⟨pl, epl, hpl⟩ := (idA_pl n).perm (by rw [idA_size]; exact HX.out.2.2.2.2) j (Nat.zero_le _) (by rw [HX.out.2.2.2.1]; exact hlt)
      have c7 := ((HX.out.2.2.1.bel BA.out HX.out.2.1) j (by rw [HX.out.2.2.2.1]; exact hlt)).1
      rw [epl, Nat.zero_add] at c7
      obtain ⟨q, o, rfl, hq, x, -, hxl, b0, b1, b2, b3⟩ := ((HL.out.later B1.out).later (BA.out.mono B1.out.size)).at (k := pl) (by rw [← HN.out]; exact hpl)
      have HXX := Lib.hid (show os[j]'(by rw [HOS.out, ordL_len]; exact hlt) = x by
        simp only [HOS.out, ordL, List.getElem_map, List.getElem_range, epl]
        rw [List.getD_eq_getElem?_getD, show ((pl : Int)).toNat = pl from rfl, List.getElem?_eq_getElem (by rw [← HN.out]; exact hpl), Option.getD_some]
        exact hxl)
      have hpz : (pl : Int) < (n : Int) := by omega
      have h := HR.out
      have s0 := h.has (j * 4) (by omega)
      have s1 := h.has (j * 4 + 1) (by omega)
      have s2 := h.has (j * 4 + 2) (by omega)
      have s3 := h.has (j * 4 + 3) (by omega)
      obtain ⟨u0, t0⟩ := Option.isSome_iff_exists.1 s0
      obtain ⟨u1, t1⟩ := Option.isSome_iff_exists.1 s1
      obtain ⟨u2, t2⟩ := Option.isSome_iff_exists.1 s2
      obtain ⟨u3, t3⟩ := Option.isSome_iff_exists.1 s3
      have tf := h.soft
      clear h s0 s1 s2 s3 epl hxl
      go_wp2_with fail
      go_roundw
      case rel =>
        refine ⟨j + 1, by omega, by go_num, ?_, setQ_below HB.out x (by rw [G8.out]; exact Nat.le_refl _)⟩
        rw [List.take_succ_eq_append_getElem (by rw [HOS.out, ordL_len]; exact hlt), HXX.out]
        exact HR.out.put j (by rw [List.length_take, HOS.out, ordL_len]; omega) hlt x
      case measure => simp [intOf]; omega
    · have hlz : ¬ (j : Int) < (n : Int) := by omega
      have hjn : j = n := by omega
      have h2 := HR.out
      rw [hjn, List.take_of_length_le (by rw [HOS.out, ordL_len]; exact Nat.le_refl _)] at h2
      have RF := Lib.hid h2
      have BV := Lib.hid (show Below w.heap.size w wr from B1.out.trans ((B2.out.trans HB.out).mono B1.out.size))
      have HI7 := Lib.hid (HX.out.2.2.1.bel (B2.out.trans HB.out) HX.out.2.1)
      have L7 := Lib.hid (show g7 < wr.heap.size from Nat.lt_of_lt_of_le HX.out.2.1 (B2.out.trans HB.out).size)
      clear h2 hjn HR HB B2 L2
      obtain ⟨v, hv⟩ : ∃ v, v = wr := ⟨_, rfl⟩
      rw [← hv] at RF BV HI7 L7
      have HV := Lib.hid hv
      go_wp2_with fail
      go_loopw [11, 12] (fun v11 v12 wr => ByR v g7 n mi v11 v12 wr) (fun _ v12 _ => n + 1 - nOf v12)
      case atStart =>
        rw [← hv]
        exact ⟨mi, [], rfl, Nat.le_refl _, by omega, by simp, World.ownsRow_nil _ _ _ _, by simp, Below.refl _ _⟩
      case round =>
        clear hv HV hlz
        obtain ⟨f, xs, rfl, hf1, hf2, hxl, hown, hxs, hB⟩ := hrel
        have OW := Lib.hid hown
        have HXS := Lib.hid hxs
        have BX := Lib.hid hB
        have HXL := Lib.hid hxl
        clear hown hxs hB hxl
        have hw := HWK.out
        by_cases hle : f ≤ K
        · have hlz : (f : Int) ≤ (K : Int) := by omega
          have hfn : f < n := by have := HK.out; omega
          obtain ⟨f2, hf2e⟩ : ∃ k, k = n - f := ⟨_, rfl⟩
          have k1 : f ≤ n := by omega
          have k3 : n - f = f2 := hf2e.symm
          have kz0 : (0 : Int) ≤ (f : Int) := by omega
          have kz1 : (f : Int) ≤ (n : Int) := by omega
          have k5 : ¬ n = f := by omega
          have k6 : ¬ f = n := by omega
          have HRS := Lib.hid (Rr.rs RF.out (by rw [HOS.out]; exact ordL_may HMAY.out) (by rw [HOS.out, ordL_len]; omega) f)
          have C1 : Hid (∀ W, Below wr.heap.size wr W → Calls Tryz.prog 93 #[.slice (some ⟨g8, 0, none⟩) f n] W fun e w' => ∃ r, may4 r ∧ e = .returned (rv r) ∧ Below W.heap.size W w') := Lib.hid fun W hb => by
            have := hull_any (some ⟨g8, 0, none⟩) n (os.take f) W (((HRS.out.1.later BX.out).later (hb.mono BX.out.size)).wide (BX.out.trans (hb.mono BX.out.size)).size)
            rw [List.length_take, HOS.out, ordL_len, Nat.min_eq_left k1] at this
            exact this
          have C2 : Hid (∀ W, Below wr.heap.size wr W → Calls Tryz.prog 93 #[.slice (some ⟨g8, f * 4, none⟩) f2 f2] W fun e w' => ∃ r, may4 r ∧ e = .returned (rv r) ∧ Below W.heap.size W w') := Lib.hid fun W hb => by
            have := hull_any (some ⟨g8, f * 4, none⟩) f2 (os.drop f) W (((HRS.out.2.later BX.out).later (hb.mono BX.out.size)).wide (BX.out.trans (hb.mono BX.out.size)).size)
            rw [List.length_drop, HOS.out, ordL_len, k3] at this
            exact this
          obtain ⟨wd, hwd⟩ : ∃ v, v = wr.drew := ⟨_, rfl⟩
          have HWD := Lib.hid hwd
          have B0 := Lib.hid (show Below wr.heap.size wr wd by rw [hwd]; exact (Below.refl _ _).drew)
          clear hwd hf2e HRS
          go_wp2_with fail
          go_cut [13, 14] from 38 to 74 (fun s13 s14 wx => ByC wr s13 s14 wx)
          case first =>
            refine wp_region_held_drew (S := (fun W => Below wr.heap.size wr W)) (by kernel_rfl) (by rw [← HWD.out]; exact B0.out) (fun hHeld => ?_)
            rw [← HWD.out] at hHeld ⊢
            refine wpAnyH_take (i := 0) (v := ?v0) rfl (by kernel_rfl) (by kernel_rfl) (by kernel_rfl) (fun _ _ _ h => h) (Or.inl ⟨by rfl, ?y0⟩) hHeld ?r0
            case y0 => (intro W hSw; simp only [List.getElem_toArray, List.getElem_cons_zero]; go_simp; try (with_reducible rfl))
            simp only [List.getElem_toArray, List.getElem_cons_zero, Act.put, List.setIfInBounds_toArray, List.set_cons_zero, List.set_cons_succ]
            refine wpAnyH_take (i := 1) (v := ?v1) rfl (by kernel_rfl) (by kernel_rfl) (by kernel_rfl) (fun _ _ _ h => h) (Or.inl ⟨by rfl, ?y1⟩) hHeld ?r1
            case y1 => (intro W hSw; simp only [List.getElem_toArray, List.getElem_cons_succ, List.getElem_cons_zero]; go_simp; try (with_reducible rfl))
            simp only [List.getElem_toArray, List.getElem_cons_succ, List.getElem_cons_zero, Act.put, List.setIfInBounds_toArray, List.set_cons_zero, List.set_cons_succ]
            refine wpAnyH_take (i := 2) (v := ?v2) rfl (by kernel_rfl) (by kernel_rfl) (by kernel_rfl) (fun _ _ _ h => h) (Or.inl ⟨by rfl, ?y2⟩) hHeld ?r2
            case y2 => (intro W hSw; simp only [List.getElem_toArray, List.getElem_cons_succ, List.getElem_cons_zero]; go_simp; try (with_reducible rfl))
            simp only [List.getElem_toArray, List.getElem_cons_succ, List.getElem_cons_zero, Act.put, List.setIfInBounds_toArray, List.set_cons_zero, List.set_cons_succ]
            refine wpAnyH_take (i := 4) (v := ?v4) rfl (by kernel_rfl) (by kernel_rfl) (by kernel_rfl) (fun _ _ _ h => h) (Or.inl ⟨by rfl, ?y4⟩) hHeld ?r4
            case y4 => (intro W hSw; simp only [List.getElem_toArray, List.getElem_cons_succ, List.getElem_cons_zero]; go_simp; try (with_reducible rfl))
            simp only [List.getElem_toArray, List.getElem_cons_succ, List.getElem_cons_zero, Act.put, List.setIfInBounds_toArray, List.set_cons_zero, List.set_cons_succ]
            refine wpAnyH_take (i := 5) (v := ?v5) rfl (by kernel_rfl) (by kernel_rfl) (by kernel_rfl) (fun _ _ _ h => h) (Or.inl ⟨by rfl, ?y5⟩) hHeld ?r5
            case y5 => (intro W hSw; simp only [List.getElem_toArray, List.getElem_cons_succ, List.getElem_cons_zero]; go_simp; try (with_reducible rfl))
            simp only [List.getElem_toArray, List.getElem_cons_succ, List.getElem_cons_zero, Act.put, List.setIfInBounds_toArray, List.set_cons_zero, List.set_cons_succ]
            refine wpAnyH_take (i := 6) (v := ?v6) rfl (by kernel_rfl) (by kernel_rfl) (by kernel_rfl) (fun _ _ _ h => h) (Or.inl ⟨by rfl, ?y6⟩) hHeld ?r6
            case y6 => (intro W hSw; simp only [List.getElem_toArray, List.getElem_cons_succ, List.getElem_cons_zero]; go_simp; try (with_reducible rfl))
            simp only [List.getElem_toArray, List.getElem_cons_succ, List.getElem_cons_zero, Act.put, List.setIfInBounds_toArray, List.set_cons_zero, List.set_cons_succ]
            refine wpAnyH_ready (rs := [3, 8, 9]) (by kernel_rfl) (by simp) (AllReadyH.cons rfl (fun K hK => ?_) (AllReadyH.cons rfl (fun K hK => ?_) (AllReadyH.cons rfl (fun K hK => ?_) AllReadyH.nil)))
            · simp only [List.getElem_toArray, List.getElem_cons_succ, List.getElem_cons_zero]
              go_simp
              go_at_call 93
              refine (C1.out _ B0.out).mono ?_
              rintro e W1 ⟨⟨p1, p2, p3, p4⟩, hmp, rfl, hb1⟩
              unfold rv
              dsimp only
              try go_wp2_with fail
              have Mp := Lib.hid hmp
              have B1 := Lib.hid (B0.out.trans (hb1.mono B0.out.size))
              clear hb1 hmp
              refine hK.out _ _ (by exact B1.out) (fun hHeld1 => ?_)
              clear hK K hHeld
              have hHeld := hHeld1; clear hHeld1
              try simp only [List.getElem_toArray, List.getElem_cons_succ, List.getElem_cons_zero, Act.put, List.setIfInBounds_toArray, List.set_cons_zero, List.set_cons_succ]
              refine wpAnyH_ready (rs := [7, 8, 9]) (by kernel_rfl) (by simp) (AllReadyH.cons rfl (fun K hK => ?_) (AllReadyH.cons rfl (fun K hK => ?_) (AllReadyH.cons rfl (fun K hK => ?_) AllReadyH.nil)))
              · simp only [List.getElem_toArray, List.getElem_cons_succ, List.getElem_cons_zero]
                go_simp
                go_at_call 93
                refine (C2.out _ B1.out).mono ?_
                rintro e W2 ⟨⟨q1, q2, q3, q4⟩, hmq, rfl, hb1⟩
                unfold rv
                dsimp only
                try go_wp2_with fail
                have Mq := Lib.hid hmq
                have B2 := Lib.hid (B1.out.trans (hb1.mono B1.out.size))
                clear hb1 hmq
                refine hK.out _ _ (by exact B2.out) (fun hHeld1 => ?_)
                clear hK K hHeld
                have hHeld := hHeld1; clear hHeld1
                try simp only [List.getElem_toArray, List.getElem_cons_succ, List.getElem_cons_zero, Act.put, List.setIfInBounds_toArray, List.set_cons_zero, List.set_cons_succ]
                refine wpAnyH_ready (rs := [8, 9]) (by kernel_rfl) (by simp) (AllReadyH.cons rfl (fun K hK => ?_) (AllReadyH.cons rfl (fun K hK => ?_) AllReadyH.nil))
                · simp only [List.getElem_toArray, List.getElem_cons_succ, List.getElem_cons_zero]
                  go_simp
                  obtain ⟨W3, hWn⟩ : ∃ v, v = W2.alloc (.cells #[.int .i64 0, .int .i64 0, .int .i64 0, .int .i64 0] 26) := ⟨_, rfl⟩
                  rw [← hWn]
                  have B3 := Lib.hid (show Below wr.heap.size wr W3 by rw [hWn]; exact B2.out.alloc B2.out.size _)
                  have RA3 := Lib.hid (show Rc4 W3 W2.heap.size 0 0 0 0 by rw [hWn]; exact Rc4.new ..)
                  have LA := Lib.hid (show wr.heap.size ≤ W2.heap.size from B2.out.size)
                  clear hWn
                  refine hK.out _ _ (by exact B3.out) (fun hHeld1 => ?_)
                  clear hK K hHeld
                  have hHeld := hHeld1; clear hHeld1
                  try simp only [List.getElem_toArray, List.getElem_cons_succ, List.getElem_cons_zero, Act.put, List.setIfInBounds_toArray, List.set_cons_zero, List.set_cons_succ]
                  refine wpAnyH_ready (rs := [9]) (by kernel_rfl) (by simp) (AllReadyH.cons rfl (fun K hK => ?_) AllReadyH.nil)
                  simp only [List.getElem_toArray, List.getElem_cons_succ, List.getElem_cons_zero]
                  go_simp
                  obtain ⟨W4, hWn⟩ : ∃ v, v = W3.alloc (.cells #[.int .i64 0, .int .i64 0, .int .i64 0, .int .i64 0] 26) := ⟨_, rfl⟩
                  rw [← hWn]
                  have B4 := Lib.hid (show Below wr.heap.size wr W4 by rw [hWn]; exact B3.out.alloc B3.out.size _)
                  have RA4 := Lib.hid (show Rc4 W4 W2.heap.size 0 0 0 0 by rw [hWn]; exact RA3.out.alloc _)
                  have RB4 := Lib.hid (show Rc4 W4 W3.heap.size 0 0 0 0 by rw [hWn]; exact Rc4.new ..)
                  have NE := Lib.hid (show W2.heap.size ≠ W3.heap.size by have := RA3.out.lt; omega)
                  have LB := Lib.hid (show wr.heap.size ≤ W3.heap.size from B3.out.size)
                  clear hWn
                  refine hK.out _ _ (by exact B4.out) (fun hHeld1 => ?_)
                  clear hK K hHeld
                  have hHeld := hHeld1; clear hHeld1
                  try simp only [List.getElem_toArray, List.getElem_cons_succ, List.getElem_cons_zero, Act.put, List.setIfInBounds_toArray, List.set_cons_zero, List.set_cons_succ]
                  obtain ⟨d0, d1, d2, d3, f0, f1, f2, f3⟩ := RA4.out
                  refine wpAnyH_ready (rs := [10]) (by kernel_rfl) (by simp) (AllReadyH.cons rfl (fun K hK => ?_) AllReadyH.nil)
                  simp only [List.getElem_toArray, List.getElem_cons_succ, List.getElem_cons_zero]
                  go_simp
                  clear d0 d1 d2 d3 f0 f1 f2 f3
                  have BE := Lib.hid (set4_at B4.out LA.out (.int .i64 p1) (.int .i64 p2) (.int .i64 p3) (.int .i64 p4))
                  have XA := Lib.hid (RA4.out.set p1 p2 p3 p4)
                  have XB := Lib.hid (Rc4.set4 RB4.out NE.out (.int .i64 p1) (.int .i64 p2) (.int .i64 p3) (.int .i64 p4))
                  refine hK.out _ _ (by exact BE.out) (fun hHeld1 => ?_)
                  clear hK K hHeld
                  have hHeld := hHeld1; clear hHeld1
                  try simp only [List.getElem_toArray, List.getElem_cons_succ, List.getElem_cons_zero, Act.put, List.setIfInBounds_toArray, List.set_cons_zero, List.set_cons_succ]
                  obtain ⟨d0, d1, d2, d3, f0, f1, f2, f3⟩ := XB.out
                  refine wpAnyH_ready (rs := [11]) (by kernel_rfl) (by simp) (AllReadyH.cons rfl (fun K hK => ?_) AllReadyH.nil)
                  simp only [List.getElem_toArray, List.getElem_cons_succ, List.getElem_cons_zero]
                  go_simp
                  clear d0 d1 d2 d3 f0 f1 f2 f3
                  have BF := Lib.hid (set4_at BE.out LB.out (.int .i64 q1) (.int .i64 q2) (.int .i64 q3) (.int .i64 q4))
                  have YA := Lib.hid (Rc4.set4 XA.out (Ne.symm NE.out) (.int .i64 q1) (.int .i64 q2) (.int .i64 q3) (.int .i64 q4))
                  have YB := Lib.hid (XB.out.set q1 q2 q3 q4)
                  refine hK.out _ _ (by exact BF.out) (fun hHeld1 => ?_)
                  clear hK K hHeld hHeld1
                  refine wpAnyH_done (by kernel_rfl) ?_ _
                  go_wp2_with fail
                  go_meet
                  case rel => exact ⟨_, _, ⟨p1, p2, p3, p4⟩, ⟨q1, q2, q3, q4⟩, rfl, rfl, LA.out, LB.out, Mp.out, Mq.out, YA.out, YB.out, BF.out⟩
                · simp only [List.getElem_toArray, List.getElem_cons_succ, List.getElem_cons_zero]
                  go_simp
                  obtain ⟨W5, hWn⟩ : ∃ v, v = W2.alloc (.cells #[.int .i64 0, .int .i64 0, .int .i64 0, .int .i64 0] 26) := ⟨_, rfl⟩
                  rw [← hWn]
                  have B5 := Lib.hid (show Below wr.heap.size wr W5 by rw [hWn]; exact B2.out.alloc B2.out.size _)
                  have RB5 := Lib.hid (show Rc4 W5 W2.heap.size 0 0 0 0 by rw [hWn]; exact Rc4.new ..)
                  have LB := Lib.hid (show wr.heap.size ≤ W2.heap.size from B2.out.size)
                  clear hWn
                  refine hK.out _ _ (by exact B5.out) (fun hHeld1 => ?_)
                  clear hK K hHeld
                  have hHeld := hHeld1; clear hHeld1
                  try simp only [List.getElem_toArray, List.getElem_cons_succ, List.getElem_cons_zero, Act.put, List.setIfInBounds_toArray, List.set_cons_zero, List.set_cons_succ]
                  refine wpAnyH_ready (rs := [8]) (by kernel_rfl) (by simp) (AllReadyH.cons rfl (fun K hK => ?_) AllReadyH.nil)
                  simp only [List.getElem_toArray, List.getElem_cons_succ, List.getElem_cons_zero]
                  go_simp
                  obtain ⟨W6, hWn⟩ : ∃ v, v = W5.alloc (.cells #[.int .i64 0, .int .i64 0, .int .i64 0, .int .i64 0] 26) := ⟨_, rfl⟩
                  rw [← hWn]
                  have B6 := Lib.hid (show Below wr.heap.size wr W6 by rw [hWn]; exact B5.out.alloc B5.out.size _)
                  have RA6 := Lib.hid (show Rc4 W6 W5.heap.size 0 0 0 0 by rw [hWn]; exact Rc4.new ..)
                  have RB6 := Lib.hid (show Rc4 W6 W2.heap.size 0 0 0 0 by rw [hWn]; exact RB5.out.alloc _)
                  have NE := Lib.hid (show W5.heap.size ≠ W2.heap.size by have := RB5.out.lt; omega)
                  have LA := Lib.hid (show wr.heap.size ≤ W5.heap.size from B5.out.size)
                  clear hWn
                  refine hK.out _ _ (by exact B6.out) (fun hHeld1 => ?_)
                  clear hK K hHeld
                  have hHeld := hHeld1; clear hHeld1
                  try simp only [List.getElem_toArray, List.getElem_cons_succ, List.getElem_cons_zero, Act.put, List.setIfInBounds_toArray, List.set_cons_zero, List.set_cons_succ]
                  obtain ⟨d0, d1, d2, d3, f0, f1, f2, f3⟩ := RA6.out
                  refine wpAnyH_ready (rs := [10]) (by kernel_rfl) (by simp) (AllReadyH.cons rfl (fun K hK => ?_) AllReadyH.nil)
                  simp only [List.getElem_toArray, List.getElem_cons_succ, List.getElem_cons_zero]
                  go_simp
                  clear d0 d1 d2 d3 f0 f1 f2 f3
                  have BE := Lib.hid (set4_at B6.out LA.out (.int .i64 p1) (.int .i64 p2) (.int .i64 p3) (.int .i64 p4))
                  have XA := Lib.hid (RA6.out.set p1 p2 p3 p4)
                  have XB := Lib.hid (Rc4.set4 RB6.out NE.out (.int .i64 p1) (.int .i64 p2) (.int .i64 p3) (.int .i64 p4))
                  refine hK.out _ _ (by exact BE.out) (fun hHeld1 => ?_)
                  clear hK K hHeld
                  have hHeld := hHeld1; clear hHeld1
                  try simp only [List.getElem_toArray, List.getElem_cons_succ, List.getElem_cons_zero, Act.put, List.setIfInBounds_toArray, List.set_cons_zero, List.set_cons_succ]
                  obtain ⟨d0, d1, d2, d3, f0, f1, f2, f3⟩ := XB.out
                  refine wpAnyH_ready (rs := [11]) (by kernel_rfl) (by simp) (AllReadyH.cons rfl (fun K hK => ?_) AllReadyH.nil)
                  simp only [List.getElem_toArray, List.getElem_cons_succ, List.getElem_cons_zero]
                  go_simp
                  clear d0 d1 d2 d3 f0 f1 f2 f3
                  have BF := Lib.hid (set4_at BE.out LB.out (.int .i64 q1) (.int .i64 q2) (.int .i64 q3) (.int .i64 q4))
                  have YA := Lib.hid (Rc4.set4 XA.out (Ne.symm NE.out) (.int .i64 q1) (.int .i64 q2) (.int .i64 q3) (.int .i64 q4))
                  have YB := Lib.hid (XB.out.set q1 q2 q3 q4)
                  refine hK.out _ _ (by exact BF.out) (fun hHeld1 => ?_)
                  clear hK K hHeld hHeld1
                  refine wpAnyH_done (by kernel_rfl) ?_ _
                  go_wp2_with fail
                  go_meet
                  case rel => exact ⟨_, _, ⟨p1, p2, p3, p4⟩, ⟨q1, q2, q3, q4⟩, rfl, rfl, LA.out, LB.out, Mp.out, Mq.out, YA.out, YB.out, BF.out⟩
              · simp only [List.getElem_toArray, List.getElem_cons_succ, List.getElem_cons_zero]
                go_simp
                obtain ⟨W7, hWn⟩ : ∃ v, v = W1.alloc (.cells #[.int .i64 0, .int .i64 0, .int .i64 0, .int .i64 0] 26) := ⟨_, rfl⟩
                rw [← hWn]
                have B7 := Lib.hid (show Below wr.heap.size wr W7 by rw [hWn]; exact B1.out.alloc B1.out.size _)
                have RA7 := Lib.hid (show Rc4 W7 W1.heap.size 0 0 0 0 by rw [hWn]; exact Rc4.new ..)
                have LA := Lib.hid (show wr.heap.size ≤ W1.heap.size from B1.out.size)
                clear hWn
                refine hK.out _ _ (by exact B7.out) (fun hHeld1 => ?_)
                clear hK K hHeld
                have hHeld := hHeld1; clear hHeld1
                try simp only [List.getElem_toArray, List.getElem_cons_succ, List.getElem_cons_zero, Act.put, List.setIfInBounds_toArray, List.set_cons_zero, List.set_cons_succ]
                refine wpAnyH_ready (rs := [7, 9]) (by kernel_rfl) (by simp) (AllReadyH.cons rfl (fun K hK => ?_) (AllReadyH.cons rfl (fun K hK => ?_) AllReadyH.nil))
                · simp only [List.getElem_toArray, List.getElem_cons_succ, List.getElem_cons_zero]
                  go_simp
                  go_at_call 93
                  refine (C2.out _ B7.out).mono ?_
                  rintro e W8 ⟨⟨q1, q2, q3, q4⟩, hmq, rfl, hb1⟩
                  unfold rv
                  dsimp only
                  try go_wp2_with fail
                  have Mq := Lib.hid hmq
                  have B8 := Lib.hid (B7.out.trans (hb1.mono B7.out.size))
                  have RA8 := Lib.hid (RA7.out.later hb1)
                  clear hb1 hmq
                  refine hK.out _ _ (by exact B8.out) (fun hHeld1 => ?_)
                  clear hK K hHeld
                  have hHeld := hHeld1; clear hHeld1
                  try simp only [List.getElem_toArray, List.getElem_cons_succ, List.getElem_cons_zero, Act.put, List.setIfInBounds_toArray, List.set_cons_zero, List.set_cons_succ]
                  refine wpAnyH_ready (rs := [9]) (by kernel_rfl) (by simp) (AllReadyH.cons rfl (fun K hK => ?_) AllReadyH.nil)
                  simp only [List.getElem_toArray, List.getElem_cons_succ, List.getElem_cons_zero]
                  go_simp
                  obtain ⟨W9, hWn⟩ : ∃ v, v = W8.alloc (.cells #[.int .i64 0, .int .i64 0, .int .i64 0, .int .i64 0] 26) := ⟨_, rfl⟩
                  rw [← hWn]
                  have B9 := Lib.hid (show Below wr.heap.size wr W9 by rw [hWn]; exact B8.out.alloc B8.out.size _)
                  have RA9 := Lib.hid (show Rc4 W9 W1.heap.size 0 0 0 0 by rw [hWn]; exact RA8.out.alloc _)
                  have RB9 := Lib.hid (show Rc4 W9 W8.heap.size 0 0 0 0 by rw [hWn]; exact Rc4.new ..)
                  have NE := Lib.hid (show W1.heap.size ≠ W8.heap.size by have := RA8.out.lt; omega)
                  have LB := Lib.hid (show wr.heap.size ≤ W8.heap.size from B8.out.size)
                  clear hWn
                  refine hK.out _ _ (by exact B9.out) (fun hHeld1 => ?_)
                  clear hK K hHeld
                  have hHeld := hHeld1; clear hHeld1
                  try simp only [List.getElem_toArray, List.getElem_cons_succ, List.getElem_cons_zero, Act.put, List.setIfInBounds_toArray, List.set_cons_zero, List.set_cons_succ]
                  obtain ⟨d0, d1, d2, d3, f0, f1, f2, f3⟩ := RA9.out
                  refine wpAnyH_ready (rs := [10]) (by kernel_rfl) (by simp) (AllReadyH.cons rfl (fun K hK => ?_) AllReadyH.nil)
                  simp only [List.getElem_toArray, List.getElem_cons_succ, List.getElem_cons_zero]
                  go_simp
                  clear d0 d1 d2 d3 f0 f1 f2 f3
                  have BE := Lib.hid (set4_at B9.out LA.out (.int .i64 p1) (.int .i64 p2) (.int .i64 p3) (.int .i64 p4))
                  have XA := Lib.hid (RA9.out.set p1 p2 p3 p4)
                  have XB := Lib.hid (Rc4.set4 RB9.out NE.out (.int .i64 p1) (.int .i64 p2) (.int .i64 p3) (.int .i64 p4))
                  refine hK.out _ _ (by exact BE.out) (fun hHeld1 => ?_)
                  clear hK K hHeld
                  have hHeld := hHeld1; clear hHeld1
                  try simp only [List.getElem_toArray, List.getElem_cons_succ, List.getElem_cons_zero, Act.put, List.setIfInBounds_toArray, List.set_cons_zero, List.set_cons_succ]
                  obtain ⟨d0, d1, d2, d3, f0, f1, f2, f3⟩ := XB.out
                  refine wpAnyH_ready (rs := [11]) (by kernel_rfl) (by simp) (AllReadyH.cons rfl (fun K hK => ?_) AllReadyH.nil)
                  simp only [List.getElem_toArray, List.getElem_cons_succ, List.getElem_cons_zero]
                  go_simp
                  clear d0 d1 d2 d3 f0 f1 f2 f3
                  have BF := Lib.hid (set4_at BE.out LB.out (.int .i64 q1) (.int .i64 q2) (.int .i64 q3) (.int .i64 q4))
                  have YA := Lib.hid (Rc4.set4 XA.out (Ne.symm NE.out) (.int .i64 q1) (.int .i64 q2) (.int .i64 q3) (.int .i64 q4))
                  have YB := Lib.hid (XB.out.set q1 q2 q3 q4)
                  refine hK.out _ _ (by exact BF.out) (fun hHeld1 => ?_)
                  clear hK K hHeld hHeld1
                  refine wpAnyH_done (by kernel_rfl) ?_ _
                  go_wp2_with fail
                  go_meet
                  case rel => exact ⟨_, _, ⟨p1, p2, p3, p4⟩, ⟨q1, q2, q3, q4⟩, rfl, rfl, LA.out, LB.out, Mp.out, Mq.out, YA.out, YB.out, BF.out⟩
                · simp only [List.getElem_toArray, List.getElem_cons_succ, List.getElem_cons_zero]
                  go_simp
                  obtain ⟨W10, hWn⟩ : ∃ v, v = W7.alloc (.cells #[.int .i64 0, .int .i64 0, .int .i64 0, .int .i64 0] 26) := ⟨_, rfl⟩
                  rw [← hWn]
                  have B10 := Lib.hid (show Below wr.heap.size wr W10 by rw [hWn]; exact B7.out.alloc B7.out.size _)
                  have RA10 := Lib.hid (show Rc4 W10 W1.heap.size 0 0 0 0 by rw [hWn]; exact RA7.out.alloc _)
                  have RB10 := Lib.hid (show Rc4 W10 W7.heap.size 0 0 0 0 by rw [hWn]; exact Rc4.new ..)
                  have NE := Lib.hid (show W1.heap.size ≠ W7.heap.size by have := RA7.out.lt; omega)
                  have LB := Lib.hid (show wr.heap.size ≤ W7.heap.size from B7.out.size)
                  clear hWn
                  refine hK.out _ _ (by exact B10.out) (fun hHeld1 => ?_)
                  clear hK K hHeld
                  have hHeld := hHeld1; clear hHeld1
                  try simp only [List.getElem_toArray, List.getElem_cons_succ, List.getElem_cons_zero, Act.put, List.setIfInBounds_toArray, List.set_cons_zero, List.set_cons_succ]
                  refine wpAnyH_ready (rs := [7]) (by kernel_rfl) (by simp) (AllReadyH.cons rfl (fun K hK => ?_) AllReadyH.nil)
                  simp only [List.getElem_toArray, List.getElem_cons_succ, List.getElem_cons_zero]
                  go_simp
                  go_at_call 93
                  refine (C2.out _ B10.out).mono ?_
                  rintro e W11 ⟨⟨q1, q2, q3, q4⟩, hmq, rfl, hb1⟩
                  unfold rv
                  dsimp only
                  try go_wp2_with fail
                  have Mq := Lib.hid hmq
                  have B11 := Lib.hid (B10.out.trans (hb1.mono B10.out.size))
                  have RA11 := Lib.hid (RA10.out.later hb1)
                  have RB11 := Lib.hid (RB10.out.later hb1)
                  clear hb1 hmq
                  refine hK.out _ _ (by exact B11.out) (fun hHeld1 => ?_)
                  clear hK K hHeld
                  have hHeld := hHeld1; clear hHeld1
                  try simp only [List.getElem_toArray, List.getElem_cons_succ, List.getElem_cons_zero, Act.put, List.setIfInBounds_toArray, List.set_cons_zero, List.set_cons_succ]
                  obtain ⟨d0, d1, d2, d3, f0, f1, f2, f3⟩ := RA11.out
                  refine wpAnyH_ready (rs := [10]) (by kernel_rfl) (by simp) (AllReadyH.cons rfl (fun K hK => ?_) AllReadyH.nil)
                  simp only [List.getElem_toArray, List.getElem_cons_succ, List.getElem_cons_zero]
                  go_simp
                  clear d0 d1 d2 d3 f0 f1 f2 f3
                  have BE := Lib.hid (set4_at B11.out LA.out (.int .i64 p1) (.int .i64 p2) (.int .i64 p3) (.int .i64 p4))
                  have XA := Lib.hid (RA11.out.set p1 p2 p3 p4)
                  have XB := Lib.hid (Rc4.set4 RB11.out NE.out (.int .i64 p1) (.int .i64 p2) (.int .i64 p3) (.int .i64 p4))
                  refine hK.out _ _ (by exact BE.out) (fun hHeld1 => ?_)
                  clear hK K hHeld
                  have hHeld := hHeld1; clear hHeld1
                  try simp only [List.getElem_toArray, List.getElem_cons_succ, List.getElem_cons_zero, Act.put, List.setIfInBounds_toArray, List.set_cons_zero, List.set_cons_succ]
                  obtain ⟨d0, d1, d2, d3, f0, f1, f2, f3⟩ := XB.out
                  refine wpAnyH_ready (rs := [11]) (by kernel_rfl) (by simp) (AllReadyH.cons rfl (fun K hK => ?_) AllReadyH.nil)
                  simp only [List.getElem_toArray, List.getElem_cons_succ, List.getElem_cons_zero]
                  go_simp
                  clear d0 d1 d2 d3 f0 f1 f2 f3
                  have BF := Lib.hid (set4_at BE.out LB.out (.int .i64 q1) (.int .i64 q2) (.int .i64 q3) (.int .i64 q4))
                  have YA := Lib.hid (Rc4.set4 XA.out (Ne.symm NE.out) (.int .i64 q1) (.int .i64 q2) (.int .i64 q3) (.int .i64 q4))
                  have YB := Lib.hid (XB.out.set q1 q2 q3 q4)
                  refine hK.out _ _ (by exact BF.out) (fun hHeld1 => ?_)
                  clear hK K hHeld hHeld1
                  refine wpAnyH_done (by kernel_rfl) ?_ _
                  go_wp2_with fail
                  go_meet
                  case rel => exact ⟨_, _, ⟨p1, p2, p3, p4⟩, ⟨q1, q2, q3, q4⟩, rfl, rfl, LA.out, LB.out, Mp.out, Mq.out, YA.out, YB.out, BF.out⟩
              · simp only [List.getElem_toArray, List.getElem_cons_succ, List.getElem_cons_zero]
                go_simp
                obtain ⟨W12, hWn⟩ : ∃ v, v = W1.alloc (.cells #[.int .i64 0, .int .i64 0, .int .i64 0, .int .i64 0] 26) := ⟨_, rfl⟩
                rw [← hWn]
                have B12 := Lib.hid (show Below wr.heap.size wr W12 by rw [hWn]; exact B1.out.alloc B1.out.size _)
                have RB12 := Lib.hid (show Rc4 W12 W1.heap.size 0 0 0 0 by rw [hWn]; exact Rc4.new ..)
                have LB := Lib.hid (show wr.heap.size ≤ W1.heap.size from B1.out.size)
                clear hWn
                refine hK.out _ _ (by exact B12.out) (fun hHeld1 => ?_)
                clear hK K hHeld
                have hHeld := hHeld1; clear hHeld1
                try simp only [List.getElem_toArray, List.getElem_cons_succ, List.getElem_cons_zero, Act.put, List.setIfInBounds_toArray, List.set_cons_zero, List.set_cons_succ]
                refine wpAnyH_ready (rs := [7, 8]) (by kernel_rfl) (by simp) (AllReadyH.cons rfl (fun K hK => ?_) (AllReadyH.cons rfl (fun K hK => ?_) AllReadyH.nil))
                · simp only [List.getElem_toArray, List.getElem_cons_succ, List.getElem_cons_zero]
                  go_simp
                  go_at_call 93
                  refine (C2.out _ B12.out).mono ?_
                  rintro e W13 ⟨⟨q1, q2, q3, q4⟩, hmq, rfl, hb1⟩
                  unfold rv
                  dsimp only
                  try go_wp2_with fail
                  have Mq := Lib.hid hmq
                  have B13 := Lib.hid (B12.out.trans (hb1.mono B12.out.size))
                  have RB13 := Lib.hid (RB12.out.later hb1)
                  clear hb1 hmq
                  refine hK.out _ _ (by exact B13.out) (fun hHeld1 => ?_)
                  clear hK K hHeld
                  have hHeld := hHeld1; clear hHeld1
                  try simp only [List.getElem_toArray, List.getElem_cons_succ, List.getElem_cons_zero, Act.put, List.setIfInBounds_toArray, List.set_cons_zero, List.set_cons_succ]
                  refine wpAnyH_ready (rs := [8]) (by kernel_rfl) (by simp) (AllReadyH.cons rfl (fun K hK => ?_) AllReadyH.nil)
                  simp only [List.getElem_toArray, List.getElem_cons_succ, List.getElem_cons_zero]
                  go_simp
                  obtain ⟨W14, hWn⟩ : ∃ v, v = W13.alloc (.cells #[.int .i64 0, .int .i64 0, .int .i64 0, .int .i64 0] 26) := ⟨_, rfl⟩
                  rw [← hWn]
                  have B14 := Lib.hid (show Below wr.heap.size wr W14 by rw [hWn]; exact B13.out.alloc B13.out.size _)
                  have RA14 := Lib.hid (show Rc4 W14 W13.heap.size 0 0 0 0 by rw [hWn]; exact Rc4.new ..)
                  have RB14 := Lib.hid (show Rc4 W14 W1.heap.size 0 0 0 0 by rw [hWn]; exact RB13.out.alloc _)
                  have NE := Lib.hid (show W13.heap.size ≠ W1.heap.size by have := RB13.out.lt; omega)
                  have LA := Lib.hid (show wr.heap.size ≤ W13.heap.size from B13.out.size)
                  clear hWn
                  refine hK.out _ _ (by exact B14.out) (fun hHeld1 => ?_)
                  clear hK K hHeld
                  have hHeld := hHeld1; clear hHeld1
                  try simp only [List.getElem_toArray, List.getElem_cons_succ, List.getElem_cons_zero, Act.put, List.setIfInBounds_toArray, List.set_cons_zero, List.set_cons_succ]
                  obtain ⟨d0, d1, d2, d3, f0, f1, f2, f3⟩ := RA14.out
                  refine wpAnyH_ready (rs := [10]) (by kernel_rfl) (by simp) (AllReadyH.cons rfl (fun K hK => ?_) AllReadyH.nil)
                  simp only [List.getElem_toArray, List.getElem_cons_succ, List.getElem_cons_zero]
                  go_simp
                  clear d0 d1 d2 d3 f0 f1 f2 f3
                  have BE := Lib.hid (set4_at B14.out LA.out (.int .i64 p1) (.int .i64 p2) (.int .i64 p3) (.int .i64 p4))
                  have XA := Lib.hid (RA14.out.set p1 p2 p3 p4)
                  have XB := Lib.hid (Rc4.set4 RB14.out NE.out (.int .i64 p1) (.int .i64 p2) (.int .i64 p3) (.int .i64 p4))
                  refine hK.out _ _ (by exact BE.out) (fun hHeld1 => ?_)
                  clear hK K hHeld
                  have hHeld := hHeld1; clear hHeld1
                  try simp only [List.getElem_toArray, List.getElem_cons_succ, List.getElem_cons_zero, Act.put, List.setIfInBounds_toArray, List.set_cons_zero, List.set_cons_succ]
                  obtain ⟨d0, d1, d2, d3, f0, f1, f2, f3⟩ := XB.out
                  refine wpAnyH_ready (rs := [11]) (by kernel_rfl) (by simp) (AllReadyH.cons rfl (fun K hK => ?_) AllReadyH.nil)
                  simp only [List.getElem_toArray, List.getElem_cons_succ, List.getElem_cons_zero]
                  go_simp
                  clear d0 d1 d2 d3 f0 f1 f2 f3
                  have BF := Lib.hid (set4_at BE.out LB.out (.int .i64 q1) (.int .i64 q2) (.int .i64 q3) (.int .i64 q4))
                  have YA := Lib.hid (Rc4.set4 XA.out (Ne.symm NE.out) (.int .i64 q1) (.int .i64 q2) (.int .i64 q3) (.int .i64 q4))
                  have YB := Lib.hid (XB.out.set q1 q2 q3 q4)
                  refine hK.out _ _ (by exact BF.out) (fun hHeld1 => ?_)
                  clear hK K hHeld hHeld1
                  refine wpAnyH_done (by kernel_rfl) ?_ _
                  go_wp2_with fail
                  go_meet
                  case rel => exact ⟨_, _, ⟨p1, p2, p3, p4⟩, ⟨q1, q2, q3, q4⟩, rfl, rfl, LA.out, LB.out, Mp.out, Mq.out, YA.out, YB.out, BF.out⟩
                · simp only [List.getElem_toArray, List.getElem_cons_succ, List.getElem_cons_zero]
                  go_simp
                  obtain ⟨W15, hWn⟩ : ∃ v, v = W12.alloc (.cells #[.int .i64 0, .int .i64 0, .int .i64 0, .int .i64 0] 26) := ⟨_, rfl⟩
                  rw [← hWn]
                  have B15 := Lib.hid (show Below wr.heap.size wr W15 by rw [hWn]; exact B12.out.alloc B12.out.size _)
                  have RA15 := Lib.hid (show Rc4 W15 W12.heap.size 0 0 0 0 by rw [hWn]; exact Rc4.new ..)
                  have RB15 := Lib.hid (show Rc4 W15 W1.heap.size 0 0 0 0 by rw [hWn]; exact RB12.out.alloc _)
                  have NE := Lib.hid (show W12.heap.size ≠ W1.heap.size by have := RB12.out.lt; omega)
                  have LA := Lib.hid (show wr.heap.size ≤ W12.heap.size from B12.out.size)
                  clear hWn
                  refine hK.out _ _ (by exact B15.out) (fun hHeld1 => ?_)
                  clear hK K hHeld
                  have hHeld := hHeld1; clear hHeld1
                  try simp only [List.getElem_toArray, List.getElem_cons_succ, List.getElem_cons_zero, Act.put, List.setIfInBounds_toArray, List.set_cons_zero, List.set_cons_succ]
                  refine wpAnyH_ready (rs := [7]) (by kernel_rfl) (by simp) (AllReadyH.cons rfl (fun K hK => ?_) AllReadyH.nil)
                  simp only [List.getElem_toArray, List.getElem_cons_succ, List.getElem_cons_zero]
                  go_simp
                  go_at_call 93
                  refine (C2.out _ B15.out).mono ?_
                  rintro e W16 ⟨⟨q1, q2, q3, q4⟩, hmq, rfl, hb1⟩
                  unfold rv
                  dsimp only
                  try go_wp2_with fail
                  have Mq := Lib.hid hmq
                  have B16 := Lib.hid (B15.out.trans (hb1.mono B15.out.size))
                  have RA16 := Lib.hid (RA15.out.later hb1)
                  have RB16 := Lib.hid (RB15.out.later hb1)
                  clear hb1 hmq
                  refine hK.out _ _ (by exact B16.out) (fun hHeld1 => ?_)
                  clear hK K hHeld
                  have hHeld := hHeld1; clear hHeld1
                  try simp only [List.getElem_toArray, List.getElem_cons_succ, List.getElem_cons_zero, Act.put, List.setIfInBounds_toArray, List.set_cons_zero, List.set_cons_succ]
                  obtain ⟨d0, d1, d2, d3, f0, f1, f2, f3⟩ := RA16.out
                  refine wpAnyH_ready (rs := [10]) (by kernel_rfl) (by simp) (AllReadyH.cons rfl (fun K hK => ?_) AllReadyH.nil)
                  simp only [List.getElem_toArray, List.getElem_cons_succ, List.getElem_cons_zero]
                  go_simp
                  clear d0 d1 d2 d3 f0 f1 f2 f3
                  have BE := Lib.hid (set4_at B16.out LA.out (.int .i64 p1) (.int .i64 p2) (.int .i64 p3) (.int .i64 p4))
                  have XA := Lib.hid (RA16.out.set p1 p2 p3 p4)
                  have XB := Lib.hid (Rc4.set4 RB16.out NE.out (.int .i64 p1) (.int .i64 p2) (.int .i64 p3) (.int .i64 p4))
                  refine hK.out _ _ (by exact BE.out) (fun hHeld1 => ?_)
                  clear hK K hHeld
                  have hHeld := hHeld1; clear hHeld1
                  try simp only [List.getElem_toArray, List.getElem_cons_succ, List.getElem_cons_zero, Act.put, List.setIfInBounds_toArray, List.set_cons_zero, List.set_cons_succ]
                  obtain ⟨d0, d1, d2, d3, f0, f1, f2, f3⟩ := XB.out
                  refine wpAnyH_ready (rs := [11]) (by kernel_rfl) (by simp) (AllReadyH.cons rfl (fun K hK => ?_) AllReadyH.nil)
                  simp only [List.getElem_toArray, List.getElem_cons_succ, List.getElem_cons_zero]
                  go_simp
                  clear d0 d1 d2 d3 f0 f1 f2 f3
                  have BF := Lib.hid (set4_at BE.out LB.out (.int .i64 q1) (.int .i64 q2) (.int .i64 q3) (.int .i64 q4))
                  have YA := Lib.hid (Rc4.set4 XA.out (Ne.symm NE.out) (.int .i64 q1) (.int .i64 q2) (.int .i64 q3) (.int .i64 q4))
                  have YB := Lib.hid (XB.out.set q1 q2 q3 q4)
                  refine hK.out _ _ (by exact BF.out) (fun hHeld1 => ?_)
                  clear hK K hHeld hHeld1
                  refine wpAnyH_done (by kernel_rfl) ?_ _
                  go_wp2_with fail
                  go_meet
                  case rel => exact ⟨_, _, ⟨p1, p2, p3, p4⟩, ⟨q1, q2, q3, q4⟩, rfl, rfl, LA.out, LB.out, Mp.out, Mq.out, YA.out, YB.out, BF.out⟩
            · simp only [List.getElem_toArray, List.getElem_cons_succ, List.getElem_cons_zero]
              go_simp
              obtain ⟨W17, hWn⟩ : ∃ v, v = wd.alloc (.cells #[.int .i64 0, .int .i64 0, .int .i64 0, .int .i64 0] 26) := ⟨_, rfl⟩
              rw [← hWn]
              have B17 := Lib.hid (show Below wr.heap.size wr W17 by rw [hWn]; exact B0.out.alloc B0.out.size _)
              have RA17 := Lib.hid (show Rc4 W17 wd.heap.size 0 0 0 0 by rw [hWn]; exact Rc4.new ..)
              have LA := Lib.hid (show wr.heap.size ≤ wd.heap.size from B0.out.size)
              clear hWn
              refine hK.out _ _ (by exact B17.out) (fun hHeld1 => ?_)
              clear hK K hHeld
              have hHeld := hHeld1; clear hHeld1
              try simp only [List.getElem_toArray, List.getElem_cons_succ, List.getElem_cons_zero, Act.put, List.setIfInBounds_toArray, List.set_cons_zero, List.set_cons_succ]
              refine wpAnyH_ready (rs := [3, 9]) (by kernel_rfl) (by simp) (AllReadyH.cons rfl (fun K hK => ?_) (AllReadyH.cons rfl (fun K hK => ?_) AllReadyH.nil))
              · simp only [List.getElem_toArray, List.getElem_cons_succ, List.getElem_cons_zero]
                go_simp
                go_at_call 93
                refine (C1.out _ B17.out).mono ?_
                rintro e W18 ⟨⟨p1, p2, p3, p4⟩, hmp, rfl, hb1⟩
                unfold rv
                dsimp only
                try go_wp2_with fail
                have Mp := Lib.hid hmp
                have B18 := Lib.hid (B17.out.trans (hb1.mono B17.out.size))
                have RA18 := Lib.hid (RA17.out.later hb1)
                clear hb1 hmp
                refine hK.out _ _ (by exact B18.out) (fun hHeld1 => ?_)
                clear hK K hHeld
                have hHeld := hHeld1; clear hHeld1
                try simp only [List.getElem_toArray, List.getElem_cons_succ, List.getElem_cons_zero, Act.put, List.setIfInBounds_toArray, List.set_cons_zero, List.set_cons_succ]
                refine wpAnyH_ready (rs := [7, 9]) (by kernel_rfl) (by simp) (AllReadyH.cons rfl (fun K hK => ?_) (AllReadyH.cons rfl (fun K hK => ?_) AllReadyH.nil))
                · simp only [List.getElem_toArray, List.getElem_cons_succ, List.getElem_cons_zero]
                  go_simp
                  go_at_call 93
                  refine (C2.out _ B18.out).mono ?_
                  rintro e W19 ⟨⟨q1, q2, q3, q4⟩, hmq, rfl, hb1⟩
                  unfold rv
                  dsimp only
                  try go_wp2_with fail
                  have Mq := Lib.hid hmq
                  have B19 := Lib.hid (B18.out.trans (hb1.mono B18.out.size))
                  have RA19 := Lib.hid (RA18.out.later hb1)
                  clear hb1 hmq
                  refine hK.out _ _ (by exact B19.out) (fun hHeld1 => ?_)
                  clear hK K hHeld
                  have hHeld := hHeld1; clear hHeld1
                  try simp only [List.getElem_toArray, List.getElem_cons_succ, List.getElem_cons_zero, Act.put, List.setIfInBounds_toArray, List.set_cons_zero, List.set_cons_succ]
                  refine wpAnyH_ready (rs := [9]) (by kernel_rfl) (by simp) (AllReadyH.cons rfl (fun K hK => ?_) AllReadyH.nil)
                  simp only [List.getElem_toArray, List.getElem_cons_succ, List.getElem_cons_zero]
                  go_simp
                  obtain ⟨W20, hWn⟩ : ∃ v, v = W19.alloc (.cells #[.int .i64 0, .int .i64 0, .int .i64 0, .int .i64 0] 26) := ⟨_, rfl⟩
                  rw [← hWn]
                  have B20 := Lib.hid (show Below wr.heap.size wr W20 by rw [hWn]; exact B19.out.alloc B19.out.size _)
                  have RA20 := Lib.hid (show Rc4 W20 wd.heap.size 0 0 0 0 by rw [hWn]; exact RA19.out.alloc _)
                  have RB20 := Lib.hid (show Rc4 W20 W19.heap.size 0 0 0 0 by rw [hWn]; exact Rc4.new ..)
                  have NE := Lib.hid (show wd.heap.size ≠ W19.heap.size by have := RA19.out.lt; omega)
                  have LB := Lib.hid (show wr.heap.size ≤ W19.heap.size from B19.out.size)
                  clear hWn
                  refine hK.out _ _ (by exact B20.out) (fun hHeld1 => ?_)
                  clear hK K hHeld
                  have hHeld := hHeld1; clear hHeld1
                  try simp only [List.getElem_toArray, List.getElem_cons_succ, List.getElem_cons_zero, Act.put, List.setIfInBounds_toArray, List.set_cons_zero, List.set_cons_succ]
                  obtain ⟨d0, d1, d2, d3, f0, f1, f2, f3⟩ := RA20.out
                  refine wpAnyH_ready (rs := [10]) (by kernel_rfl) (by simp) (AllReadyH.cons rfl (fun K hK => ?_) AllReadyH.nil)
                  simp only [List.getElem_toArray, List.getElem_cons_succ, List.getElem_cons_zero]
                  go_simp
                  clear d0 d1 d2 d3 f0 f1 f2 f3
                  have BE := Lib.hid (set4_at B20.out LA.out (.int .i64 p1) (.int .i64 p2) (.int .i64 p3) (.int .i64 p4))
                  have XA := Lib.hid (RA20.out.set p1 p2 p3 p4)
                  have XB := Lib.hid (Rc4.set4 RB20.out NE.out (.int .i64 p1) (.int .i64 p2) (.int .i64 p3) (.int .i64 p4))
                  refine hK.out _ _ (by exact BE.out) (fun hHeld1 => ?_)
                  clear hK K hHeld
                  have hHeld := hHeld1; clear hHeld1
                  try simp only [List.getElem_toArray, List.getElem_cons_succ, List.getElem_cons_zero, Act.put, List.setIfInBounds_toArray, List.set_cons_zero, List.set_cons_succ]
                  obtain ⟨d0, d1, d2, d3, f0, f1, f2, f3⟩ := XB.out
                  refine wpAnyH_ready (rs := [11]) (by kernel_rfl) (by simp) (AllReadyH.cons rfl (fun K hK => ?_) AllReadyH.nil)
                  simp only [List.getElem_toArray, List.getElem_cons_succ, List.getElem_cons_zero]
                  go_simp
                  clear d0 d1 d2 d3 f0 f1 f2 f3
                  have BF := Lib.hid (set4_at BE.out LB.out (.int .i64 q1) (.int .i64 q2) (.int .i64 q3) (.int .i64 q4))
                  have YA := Lib.hid (Rc4.set4 XA.out (Ne.symm NE.out) (.int .i64 q1) (.int .i64 q2) (.int .i64 q3) (.int .i64 q4))
                  have YB := Lib.hid (XB.out.set q1 q2 q3 q4)
                  refine hK.out _ _ (by exact BF.out) (fun hHeld1 => ?_)
                  clear hK K hHeld hHeld1
                  refine wpAnyH_done (by kernel_rfl) ?_ _
                  go_wp2_with fail
                  go_meet
                  case rel => exact ⟨_, _, ⟨p1, p2, p3, p4⟩, ⟨q1, q2, q3, q4⟩, rfl, rfl, LA.out, LB.out, Mp.out, Mq.out, YA.out, YB.out, BF.out⟩
                · simp only [List.getElem_toArray, List.getElem_cons_succ, List.getElem_cons_zero]
                  go_simp
                  obtain ⟨W21, hWn⟩ : ∃ v, v = W18.alloc (.cells #[.int .i64 0, .int .i64 0, .int .i64 0, .int .i64 0] 26) := ⟨_, rfl⟩
                  rw [← hWn]
                  have B21 := Lib.hid (show Below wr.heap.size wr W21 by rw [hWn]; exact B18.out.alloc B18.out.size _)
                  have RA21 := Lib.hid (show Rc4 W21 wd.heap.size 0 0 0 0 by rw [hWn]; exact RA18.out.alloc _)
                  have RB21 := Lib.hid (show Rc4 W21 W18.heap.size 0 0 0 0 by rw [hWn]; exact Rc4.new ..)
                  have NE := Lib.hid (show wd.heap.size ≠ W18.heap.size by have := RA18.out.lt; omega)
                  have LB := Lib.hid (show wr.heap.size ≤ W18.heap.size from B18.out.size)
                  clear hWn
                  refine hK.out _ _ (by exact B21.out) (fun hHeld1 => ?_)
                  clear hK K hHeld
                  have hHeld := hHeld1; clear hHeld1
                  try simp only [List.getElem_toArray, List.getElem_cons_succ, List.getElem_cons_zero, Act.put, List.setIfInBounds_toArray, List.set_cons_zero, List.set_cons_succ]
                  refine wpAnyH_ready (rs := [7]) (by kernel_rfl) (by simp) (AllReadyH.cons rfl (fun K hK => ?_) AllReadyH.nil)
                  simp only [List.getElem_toArray, List.getElem_cons_succ, List.getElem_cons_zero]
                  go_simp
                  go_at_call 93
                  refine (C2.out _ B21.out).mono ?_
                  rintro e W22 ⟨⟨q1, q2, q3, q4⟩, hmq, rfl, hb1⟩
                  unfold rv
                  dsimp only
                  try go_wp2_with fail
                  have Mq := Lib.hid hmq
                  have B22 := Lib.hid (B21.out.trans (hb1.mono B21.out.size))
                  have RA22 := Lib.hid (RA21.out.later hb1)
                  have RB22 := Lib.hid (RB21.out.later hb1)
                  clear hb1 hmq
                  refine hK.out _ _ (by exact B22.out) (fun hHeld1 => ?_)
                  clear hK K hHeld
                  have hHeld := hHeld1; clear hHeld1
                  try simp only [List.getElem_toArray, List.getElem_cons_succ, List.getElem_cons_zero, Act.put, List.setIfInBounds_toArray, List.set_cons_zero, List.set_cons_succ]
                  obtain ⟨d0, d1, d2, d3, f0, f1, f2, f3⟩ := RA22.out
                  refine wpAnyH_ready (rs := [10]) (by kernel_rfl) (by simp) (AllReadyH.cons rfl (fun K hK => ?_) AllReadyH.nil)
                  simp only [List.getElem_toArray, List.getElem_cons_succ, List.getElem_cons_zero]
                  go_simp
                  clear d0 d1 d2 d3 f0 f1 f2 f3
                  have BE := Lib.hid (set4_at B22.out LA.out (.int .i64 p1) (.int .i64 p2) (.int .i64 p3) (.int .i64 p4))
                  have XA := Lib.hid (RA22.out.set p1 p2 p3 p4)
                  have XB := Lib.hid (Rc4.set4 RB22.out NE.out (.int .i64 p1) (.int .i64 p2) (.int .i64 p3) (.int .i64 p4))
                  refine hK.out _ _ (by exact BE.out) (fun hHeld1 => ?_)
                  clear hK K hHeld
                  have hHeld := hHeld1; clear hHeld1
                  try simp only [List.getElem_toArray, List.getElem_cons_succ, List.getElem_cons_zero, Act.put, List.setIfInBounds_toArray, List.set_cons_zero, List.set_cons_succ]
                  obtain ⟨d0, d1, d2, d3, f0, f1, f2, f3⟩ := XB.out
                  refine wpAnyH_ready (rs := [11]) (by kernel_rfl) (by simp) (AllReadyH.cons rfl (fun K hK => ?_) AllReadyH.nil)
                  simp only [List.getElem_toArray, List.getElem_cons_succ, List.getElem_cons_zero]
                  go_simp
                  clear d0 d1 d2 d3 f0 f1 f2 f3
                  have BF := Lib.hid (set4_at BE.out LB.out (.int .i64 q1) (.int .i64 q2) (.int .i64 q3) (.int .i64 q4))
                  have YA := Lib.hid (Rc4.set4 XA.out (Ne.symm NE.out) (.int .i64 q1) (.int .i64 q2) (.int .i64 q3) (.int .i64 q4))
                  have YB := Lib.hid (XB.out.set q1 q2 q3 q4)
                  refine hK.out _ _ (by exact BF.out) (fun hHeld1 => ?_)
                  clear hK K hHeld hHeld1
                  refine wpAnyH_done (by kernel_rfl) ?_ _
                  go_wp2_with fail
                  go_meet
                  case rel => exact ⟨_, _, ⟨p1, p2, p3, p4⟩, ⟨q1, q2, q3, q4⟩, rfl, rfl, LA.out, LB.out, Mp.out, Mq.out, YA.out, YB.out, BF.out⟩
              · simp only [List.getElem_toArray, List.getElem_cons_succ, List.getElem_cons_zero]
                go_simp
                obtain ⟨W23, hWn⟩ : ∃ v, v = W17.alloc (.cells #[.int .i64 0, .int .i64 0, .int .i64 0, .int .i64 0] 26) := ⟨_, rfl⟩
                rw [← hWn]
                have B23 := Lib.hid (show Below wr.heap.size wr W23 by rw [hWn]; exact B17.out.alloc B17.out.size _)
                have RA23 := Lib.hid (show Rc4 W23 wd.heap.size 0 0 0 0 by rw [hWn]; exact RA17.out.alloc _)
                have RB23 := Lib.hid (show Rc4 W23 W17.heap.size 0 0 0 0 by rw [hWn]; exact Rc4.new ..)
                have NE := Lib.hid (show wd.heap.size ≠ W17.heap.size by have := RA17.out.lt; omega)
                have LB := Lib.hid (show wr.heap.size ≤ W17.heap.size from B17.out.size)
                clear hWn
                refine hK.out _ _ (by exact B23.out) (fun hHeld1 => ?_)
                clear hK K hHeld
                have hHeld := hHeld1; clear hHeld1
                try simp only [List.getElem_toArray, List.getElem_cons_succ, List.getElem_cons_zero, Act.put, List.setIfInBounds_toArray, List.set_cons_zero, List.set_cons_succ]
                refine wpAnyH_ready (rs := [3]) (by kernel_rfl) (by simp) (AllReadyH.cons rfl (fun K hK => ?_) AllReadyH.nil)
                simp only [List.getElem_toArray, List.getElem_cons_succ, List.getElem_cons_zero]
                go_simp
                go_at_call 93
                refine (C1.out _ B23.out).mono ?_
                rintro e W24 ⟨⟨p1, p2, p3, p4⟩, hmp, rfl, hb1⟩
                unfold rv
                dsimp only
                try go_wp2_with fail
                have Mp := Lib.hid hmp
                have B24 := Lib.hid (B23.out.trans (hb1.mono B23.out.size))
                have RA24 := Lib.hid (RA23.out.later hb1)
                have RB24 := Lib.hid (RB23.out.later hb1)
                clear hb1 hmp
                refine hK.out _ _ (by exact B24.out) (fun hHeld1 => ?_)
                clear hK K hHeld
                have hHeld := hHeld1; clear hHeld1
                try simp only [List.getElem_toArray, List.getElem_cons_succ, List.getElem_cons_zero, Act.put, List.setIfInBounds_toArray, List.set_cons_zero, List.set_cons_succ]
                refine wpAnyH_ready (rs := [7]) (by kernel_rfl) (by simp) (AllReadyH.cons rfl (fun K hK => ?_) AllReadyH.nil)
                simp only [List.getElem_toArray, List.getElem_cons_succ, List.getElem_cons_zero]
                go_simp
                go_at_call 93
                refine (C2.out _ B24.out).mono ?_
                rintro e W25 ⟨⟨q1, q2, q3, q4⟩, hmq, rfl, hb1⟩
                unfold rv
                dsimp only
                try go_wp2_with fail
                have Mq := Lib.hid hmq
                have B25 := Lib.hid (B24.out.trans (hb1.mono B24.out.size))
                have RA25 := Lib.hid (RA24.out.later hb1)
                have RB25 := Lib.hid (RB24.out.later hb1)
                clear hb1 hmq
                refine hK.out _ _ (by exact B25.out) (fun hHeld1 => ?_)
                clear hK K hHeld
                have hHeld := hHeld1; clear hHeld1
                try simp only [List.getElem_toArray, List.getElem_cons_succ, List.getElem_cons_zero, Act.put, List.setIfInBounds_toArray, List.set_cons_zero, List.set_cons_succ]
                obtain ⟨d0, d1, d2, d3, f0, f1, f2, f3⟩ := RA25.out
                refine wpAnyH_ready (rs := [10]) (by kernel_rfl) (by simp) (AllReadyH.cons rfl (fun K hK => ?_) AllReadyH.nil)
                simp only [List.getElem_toArray, List.getElem_cons_succ, List.getElem_cons_zero]
                go_simp
                clear d0 d1 d2 d3 f0 f1 f2 f3
                have BE := Lib.hid (set4_at B25.out LA.out (.int .i64 p1) (.int .i64 p2) (.int .i64 p3) (.int .i64 p4))
                have XA := Lib.hid (RA25.out.set p1 p2 p3 p4)
                have XB := Lib.hid (Rc4.set4 RB25.out NE.out (.int .i64 p1) (.int .i64 p2) (.int .i64 p3) (.int .i64 p4))
                refine hK.out _ _ (by exact BE.out) (fun hHeld1 => ?_)
                clear hK K hHeld
                have hHeld := hHeld1; clear hHeld1
                try simp only [List.getElem_toArray, List.getElem_cons_succ, List.getElem_cons_zero, Act.put, List.setIfInBounds_toArray, List.set_cons_zero, List.set_cons_succ]
                obtain ⟨d0, d1, d2, d3, f0, f1, f2, f3⟩ := XB.out
                refine wpAnyH_ready (rs := [11]) (by kernel_rfl) (by simp) (AllReadyH.cons rfl (fun K hK => ?_) AllReadyH.nil)
                simp only [List.getElem_toArray, List.getElem_cons_succ, List.getElem_cons_zero]
                go_simp
                clear d0 d1 d2 d3 f0 f1 f2 f3
                have BF := Lib.hid (set4_at BE.out LB.out (.int .i64 q1) (.int .i64 q2) (.int .i64 q3) (.int .i64 q4))
                have YA := Lib.hid (Rc4.set4 XA.out (Ne.symm NE.out) (.int .i64 q1) (.int .i64 q2) (.int .i64 q3) (.int .i64 q4))
                have YB := Lib.hid (XB.out.set q1 q2 q3 q4)
                refine hK.out _ _ (by exact BF.out) (fun hHeld1 => ?_)
                clear hK K hHeld hHeld1
                refine wpAnyH_done (by kernel_rfl) ?_ _
                go_wp2_with fail
                go_meet
                case rel => exact ⟨_, _, ⟨p1, p2, p3, p4⟩, ⟨q1, q2, q3, q4⟩, rfl, rfl, LA.out, LB.out, Mp.out, Mq.out, YA.out, YB.out, BF.out⟩
            · simp only [List.getElem_toArray, List.getElem_cons_succ, List.getElem_cons_zero]
              go_simp
              obtain ⟨W26, hWn⟩ : ∃ v, v = wd.alloc (.cells #[.int .i64 0, .int .i64 0, .int .i64 0, .int .i64 0] 26) := ⟨_, rfl⟩
              rw [← hWn]
              have B26 := Lib.hid (show Below wr.heap.size wr W26 by rw [hWn]; exact B0.out.alloc B0.out.size _)
              have RB26 := Lib.hid (show Rc4 W26 wd.heap.size 0 0 0 0 by rw [hWn]; exact Rc4.new ..)
              have LB := Lib.hid (show wr.heap.size ≤ wd.heap.size from B0.out.size)
              clear hWn
              refine hK.out _ _ (by exact B26.out) (fun hHeld1 => ?_)
              clear hK K hHeld
              have hHeld := hHeld1; clear hHeld1
              try simp only [List.getElem_toArray, List.getElem_cons_succ, List.getElem_cons_zero, Act.put, List.setIfInBounds_toArray, List.set_cons_zero, List.set_cons_succ]
              refine wpAnyH_ready (rs := [3, 8]) (by kernel_rfl) (by simp) (AllReadyH.cons rfl (fun K hK => ?_) (AllReadyH.cons rfl (fun K hK => ?_) AllReadyH.nil))
              · simp only [List.getElem_toArray, List.getElem_cons_succ, List.getElem_cons_zero]
                go_simp
                go_at_call 93
                refine (C1.out _ B26.out).mono ?_
                rintro e W27 ⟨⟨p1, p2, p3, p4⟩, hmp, rfl, hb1⟩
                unfold rv
                dsimp only
                try go_wp2_with fail
                have Mp := Lib.hid hmp
                have B27 := Lib.hid (B26.out.trans (hb1.mono B26.out.size))
                have RB27 := Lib.hid (RB26.out.later hb1)
                clear hb1 hmp
                refine hK.out _ _ (by exact B27.out) (fun hHeld1 => ?_)
                clear hK K hHeld
                have hHeld := hHeld1; clear hHeld1
                try simp only [List.getElem_toArray, List.getElem_cons_succ, List.getElem_cons_zero, Act.put, List.setIfInBounds_toArray, List.set_cons_zero, List.set_cons_succ]
                refine wpAnyH_ready (rs := [7, 8]) (by kernel_rfl) (by simp) (AllReadyH.cons rfl (fun K hK => ?_) (AllReadyH.cons rfl (fun K hK => ?_) AllReadyH.nil))
                · simp only [List.getElem_toArray, List.getElem_cons_succ, List.getElem_cons_zero]
                  go_simp
                  go_at_call 93
                  refine (C2.out _ B27.out).mono ?_
                  rintro e W28 ⟨⟨q1, q2, q3, q4⟩, hmq, rfl, hb1⟩
                  unfold rv
                  dsimp only
                  try go_wp2_with fail
                  have Mq := Lib.hid hmq
                  have B28 := Lib.hid (B27.out.trans (hb1.mono B27.out.size))
                  have RB28 := Lib.hid (RB27.out.later hb1)
                  clear hb1 hmq
                  refine hK.out _ _ (by exact B28.out) (fun hHeld1 => ?_)
                  clear hK K hHeld
                  have hHeld := hHeld1; clear hHeld1
                  try simp only [List.getElem_toArray, List.getElem_cons_succ, List.getElem_cons_zero, Act.put, List.setIfInBounds_toArray, List.set_cons_zero, List.set_cons_succ]
                  refine wpAnyH_ready (rs := [8]) (by kernel_rfl) (by simp) (AllReadyH.cons rfl (fun K hK => ?_) AllReadyH.nil)
                  simp only [List.getElem_toArray, List.getElem_cons_succ, List.getElem_cons_zero]
                  go_simp
                  obtain ⟨W29, hWn⟩ : ∃ v, v = W28.alloc (.cells #[.int .i64 0, .int .i64 0, .int .i64 0, .int .i64 0] 26) := ⟨_, rfl⟩
                  rw [← hWn]
                  have B29 := Lib.hid (show Below wr.heap.size wr W29 by rw [hWn]; exact B28.out.alloc B28.out.size _)
                  have RA29 := Lib.hid (show Rc4 W29 W28.heap.size 0 0 0 0 by rw [hWn]; exact Rc4.new ..)
                  have RB29 := Lib.hid (show Rc4 W29 wd.heap.size 0 0 0 0 by rw [hWn]; exact RB28.out.alloc _)
                  have NE := Lib.hid (show W28.heap.size ≠ wd.heap.size by have := RB28.out.lt; omega)
                  have LA := Lib.hid (show wr.heap.size ≤ W28.heap.size from B28.out.size)
                  clear hWn
                  refine hK.out _ _ (by exact B29.out) (fun hHeld1 => ?_)
                  clear hK K hHeld
                  have hHeld := hHeld1; clear hHeld1
                  try simp only [List.getElem_toArray, List.getElem_cons_succ, List.getElem_cons_zero, Act.put, List.setIfInBounds_toArray, List.set_cons_zero, List.set_cons_succ]
                  obtain ⟨d0, d1, d2, d3, f0, f1, f2, f3⟩ := RA29.out
                  refine wpAnyH_ready (rs := [10]) (by kernel_rfl) (by simp) (AllReadyH.cons rfl (fun K hK => ?_) AllReadyH.nil)
                  simp only [List.getElem_toArray, List.getElem_cons_succ, List.getElem_cons_zero]
                  go_simp
                  clear d0 d1 d2 d3 f0 f1 f2 f3
                  have BE := Lib.hid (set4_at B29.out LA.out (.int .i64 p1) (.int .i64 p2) (.int .i64 p3) (.int .i64 p4))
                  have XA := Lib.hid (RA29.out.set p1 p2 p3 p4)
                  have XB := Lib.hid (Rc4.set4 RB29.out NE.out (.int .i64 p1) (.int .i64 p2) (.int .i64 p3) (.int .i64 p4))
                  refine hK.out _ _ (by exact BE.out) (fun hHeld1 => ?_)
                  clear hK K hHeld
                  have hHeld := hHeld1; clear hHeld1
                  try simp only [List.getElem_toArray, List.getElem_cons_succ, List.getElem_cons_zero, Act.put, List.setIfInBounds_toArray, List.set_cons_zero, List.set_cons_succ]
                  obtain ⟨d0, d1, d2, d3, f0, f1, f2, f3⟩ := XB.out
                  refine wpAnyH_ready (rs := [11]) (by kernel_rfl) (by simp) (AllReadyH.cons rfl (fun K hK => ?_) AllReadyH.nil)
                  simp only [List.getElem_toArray, List.getElem_cons_succ, List.getElem_cons_zero]
                  go_simp
                  clear d0 d1 d2 d3 f0 f1 f2 f3
                  have BF := Lib.hid (set4_at BE.out LB.out (.int .i64 q1) (.int .i64 q2) (.int .i64 q3) (.int .i64 q4))
                  have YA := Lib.hid (Rc4.set4 XA.out (Ne.symm NE.out) (.int .i64 q1) (.int .i64 q2) (.int .i64 q3) (.int .i64 q4))
                  have YB := Lib.hid (XB.out.set q1 q2 q3 q4)
                  refine hK.out _ _ (by exact BF.out) (fun hHeld1 => ?_)
                  clear hK K hHeld hHeld1
                  refine wpAnyH_done (by kernel_rfl) ?_ _
                  go_wp2_with fail
                  go_meet
                  case rel => exact ⟨_, _, ⟨p1, p2, p3, p4⟩, ⟨q1, q2, q3, q4⟩, rfl, rfl, LA.out, LB.out, Mp.out, Mq.out, YA.out, YB.out, BF.out⟩
                · simp only [List.getElem_toArray, List.getElem_cons_succ, List.getElem_cons_zero]
                  go_simp
                  obtain ⟨W30, hWn⟩ : ∃ v, v = W27.alloc (.cells #[.int .i64 0, .int .i64 0, .int .i64 0, .int .i64 0] 26) := ⟨_, rfl⟩
                  rw [← hWn]
                  have B30 := Lib.hid (show Below wr.heap.size wr W30 by rw [hWn]; exact B27.out.alloc B27.out.size _)
                  have RA30 := Lib.hid (show Rc4 W30 W27.heap.size 0 0 0 0 by rw [hWn]; exact Rc4.new ..)
                  have RB30 := Lib.hid (show Rc4 W30 wd.heap.size 0 0 0 0 by rw [hWn]; exact RB27.out.alloc _)
                  have NE := Lib.hid (show W27.heap.size ≠ wd.heap.size by have := RB27.out.lt; omega)
                  have LA := Lib.hid (show wr.heap.size ≤ W27.heap.size from B27.out.size)
                  clear hWn
                  refine hK.out _ _ (by exact B30.out) (fun hHeld1 => ?_)
                  clear hK K hHeld
                  have hHeld := hHeld1; clear hHeld1
                  try simp only [List.getElem_toArray, List.getElem_cons_succ, List.getElem_cons_zero, Act.put, List.setIfInBounds_toArray, List.set_cons_zero, List.set_cons_succ]
                  refine wpAnyH_ready (rs := [7]) (by kernel_rfl) (by simp) (AllReadyH.cons rfl (fun K hK => ?_) AllReadyH.nil)
                  simp only [List.getElem_toArray, List.getElem_cons_succ, List.getElem_cons_zero]
                  go_simp
                  go_at_call 93
                  refine (C2.out _ B30.out).mono ?_
                  rintro e W31 ⟨⟨q1, q2, q3, q4⟩, hmq, rfl, hb1⟩
                  unfold rv
                  dsimp only
                  try go_wp2_with fail
                  have Mq := Lib.hid hmq
                  have B31 := Lib.hid (B30.out.trans (hb1.mono B30.out.size))
                  have RA31 := Lib.hid (RA30.out.later hb1)
                  have RB31 := Lib.hid (RB30.out.later hb1)
                  clear hb1 hmq
                  refine hK.out _ _ (by exact B31.out) (fun hHeld1 => ?_)
                  clear hK K hHeld
                  have hHeld := hHeld1; clear hHeld1
                  try simp only [List.getElem_toArray, List.getElem_cons_succ, List.getElem_cons_zero, Act.put, List.setIfInBounds_toArray, List.set_cons_zero, List.set_cons_succ]
                  obtain ⟨d0, d1, d2, d3, f0, f1, f2, f3⟩ := RA31.out
                  refine wpAnyH_ready (rs := [10]) (by kernel_rfl) (by simp) (AllReadyH.cons rfl (fun K hK => ?_) AllReadyH.nil)
                  simp only [List.getElem_toArray, List.getElem_cons_succ, List.getElem_cons_zero]
                  go_simp
                  clear d0 d1 d2 d3 f0 f1 f2 f3
                  have BE := Lib.hid (set4_at B31.out LA.out (.int .i64 p1) (.int .i64 p2) (.int .i64 p3) (.int .i64 p4))
                  have XA := Lib.hid (RA31.out.set p1 p2 p3 p4)
                  have XB := Lib.hid (Rc4.set4 RB31.out NE.out (.int .i64 p1) (.int .i64 p2) (.int .i64 p3) (.int .i64 p4))
                  refine hK.out _ _ (by exact BE.out) (fun hHeld1 => ?_)
                  clear hK K hHeld
                  have hHeld := hHeld1; clear hHeld1
                  try simp only [List.getElem_toArray, List.getElem_cons_succ, List.getElem_cons_zero, Act.put, List.setIfInBounds_toArray, List.set_cons_zero, List.set_cons_succ]
                  obtain ⟨d0, d1, d2, d3, f0, f1, f2, f3⟩ := XB.out
                  refine wpAnyH_ready (rs := [11]) (by kernel_rfl) (by simp) (AllReadyH.cons rfl (fun K hK => ?_) AllReadyH.nil)
                  simp only [List.getElem_toArray, List.getElem_cons_succ, List.getElem_cons_zero]
                  go_simp
                  clear d0 d1 d2 d3 f0 f1 f2 f3
                  have BF := Lib.hid (set4_at BE.out LB.out (.int .i64 q1) (.int .i64 q2) (.int .i64 q3) (.int .i64 q4))
                  have YA := Lib.hid (Rc4.set4 XA.out (Ne.symm NE.out) (.int .i64 q1) (.int .i64 q2) (.int .i64 q3) (.int .i64 q4))
                  have YB := Lib.hid (XB.out.set q1 q2 q3 q4)
                  refine hK.out _ _ (by exact BF.out) (fun hHeld1 => ?_)
                  clear hK K hHeld hHeld1
                  refine wpAnyH_done (by kernel_rfl) ?_ _
                  go_wp2_with fail
                  go_meet
                  case rel => exact ⟨_, _, ⟨p1, p2, p3, p4⟩, ⟨q1, q2, q3, q4⟩, rfl, rfl, LA.out, LB.out, Mp.out, Mq.out, YA.out, YB.out, BF.out⟩
              · simp only [List.getElem_toArray, List.getElem_cons_succ, List.getElem_cons_zero]
                go_simp
                obtain ⟨W32, hWn⟩ : ∃ v, v = W26.alloc (.cells #[.int .i64 0, .int .i64 0, .int .i64 0, .int .i64 0] 26) := ⟨_, rfl⟩
                rw [← hWn]
                have B32 := Lib.hid (show Below wr.heap.size wr W32 by rw [hWn]; exact B26.out.alloc B26.out.size _)
                have RA32 := Lib.hid (show Rc4 W32 W26.heap.size 0 0 0 0 by rw [hWn]; exact Rc4.new ..)
                have RB32 := Lib.hid (show Rc4 W32 wd.heap.size 0 0 0 0 by rw [hWn]; exact RB26.out.alloc _)
                have NE := Lib.hid (show W26.heap.size ≠ wd.heap.size by have := RB26.out.lt; omega)
                have LA := Lib.hid (show wr.heap.size ≤ W26.heap.size from B26.out.size)
                clear hWn
                refine hK.out _ _ (by exact B32.out) (fun hHeld1 => ?_)
                clear hK K hHeld
                have hHeld := hHeld1; clear hHeld1
                try simp only [List.getElem_toArray, List.getElem_cons_succ, List.getElem_cons_zero, Act.put, List.setIfInBounds_toArray, List.set_cons_zero, List.set_cons_succ]
                refine wpAnyH_ready (rs := [3]) (by kernel_rfl) (by simp) (AllReadyH.cons rfl (fun K hK => ?_) AllReadyH.nil)
                simp only [List.getElem_toArray, List.getElem_cons_succ, List.getElem_cons_zero]
                go_simp
                go_at_call 93
                refine (C1.out _ B32.out).mono ?_
                rintro e W33 ⟨⟨p1, p2, p3, p4⟩, hmp, rfl, hb1⟩
                unfold rv
                dsimp only
                try go_wp2_with fail
                have Mp := Lib.hid hmp
                have B33 := Lib.hid (B32.out.trans (hb1.mono B32.out.size))
                have RA33 := Lib.hid (RA32.out.later hb1)
                have RB33 := Lib.hid (RB32.out.later hb1)
                clear hb1 hmp
                refine hK.out _ _ (by exact B33.out) (fun hHeld1 => ?_)
                clear hK K hHeld
                have hHeld := hHeld1; clear hHeld1
                try simp only [List.getElem_toArray, List.getElem_cons_succ, List.getElem_cons_zero, Act.put, List.setIfInBounds_toArray, List.set_cons_zero, List.set_cons_succ]
                refine wpAnyH_ready (rs := [7]) (by kernel_rfl) (by simp) (AllReadyH.cons rfl (fun K hK => ?_) AllReadyH.nil)
                simp only [List.getElem_toArray, List.getElem_cons_succ, List.getElem_cons_zero]
                go_simp
                go_at_call 93
                refine (C2.out _ B33.out).mono ?_
                rintro e W34 ⟨⟨q1, q2, q3, q4⟩, hmq, rfl, hb1⟩
                unfold rv
                dsimp only
                try go_wp2_with fail
                have Mq := Lib.hid hmq
                have B34 := Lib.hid (B33.out.trans (hb1.mono B33.out.size))
                have RA34 := Lib.hid (RA33.out.later hb1)
                have RB34 := Lib.hid (RB33.out.later hb1)
                clear hb1 hmq
                refine hK.out _ _ (by exact B34.out) (fun hHeld1 => ?_)
                clear hK K hHeld
                have hHeld := hHeld1; clear hHeld1
                try simp only [List.getElem_toArray, List.getElem_cons_succ, List.getElem_cons_zero, Act.put, List.setIfInBounds_toArray, List.set_cons_zero, List.set_cons_succ]
                obtain ⟨d0, d1, d2, d3, f0, f1, f2, f3⟩ := RA34.out
                refine wpAnyH_ready (rs := [10]) (by kernel_rfl) (by simp) (AllReadyH.cons rfl (fun K hK => ?_) AllReadyH.nil)
                simp only [List.getElem_toArray, List.getElem_cons_succ, List.getElem_cons_zero]
                go_simp
                clear d0 d1 d2 d3 f0 f1 f2 f3
                have BE := Lib.hid (set4_at B34.out LA.out (.int .i64 p1) (.int .i64 p2) (.int .i64 p3) (.int .i64 p4))
                have XA := Lib.hid (RA34.out.set p1 p2 p3 p4)
                have XB := Lib.hid (Rc4.set4 RB34.out NE.out (.int .i64 p1) (.int .i64 p2) (.int .i64 p3) (.int .i64 p4))
                refine hK.out _ _ (by exact BE.out) (fun hHeld1 => ?_)
                clear hK K hHeld
                have hHeld := hHeld1; clear hHeld1
                try simp only [List.getElem_toArray, List.getElem_cons_succ, List.getElem_cons_zero, Act.put, List.setIfInBounds_toArray, List.set_cons_zero, List.set_cons_succ]
                obtain ⟨d0, d1, d2, d3, f0, f1, f2, f3⟩ := XB.out
                refine wpAnyH_ready (rs := [11]) (by kernel_rfl) (by simp) (AllReadyH.cons rfl (fun K hK => ?_) AllReadyH.nil)
                simp only [List.getElem_toArray, List.getElem_cons_succ, List.getElem_cons_zero]
                go_simp
                clear d0 d1 d2 d3 f0 f1 f2 f3
                have BF := Lib.hid (set4_at BE.out LB.out (.int .i64 q1) (.int .i64 q2) (.int .i64 q3) (.int .i64 q4))
                have YA := Lib.hid (Rc4.set4 XA.out (Ne.symm NE.out) (.int .i64 q1) (.int .i64 q2) (.int .i64 q3) (.int .i64 q4))
                have YB := Lib.hid (XB.out.set q1 q2 q3 q4)
                refine hK.out _ _ (by exact BF.out) (fun hHeld1 => ?_)
                clear hK K hHeld hHeld1
                refine wpAnyH_done (by kernel_rfl) ?_ _
                go_wp2_with fail
                go_meet
                case rel => exact ⟨_, _, ⟨p1, p2, p3, p4⟩, ⟨q1, q2, q3, q4⟩, rfl, rfl, LA.out, LB.out, Mp.out, Mq.out, YA.out, YB.out, BF.out⟩
          case rest =>
            clear B0 HWD C1 C2 hlz
            obtain ⟨wx, ewx, hcut2⟩ := hcut.name
            subst ewx
            clear hcut
            obtain ⟨g1, g2, ⟨p1, p2, p3, p4⟩, ⟨q1, q2, q3, q4⟩, rfl, rfl, lg1, lg2, hm1, hm2, hA, hQ, hBW⟩ := hcut2
            have D1 := Lib.hid (fun W => margin_any p1 p2 p3 p4 W hm1)
            have D2 := Lib.hid (fun W => margin_any q1 q2 q3 q4 W hm2)
            have D3 : Hid (∀ W, Calls Tryz.prog 111 #[.agg #[.int .i64 p1, .int .i64 p2, .int .i64 p3, .int .i64 p4], .agg #[.int .i64 q1, .int .i64 q2, .int .i64 q3, .int .i64 q4]] W fun e w' => ∃ n : Int, e = .returned (.int .i64 n) ∧ Below W.heap.size W w') := Lib.hid (fun W => overlap_any ⟨p1, p2, p3, p4⟩ ⟨q1, q2, q3, q4⟩ W hm1 hm2)
            have D4 := Lib.hid (fun W => area_any p1 p2 p3 p4 W hm1)
            have D5 := Lib.hid (fun W => area_any q1 q2 q3 q4 W hm2)
            obtain ⟨m1, em1⟩ : ∃ z, z = marginI p1 p2 p3 p4 := ⟨_, rfl⟩
            obtain ⟨m2, em2⟩ : ∃ z, z = marginI q1 q2 q3 q4 := ⟨_, rfl⟩
            obtain ⟨a1, ea1⟩ : ∃ z, z = areaI p1 p2 p3 p4 := ⟨_, rfl⟩
            obtain ⟨a2, ea2⟩ : ∃ z, z = areaI q1 q2 q3 q4 := ⟨_, rfl⟩
            rw [← em1] at D1
            rw [← em2] at D2
            rw [← ea1] at D4
            rw [← ea2] at D5
            clear em1 em2 ea1 ea2 hm1 hm2
            dsimp only at hA hQ
            have HS0 : Hid ((fun W => W.cell? ⟨g1, 0, none⟩ = some (.int .i64 p1) ∧ W.cell? ⟨g1, 1, none⟩ = some (.int .i64 p2) ∧ W.cell? ⟨g1, 2, none⟩ = some (.int .i64 p3) ∧ W.cell? ⟨g1, 3, none⟩ = some (.int .i64 p4) ∧ W.cell? ⟨g2, 0, none⟩ = some (.int .i64 q1) ∧ W.cell? ⟨g2, 1, none⟩ = some (.int .i64 q2) ∧ W.cell? ⟨g2, 2, none⟩ = some (.int .i64 q3) ∧ W.cell? ⟨g2, 3, none⟩ = some (.int .i64 q4) ∧ v.heap.size ≤ W.heap.size ∧ Below v.heap.size v W) wx.drew) := Lib.hid (by
              obtain ⟨y0, y1, y2, y3, _⟩ := hA
              obtain ⟨z0, z1, z2, z3, _⟩ := hQ
              exact ⟨y0, y1, y2, y3, z0, z1, z2, z3, (BX.out.trans (hBW.mono BX.out.size)).size, (BX.out.trans (hBW.mono BX.out.size)).drew⟩)
            have OX := Lib.hid (show wx.drew.ownsRow v.heap.size 127 5 u11 xs.length (xs.flatMap cutL) from own_bel OW.out hBW.drew)
            have NE1 := Lib.hid (show some g1 ≠ u11.ownBlock from fun e => by have := (World.ownsRow.lt OW.out g1 e.symm).2; omega)
            have NE2 := Lib.hid (show some g2 ≠ u11.ownBlock from fun e => by have := (World.ownsRow.lt OW.out g2 e.symm).2; omega)
            clear hA hQ hBW OW lg1 lg2
            obtain ⟨mm, e7⟩ : ∃ z, IntKind.i64.wrap (m1 + m2) = z := ⟨_, rfl⟩
            obtain ⟨b1, e13⟩ : ∃ z, IntKind.u64.wrap a1 = z := ⟨_, rfl⟩
            obtain ⟨b2, e16⟩ : ∃ z, IntKind.u64.wrap a2 = z := ⟨_, rfl⟩
            obtain ⟨aa, e17⟩ : ∃ z, IntKind.u64.wrap (b1 + b2) = z := ⟨_, rfl⟩
            go_wp2_with fail
            refine wp_region_held_drew (S := (fun W => W.cell? ⟨g1, 0, none⟩ = some (.int .i64 p1) ∧ W.cell? ⟨g1, 1, none⟩ = some (.int .i64 p2) ∧ W.cell? ⟨g1, 2, none⟩ = some (.int .i64 p3) ∧ W.cell? ⟨g1, 3, none⟩ = some (.int .i64 p4) ∧ W.cell? ⟨g2, 0, none⟩ = some (.int .i64 q1) ∧ W.cell? ⟨g2, 1, none⟩ = some (.int .i64 q2) ∧ W.cell? ⟨g2, 2, none⟩ = some (.int .i64 q3) ∧ W.cell? ⟨g2, 3, none⟩ = some (.int .i64 q4) ∧ v.heap.size ≤ W.heap.size ∧ Below v.heap.size v W)) (by kernel_rfl) (by exact HS0.out) (fun hHeld => ?_)
            refine wpAnyH_take (i := 0) (v := ?vE0) rfl (by kernel_rfl) (by kernel_rfl) (by kernel_rfl) (fun _ _ _ h => h) (Or.inl ⟨by rfl, ?yE0⟩) hHeld ?rE0
            case yE0 => (intro W hSw; simp only [List.getElem_toArray, List.getElem_cons_zero]; go_simp; try (with_reducible rfl))
            simp only [List.getElem_toArray, List.getElem_cons_zero, Act.put, List.setIfInBounds_toArray, List.set_cons_zero, List.set_cons_succ]
            refine wpAnyH_take (i := 1) (v := ?vE1) rfl (by kernel_rfl) (by kernel_rfl) (by kernel_rfl) (fun _ _ _ h => h) (Or.inl ⟨by rfl, ?yE1⟩) hHeld ?rE1
            case yE1 => (intro W hSw; simp only [List.getElem_toArray, List.getElem_cons_succ, List.getElem_cons_zero]; go_simp; try (with_reducible rfl))
            simp only [List.getElem_toArray, List.getElem_cons_succ, List.getElem_cons_zero, Act.put, List.setIfInBounds_toArray, List.set_cons_zero, List.set_cons_succ]
            refine wpAnyH_take (i := 2) (v := ?vE2) rfl (by kernel_rfl) (by kernel_rfl) (by kernel_rfl) (fun _ _ _ h => h) (Or.inl ⟨by rfl, ?yE2⟩) hHeld ?rE2
            case yE2 => (intro W hSw; simp only [List.getElem_toArray, List.getElem_cons_succ, List.getElem_cons_zero]; go_simp; try (with_reducible rfl))
            simp only [List.getElem_toArray, List.getElem_cons_succ, List.getElem_cons_zero, Act.put, List.setIfInBounds_toArray, List.set_cons_zero, List.set_cons_succ]
            refine wpAnyH_take (i := 3) (v := ?vE3) rfl (by kernel_rfl) (by kernel_rfl) (by kernel_rfl) (fun _ _ _ h => h) (Or.inl ⟨by rfl, ?yE3⟩) hHeld ?rE3
            case yE3 => (intro W hSw; simp only [List.getElem_toArray, List.getElem_cons_succ, List.getElem_cons_zero]; go_simp; try (with_reducible rfl))
            simp only [List.getElem_toArray, List.getElem_cons_succ, List.getElem_cons_zero, Act.put, List.setIfInBounds_toArray, List.set_cons_zero, List.set_cons_succ]
            refine wpAnyH_take (i := 5) (v := ?vE5) rfl (by kernel_rfl) (by kernel_rfl) (by kernel_rfl) (fun _ _ _ h => h) (Or.inl ⟨by rfl, ?yE5⟩) hHeld ?rE5
            case yE5 => (intro W hSw; simp only [List.getElem_toArray, List.getElem_cons_succ, List.getElem_cons_zero]; go_simp; try (with_reducible rfl))
            simp only [List.getElem_toArray, List.getElem_cons_succ, List.getElem_cons_zero, Act.put, List.setIfInBounds_toArray, List.set_cons_zero, List.set_cons_succ]
            refine wpAnyH_take (i := 8) (v := ?vE8) rfl (by kernel_rfl) (by kernel_rfl) (by kernel_rfl) (fun _ _ _ h => h) (Or.inl ⟨by rfl, ?yE8⟩) hHeld ?rE8
            case yE8 => (intro W hSw; simp only [List.getElem_toArray, List.getElem_cons_succ, List.getElem_cons_zero]; go_simp; try (with_reducible rfl))
            simp only [List.getElem_toArray, List.getElem_cons_succ, List.getElem_cons_zero, Act.put, List.setIfInBounds_toArray, List.set_cons_zero, List.set_cons_succ]
            refine wpAnyH_take (i := 9) (v := ?vE9) rfl (by kernel_rfl) (by kernel_rfl) (by kernel_rfl) (fun _ _ _ h => h) (Or.inl ⟨by rfl, ?yE9⟩) hHeld ?rE9
            case yE9 => (intro W hSw; simp only [List.getElem_toArray, List.getElem_cons_succ, List.getElem_cons_zero]; go_simp; try (with_reducible rfl))
            simp only [List.getElem_toArray, List.getElem_cons_succ, List.getElem_cons_zero, Act.put, List.setIfInBounds_toArray, List.set_cons_zero, List.set_cons_succ]
            refine wpAnyH_take (i := 11) (v := ?vE11) rfl (by kernel_rfl) (by kernel_rfl) (by kernel_rfl) (fun _ _ _ h => h) (Or.inl ⟨by rfl, ?yE11⟩) hHeld ?rE11
            case yE11 => (intro W hSw; simp only [List.getElem_toArray, List.getElem_cons_succ, List.getElem_cons_zero]; go_simp; try (with_reducible rfl))
            simp only [List.getElem_toArray, List.getElem_cons_succ, List.getElem_cons_zero, Act.put, List.setIfInBounds_toArray, List.set_cons_zero, List.set_cons_succ]
            refine wpAnyH_take (i := 14) (v := ?vE14) rfl (by kernel_rfl) (by kernel_rfl) (by kernel_rfl) (fun _ _ _ h => h) (Or.inl ⟨by rfl, ?yE14⟩) hHeld ?rE14
            case yE14 => (intro W hSw; simp only [List.getElem_toArray, List.getElem_cons_succ, List.getElem_cons_zero]; go_simp; try (with_reducible rfl))
            simp only [List.getElem_toArray, List.getElem_cons_succ, List.getElem_cons_zero, Act.put, List.setIfInBounds_toArray, List.set_cons_zero, List.set_cons_succ]
            refine wpAnyH_ready (rs := [4]) (by kernel_rfl) (by simp) (AllReadyH.cons rfl (fun K hK => ?_) AllReadyH.nil)
            simp only [List.getElem_toArray, List.getElem_cons_succ, List.getElem_cons_zero]
            go_simp
            (go_at_call 110; refine (D1.out _).mono ?_; rintro e w9 ⟨rfl, hb1⟩; have OX := Lib.hid (own_bel OX.out hb1))
            try go_wp2_with fail
            refine hK.out _ _ ((Kp.two hb1 (Kp.two hb1 (Kp.two hb1 (Kp.two hb1 (Kp.ends hb1))))) hHeld) (fun hHeld1 => ?_)
            clear hK K hHeld
            have hHeld := hHeld1; clear hHeld1
            try simp only [List.getElem_toArray, List.getElem_cons_succ, List.getElem_cons_zero, Act.put, List.setIfInBounds_toArray, List.set_cons_zero, List.set_cons_succ]
            refine wpAnyH_ready (rs := [6]) (by kernel_rfl) (by simp) (AllReadyH.cons rfl (fun K hK => ?_) AllReadyH.nil)
            simp only [List.getElem_toArray, List.getElem_cons_succ, List.getElem_cons_zero]
            go_simp
            (go_at_call 110; refine (D2.out _).mono ?_; rintro e w9 ⟨rfl, hb1⟩; have OX := Lib.hid (own_bel OX.out hb1))
            try go_wp2_with fail
            refine hK.out _ _ ((Kp.two hb1 (Kp.two hb1 (Kp.two hb1 (Kp.two hb1 (Kp.ends hb1))))) hHeld) (fun hHeld1 => ?_)
            clear hK K hHeld
            have hHeld := hHeld1; clear hHeld1
            try simp only [List.getElem_toArray, List.getElem_cons_succ, List.getElem_cons_zero, Act.put, List.setIfInBounds_toArray, List.set_cons_zero, List.set_cons_succ]
            refine wpAnyH_take (i := 7) (v := ?vE7) rfl (by kernel_rfl) (by kernel_rfl) (by kernel_rfl) (fun _ _ _ h => h) (Or.inl ⟨by rfl, ?yE7⟩) hHeld ?rE7
            case yE7 => (intro W hSw; simp only [List.getElem_toArray, List.getElem_cons_succ, List.getElem_cons_zero]; go_simp; try (with_reducible rfl))
            simp only [List.getElem_toArray, List.getElem_cons_succ, List.getElem_cons_zero, Act.put, List.setIfInBounds_toArray, List.set_cons_zero, List.set_cons_succ]
            refine wpAnyH_ready (rs := [10]) (by kernel_rfl) (by simp) (AllReadyH.cons rfl (fun K hK => ?_) AllReadyH.nil)
            simp only [List.getElem_toArray, List.getElem_cons_succ, List.getElem_cons_zero]
            go_simp
            (go_at_call 111; refine (D3.out _).mono ?_; rintro e w9 ⟨ov, rfl, hb1⟩; have OX := Lib.hid (own_bel OX.out hb1))
            try go_wp2_with fail
            refine hK.out _ _ ((Kp.two hb1 (Kp.two hb1 (Kp.two hb1 (Kp.two hb1 (Kp.ends hb1))))) hHeld) (fun hHeld1 => ?_)
            clear hK K hHeld
            have hHeld := hHeld1; clear hHeld1
            try simp only [List.getElem_toArray, List.getElem_cons_succ, List.getElem_cons_zero, Act.put, List.setIfInBounds_toArray, List.set_cons_zero, List.set_cons_succ]
            refine wpAnyH_ready (rs := [12]) (by kernel_rfl) (by simp) (AllReadyH.cons rfl (fun K hK => ?_) AllReadyH.nil)
            simp only [List.getElem_toArray, List.getElem_cons_succ, List.getElem_cons_zero]
            go_simp
            (go_at_call 112; refine (D4.out _).mono ?_; rintro e w9 ⟨rfl, hb1⟩; have OX := Lib.hid (own_bel OX.out hb1))
            try go_wp2_with fail
            refine hK.out _ _ ((Kp.two hb1 (Kp.two hb1 (Kp.two hb1 (Kp.two hb1 (Kp.ends hb1))))) hHeld) (fun hHeld1 => ?_)
            clear hK K hHeld
            have hHeld := hHeld1; clear hHeld1
            try simp only [List.getElem_toArray, List.getElem_cons_succ, List.getElem_cons_zero, Act.put, List.setIfInBounds_toArray, List.set_cons_zero, List.set_cons_succ]
            refine wpAnyH_take (i := 13) (v := ?vE13) rfl (by kernel_rfl) (by kernel_rfl) (by kernel_rfl) (fun _ _ _ h => h) (Or.inl ⟨by rfl, ?yE13⟩) hHeld ?rE13
            case yE13 => (intro W hSw; simp only [List.getElem_toArray, List.getElem_cons_succ, List.getElem_cons_zero]; go_simp; try (with_reducible rfl))
            simp only [List.getElem_toArray, List.getElem_cons_succ, List.getElem_cons_zero, Act.put, List.setIfInBounds_toArray, List.set_cons_zero, List.set_cons_succ]
            refine wpAnyH_ready (rs := [15]) (by kernel_rfl) (by simp) (AllReadyH.cons rfl (fun K hK => ?_) AllReadyH.nil)
            simp only [List.getElem_toArray, List.getElem_cons_succ, List.getElem_cons_zero]
            go_simp
            (go_at_call 112; refine (D5.out _).mono ?_; rintro e w9 ⟨rfl, hb1⟩; have OX := Lib.hid (own_bel OX.out hb1))
            try go_wp2_with fail
            refine hK.out _ _ ((Kp.two hb1 (Kp.two hb1 (Kp.two hb1 (Kp.two hb1 (Kp.ends hb1))))) hHeld) (fun hHeld1 => ?_)
            clear hK K hHeld
            have hHeld := hHeld1; clear hHeld1
            try simp only [List.getElem_toArray, List.getElem_cons_succ, List.getElem_cons_zero, Act.put, List.setIfInBounds_toArray, List.set_cons_zero, List.set_cons_succ]
            refine wpAnyH_take (i := 16) (v := ?vE16) rfl (by kernel_rfl) (by kernel_rfl) (by kernel_rfl) (fun _ _ _ h => h) (Or.inl ⟨by rfl, ?yE16⟩) hHeld ?rE16
            case yE16 => (intro W hSw; simp only [List.getElem_toArray, List.getElem_cons_succ, List.getElem_cons_zero]; go_simp; try (with_reducible rfl))
            simp only [List.getElem_toArray, List.getElem_cons_succ, List.getElem_cons_zero, Act.put, List.setIfInBounds_toArray, List.set_cons_zero, List.set_cons_succ]
            refine wpAnyH_take (i := 17) (v := ?vE17) rfl (by kernel_rfl) (by kernel_rfl) (by kernel_rfl) (fun _ _ _ h => h) (Or.inl ⟨by rfl, ?yE17⟩) hHeld ?rE17
            case yE17 => (intro W hSw; simp only [List.getElem_toArray, List.getElem_cons_succ, List.getElem_cons_zero]; go_simp; try (with_reducible rfl))
            simp only [List.getElem_toArray, List.getElem_cons_succ, List.getElem_cons_zero, Act.put, List.setIfInBounds_toArray, List.set_cons_zero, List.set_cons_succ]
            refine wpAnyH_take (i := 18) (v := ?vE18) rfl (by kernel_rfl) (by kernel_rfl) (by kernel_rfl) (fun _ _ _ h => h) (Or.inl ⟨by rfl, ?yE18⟩) hHeld ?rE18
            case yE18 => (intro W hSw; simp only [List.getElem_toArray, List.getElem_cons_succ, List.getElem_cons_zero]; go_simp; try (with_reducible rfl))
            simp only [List.getElem_toArray, List.getElem_cons_succ, List.getElem_cons_zero, Act.put, List.setIfInBounds_toArray, List.set_cons_zero, List.set_cons_succ]
            refine wpAnyH_ready (rs := [19]) (by kernel_rfl) (by simp) (AllReadyH.cons rfl (fun K hK => ?_) AllReadyH.nil)
            simp only [List.getElem_toArray, List.getElem_cons_succ, List.getElem_cons_zero]
            go_simp
            clear e7 e13 e16 e17
            obtain ⟨W2, hW2⟩ : ∃ v, v = w9.alloc (.cells #[.slice (some ⟨g7, 0, none⟩) n n, .int .i64 (f : Int), .int .i64 mm, .int .i64 ov, .int .u64 aa] 127) := ⟨_, rfl⟩
            rw [← hW2]
            have NB := Lib.hid (show W2.heap[w9.heap.size]? = some (.cells #[.slice (some ⟨g7, 0, none⟩) n n, .int .i64 (f : Int), .int .i64 mm, .int .i64 ov, .int .u64 aa] 127 (0, 0)) by rw [hW2]; exact heap_alloc_new w9 _)
            have hb2 : Below w9.heap.size w9 W2 := by rw [hW2]; exact (Below.refl _ _).alloc (Nat.le_refl _) _
            have OX := Lib.hid (own_bel OX.out hb2)
            have HS1 := Lib.hid ((Kp.two hb2 (Kp.two hb2 (Kp.two hb2 (Kp.two hb2 (Kp.ends hb2))))) hHeld)
            clear hb2
            clear hW2
            refine hK.out _ _ (by exact HS1.out) (fun hHeld1 => ?_)
            clear hK K hHeld
            have hHeld := hHeld1; clear hHeld1
            try simp only [List.getElem_toArray, List.getElem_cons_succ, List.getElem_cons_zero, Act.put, List.setIfInBounds_toArray, List.set_cons_zero, List.set_cons_succ]
            refine wpAnyH_ready (rs := [20]) (by kernel_rfl) (by simp) (AllReadyH.cons rfl (fun K hK => ?_) AllReadyH.nil)
            simp only [List.getElem_toArray, List.getElem_cons_succ, List.getElem_cons_zero]
            refine wp_append_lies W2 (.tmp 54) (.tmp 73) 124 rfl v.heap.size 127 ic (.agg #[.slice none 0 0, .int .i64 0, .int .i64 0, .int .i64 0, .int .u64 0]) 5 56 Tryz.underlying124 ci cz0 cz1 cz2 rfl (by decide) u11 xs.length (xs.flatMap cutL) rfl OX.out ⟨w9.heap.size, 0, none⟩ 1 1 (cutL ⟨some ⟨g7, 0, none⟩, n, n, f, mm, ov, aa⟩) rfl rfl (World.news_of_block NB.out) (by intro u hu; exact flat_one [⟨some ⟨g7, 0, none⟩, n, n, f, mm, ov, aa⟩] u (by simpa using hu)) (by decide) (by unfold maxLen; have := HXL.out; omega) (by have := HXL.out; omega) HS1.out.2.2.2.2.2.2.2.2.1 W2.heap.size rfl ?_
            intro gP capP WP hown hgrow hat hglt
            have OP := Lib.hid hown
            have HS3 := Lib.hid (c8_grown hgrow NE1.out NE2.out (fun k hk => (World.ownsRow.lt OX.out k hk).1) HS1.out)
            clear hown hgrow hat hglt
            refine hK.out _ _ (by exact HS3.out) (fun hHeld1 => ?_)
            clear hK K hHeld
            have hHeld := hHeld1; clear hHeld1
            try simp only [List.getElem_toArray, List.getElem_cons_succ, List.getElem_cons_zero, Act.put, List.setIfInBounds_toArray, List.set_cons_zero, List.set_cons_succ]
            refine wpAnyH_take (i := 21) (v := ?vF21) rfl (by kernel_rfl) (by kernel_rfl) (by kernel_rfl) (fun _ _ _ h => h) (Or.inl ⟨by rfl, ?yF21⟩) hHeld ?rF21
            case yF21 => (intro W hSw; simp only [List.getElem_toArray, List.getElem_cons_succ, List.getElem_cons_zero]; go_simp; try (with_reducible rfl))
            simp only [List.getElem_toArray, List.getElem_cons_succ, List.getElem_cons_zero, Act.put, List.setIfInBounds_toArray, List.set_cons_zero, List.set_cons_succ]
            refine wpAnyH_done (by kernel_rfl) ?_ _
            go_wp2_with fail
            go_roundw
            case rel =>
              refine ⟨f + 1, xs ++ [⟨some ⟨g7, 0, none⟩, n, n, f, mm, ov, aa⟩], by go_num, by omega, by have := HK.out; omega, by rw [List.length_append, HXL.out]; simp; omega, ?_, ?_, HS3.out.2.2.2.2.2.2.2.2.2⟩
              · rw [List.length_append, List.flatMap_append]
                simpa using OP.out
              · intro x hx
                rcases List.mem_append.1 hx with hx | hx
                · exact HXS.out x hx
                · simp only [List.mem_cons, List.not_mem_nil, or_false] at hx
                  subst hx
                  exact ⟨rfl, rfl, rfl, f, rfl, hf1, by have := HK.out; omega⟩
            case measure => simp [nOf]; have := HK.out; omega
        · have hlz : ¬ (f : Int) ≤ (K : Int) := by omega
          have hlen : 0 < xs.length := by have := HXL.out; have := HK.out; omega
          obtain ⟨g, cc, hu, hge, hcs⟩ := cs_of OW.out hlen (by have := HXL.out; omega)
          subst hu
          have HCS := Lib.hid hcs
          have HLE := Lib.hid hlen
          have HGE := Lib.hid hge
          have HCC := Lib.hid (show xs.length ≤ cc by
            rcases OW.out.2 with ⟨e, -⟩ | ⟨g', c', cur, e, _, _, hc, _⟩
            · cases e
            · simp at e; rw [e.2]; exact hc)
          clear hcs hlen hge
          go_wp2_with fail
          go_ret
          have hvw := BV.out.size
          refine ⟨g, cc, xs, rfl, by have := HGE.out; omega, HLE.out, by have := HXL.out; omega, HCC.out, HCS.out, fun x hx => ?_, BV.out.trans (BX.out.mono hvw)⟩
          obtain ⟨e1, e2, e3, q, e4, e5, e6⟩ := HXS.out x hx
          exact ⟨g7, d, q, e1, Nat.lt_of_lt_of_le L7.out BX.out.size, e2, e3, HI7.out.bel BX.out L7.out, HX.out.2.2.2.1, HX.out.2.2.2.2, e4, e5, e6⟩
end Go.Proofs.YtobkgamcjfjghaaGreat.Rs
