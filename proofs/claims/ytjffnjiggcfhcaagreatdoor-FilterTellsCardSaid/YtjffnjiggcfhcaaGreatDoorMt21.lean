/-
  The walk of FilterTells: it returns true. Memory that was there is left as it was.
-/
import Derived.Test.YtjffnjiggcfhcaaGreatDoorMt18
import Derived.Test.YtjffnjiggcfhcaaGreatDoorMt17
import Derived.Test.YtjffnjiggcfhcaaGreatDoorMt16
import Derived.Test.YtjffnjiggcfhcaaGreatDoorMt19
import Derived.Test.YtjffnjiggcfhcaaGreatDoorMt10
import Derived.Test.YtjffnjiggcfhcaaGreatDoorMt20
namespace Go.Proofs.YtjffnjiggcfhcaaGreatDoor.Fl
open Go.RowKit Go.Proofs.YtjffnjiggcfhcaaGreatDoor.Tk
set_option linter.unusedVariables false
set_option linter.unusedSimpArgs false

/-- What the functions answer of one filter, in letters for what its struct holds. -/
def Tl (f : Flt) (k : Int) (sn so st : ByteArray) (n1 n2 : Nat) : Prop :=
  (∀ (a : Option Addr) (c : Nat) (b : Option Addr) (d : Nat), (Value.agg #[.int .i64 f.kind, bs f.name, bs f.op, .slice a f.vals.length c, .slice b f.parts.length d]) = .agg #[.int .i64 k, .string sn, .string so, .slice a n1 c, .slice b n2 d]) ∧
  (∀ (a : Option Addr) (c : Nat) (b : Option Addr) (d : Nat) (W : World), FltAt W (Old W.heap.size) f a b → Calls Tryz.prog 6 #[.agg #[.int .i64 k, .string sn, .string so, .slice a n1 c, .slice b n2 d]] W fun e w' => (∃ r : Bool, e = .returned (.bool r) ∧ (r = true → fine f = true → sz f ≤ 5000)) ∧ Below W.heap.size W w') ∧
  (∀ (a : Option Addr) (c : Nat) (b : Option Addr) (d : Nat) (W : World), FltAt W (Old W.heap.size) f a b → (fine f = true → sz f ≤ 5000) → Calls Tryz.prog 7 #[.agg #[.int .i64 k, .string sn, .string so, .slice a n1 c, .slice b n2 d]] W fun e w' => e = .returned (.bool (mayB f 10 60)) ∧ Below W.heap.size W w') ∧
  (∀ (a : Option Addr) (c : Nat) (b : Option Addr) (d : Nat) (W : World), LaidE W → LaidT W → FltAt W (Old W.heap.size) f a b → Calls Tryz.prog 8 #[.agg #[.int .i64 k, .string sn, .string so, .slice a n1 c, .slice b n2 d]] W fun e w' => Below W.heap.size W w' ∧ ((mayB f 10 60 = false ∧ e = .returned (.tuple #[.string ⟨#[]⟩, .iface 33 (.int .i64 1)])) ∨ (mayB f 10 60 = true ∧ e = .returned (.tuple #[.string st, .nilIface])))) ∧
  (∀ (a : Option Addr) (c : Nat) (b : Option Addr) (d : Nat) (W : World), LaidE W → FltAt W (Old W.heap.size) f a b → Calls Tryz.prog 9 #[.agg #[.int .i64 k, .string sn, .string so, .slice a n1 c, .slice b n2 d]] W fun e w' => e = .returned (.bool (mayB f 10 60)) ∧ Below W.heap.size W w') ∧
  (∀ (a : Option Addr) (c : Nat) (b : Option Addr) (d : Nat) (W : World), LaidT W → FltAt W (Old W.heap.size) f a b → mayB f 10 60 = true → Calls Tryz.prog 12 #[.agg #[.int .i64 k, .string sn, .string so, .slice a n1 c, .slice b n2 d]] W fun e w' => e = .returned (.string st) ∧ Below W.heap.size W w') ∧
  (∀ (a : Option Addr) (c : Nat) (b : Option Addr) (d : Nat) (a' : Option Addr) (c' : Nat) (b' : Option Addr) (d' : Nat) (W : World), FltAt W (Old W.heap.size) f a b → FltAt W (Old W.heap.size) f a' b' → Calls Tryz.prog 10 #[.agg #[.int .i64 k, .string sn, .string so, .slice a n1 c, .slice b n2 d], .agg #[.int .i64 k, .string sn, .string so, .slice a' n1 c', .slice b' n2 d']] W fun e w' => e = .returned (.bool true) ∧ Below W.heap.size W w')
theorem tl (f : Flt) : ∃ k sn so st n1 n2, Tl f k sn so st n1 n2 := by
  obtain ⟨sn, esn, _⟩ := bs_bytes f.name
  obtain ⟨so, eso, _⟩ := bs_bytes f.op
  refine ⟨f.kind, sn, so, ⟨(showF f).toArray⟩, f.vals.length, f.parts.length, fun a c b d => by rw [esn, eso], fun a c b d W hF => ?_, fun a c b d W hF h5 => ?_, fun a c b d W hE hT hF => ?_, fun a c b d W hE hF => ?_, fun a c b d W hT hF hm => ?_, fun a c b d a' c' b' d' W hF hG => ?_⟩
  · rw [← esn, ← eso]
    exact few_any f a c b d W hF
  · rw [← esn, ← eso]
    exact refMay_any f a c b d W hF h5
  · rw [← esn, ← eso]
    exact textTop_any f a c b d W hE hT hF
  · rw [← esn, ← eso]
    exact filterMay_any f a c b d W hE hF
  · rw [← esn, ← eso]
    exact show_all (sz f) f (Nat.le_refl _) a c b d W hT hF (may_fine hm).1 (by have := (may_fine hm).2.2; omega)
  · rw [← esn, ← eso, ← sameB_refl f]
    exact same_all (sz f) f (Nat.le_refl _) f a c b d a' c' b' d' W hF hG
/-- Of two. -/
def Tl2 (f g : Flt) (k : Int) (sn so : ByteArray) (n1 n2 : Nat) (k' : Int) (sn' so' : ByteArray) (n1' n2' : Nat) : Prop :=
  (∀ (a : Option Addr) (c : Nat) (b : Option Addr) (d : Nat) (a' : Option Addr) (c' : Nat) (b' : Option Addr) (d' : Nat) (W : World), FltAt W (Old W.heap.size) f a b → FltAt W (Old W.heap.size) g a' b' → Calls Tryz.prog 10 #[.agg #[.int .i64 k, .string sn, .string so, .slice a n1 c, .slice b n2 d], .agg #[.int .i64 k', .string sn', .string so', .slice a' n1' c', .slice b' n2' d']] W fun e w' => e = .returned (.bool (sameB f g)) ∧ Below W.heap.size W w') ∧
  (∀ (a : Option Addr) (c : Nat) (b : Option Addr) (d : Nat) (a' : Option Addr) (c' : Nat) (b' : Option Addr) (d' : Nat) (W : World), FltAt W (Old W.heap.size) f a b → FltAt W (Old W.heap.size) g a' b' → Calls Tryz.prog 11 #[.agg #[.int .i64 k, .string sn, .string so, .slice a n1 c, .slice b n2 d], .agg #[.int .i64 k', .string sn', .string so', .slice a' n1' c', .slice b' n2' d']] W fun e w' => e = .returned (.bool (sameB f g)) ∧ Below W.heap.size W w')
theorem tl2 {f g : Flt} {k : Int} {sn so st : ByteArray} {n1 n2 : Nat} {k' : Int} {sn' so' st' : ByteArray} {n1' n2' : Nat} (h1 : Tl f k sn so st n1 n2) (h2 : Tl g k' sn' so' st' n1' n2') : Tl2 f g k sn so n1 n2 k' sn' so' n1' n2' := by
  refine ⟨fun a c b d a' c' b' d' W hF hG => ?_, fun a c b d a' c' b' d' W hF hG => ?_⟩
  · rw [← h1.1, ← h2.1]
    exact same_all (sz f) f (Nat.le_refl _) g a c b d a' c' b' d' W hF hG
  · rw [← h1.1, ← h2.1]
    exact refSame_all (sz f) f (Nat.le_refl _) g a c b d a' c' b' d' W hF hG

set_option maxHeartbeats 8000000 in
set_option maxRecDepth 100000 in
theorem tells_walk (f : Flt) (a : Option Addr) (c : Nat) (b : Option Addr) (d : Nat) (g : Flt) (a' : Option Addr) (c' : Nat) (b' : Option Addr) (d' : Nat) (w : World) (hE : LaidE w) (hT : LaidT w) (hF : FltAt w (Old w.heap.size) f a b) (hG : FltAt w (Old w.heap.size) g a' b') :
    Calls Tryz.prog 3 #[.agg #[.int .i64 f.kind, bs f.name, bs f.op, .slice a f.vals.length c, .slice b f.parts.length d], .agg #[.int .i64 g.kind, bs g.name, bs g.op, .slice a' g.vals.length c', .slice b' g.parts.length d']] w fun e w' => e = .returned (.bool true) ∧ Below w.heap.size w w' := by
  have HE := Lib.hid hE
  have HT := Lib.hid hT
  have HF := Lib.hid hF
  have HG := Lib.hid hG
  have q1 := eqN
  have q6 : ∀ w, (binOp .eql 29 (.iface 33 (.int .i64 1)) (.iface 33 (.int .i64 1))).run Tryz.prog w = .ok (.bool true) w := fun w => eql_iface 1 w
  obtain ⟨k, sn, so, st, n1, n2, hl⟩ := tl f
  obtain ⟨k', sn', so', st', n1', n2', hl'⟩ := tl g
  rw [hl.1, hl'.1]
  have HL := Lib.hid hl
  have HL' := Lib.hid hl'
  have H2 := Lib.hid (tl2 hl hl')
  obtain ⟨mb, hmb⟩ : ∃ x, x = mayB f 10 60 := ⟨_, rfl⟩
  obtain ⟨sb, hsb⟩ : ∃ x, x = sameB f g := ⟨_, rfl⟩
  have HMB := Lib.hid hmb
  clear hE hT hF hG hl hl'
  obtain ⟨w1, hw1⟩ : ∃ v, v = (w.alloc (.cells #[.int .i64 k, .string sn, .string so, .slice a n1 c, .slice b n2 d] 25)).alloc (.cells #[.int .i64 k', .string sn', .string so', .slice a' n1' c', .slice b' n2' d'] 25) := ⟨_, rfl⟩
  have hs1 : (w.alloc (.cells #[.int .i64 k, .string sn, .string so, .slice a n1 c, .slice b n2 d] 25)).heap.size = w.heap.size + 1 := by simp
  have HW1 := Lib.hid hw1
  have B1 := Lib.hid (show Below w.heap.size w w1 by rw [hw1]; exact ((Below.refl _ _).alloc (Nat.le_refl _) _).alloc (by rw [hs1]; omega) _)
  have X1 := Lib.hid (show Box w1 w.heap.size (.int .i64 k) (.string sn) (.string so) (.slice a n1 c) (.slice b n2 d) by rw [hw1]; exact (Box.new ..).later ((Below.refl _ _).alloc (Nat.le_refl _) _))
  have Y1 := Lib.hid (show Box w1 (w.heap.size + 1) (.int .i64 k') (.string sn') (.string so') (.slice a' n1' c') (.slice b' n2' d') by rw [hw1, ← hs1]; exact Box.new ..)
  clear hw1 hs1
  go_enter Tryz.func3, Tryz.ntmps3
  go_wp2_with fail
  rw [← HW1.out]
  refine Calls.mono (up_any w1 (HE.out.later B1.out) (HT.out.later B1.out)) ?_
  rintro e w2 ⟨rfl, hb⟩
  have B2 := Lib.hid (B1.out.trans (hb.mono B1.out.size))
  have X2 := Lib.hid (X1.out.later hb)
  have Y2 := Lib.hid (Y1.out.later hb)
  clear hb
  obtain ⟨x0, x1, x2, x3, x4⟩ := X2.out
  have xl := X2.out.lt
  go_wp2_with fail
  clear x0 x1 x2 x3 x4 xl
  refine Calls.mono (HL.out.2.1 a c b d _ ((HF.out.later B2.out).wide B2.out.size)) ?_
  rintro e w3 ⟨⟨r, rfl, hr⟩, hb⟩
  have B3 := Lib.hid (B2.out.trans (hb.mono B2.out.size))
  have X3 := Lib.hid (X2.out.later hb)
  have Y3 := Lib.hid (Y2.out.later hb)
  have HR := Lib.hid hr
  clear hb hr
  obtain ⟨x0, x1, x2, x3, x4⟩ := Y3.out
  have xl := Y3.out.lt
  go_wp2_with fail
  clear x0 x1 x2 x3 x4 xl
  refine Calls.mono (HL'.out.2.1 a' c' b' d' _ ((HG.out.later B3.out).wide B3.out.size)) ?_
  rintro e w4 ⟨⟨r', rfl, _⟩, hb⟩
  have B4 := Lib.hid (B3.out.trans (hb.mono B3.out.size))
  have X4 := Lib.hid (X3.out.later hb)
  have Y4 := Lib.hid (Y3.out.later hb)
  clear hb
  cases r with
  | false =>
    go_wp2_with fail
    go_ret
    exact ⟨rfl, B4.out⟩
  | true =>
    cases r' with
    | false =>
      go_wp2_with fail
      go_ret
      exact ⟨rfl, B4.out⟩
    | true =>
      obtain ⟨x0, x1, x2, x3, x4⟩ := X4.out
      have xl := X4.out.lt
      go_wp2_with fail
      clear x0 x1 x2 x3 x4 xl
      refine Calls.mono (HL.out.2.2.1 a c b d _ ((HF.out.later B4.out).wide B4.out.size) (HR.out trivial)) ?_
      rintro e w5 ⟨rfl, hb⟩
      have B5 := Lib.hid (B4.out.trans (hb.mono B4.out.size))
      have X5 := Lib.hid (X4.out.later hb)
      have Y5 := Lib.hid (Y4.out.later hb)
      clear hb
      obtain ⟨x0, x1, x2, x3, x4⟩ := X5.out
      have xl := X5.out.lt
      go_wp2_with fail
      clear x0 x1 x2 x3 x4 xl
      have CT := Lib.hid (HL.out.2.2.2.1 a c b d _ (HE.out.later B5.out) (HT.out.later B5.out) ((HF.out.later B5.out).wide B5.out.size))
      rw [Tl2, ← hsb] at H2
      rw [Tl, ← hmb] at HL
      rw [← hmb] at CT ⊢
      refine Calls.mono CT.out ?_
      clear CT hmb hsb
      rintro e w6 ⟨hb, hte⟩
      have B6 := Lib.hid (B5.out.trans (hb.mono B5.out.size))
      have X6 := Lib.hid (X5.out.later hb)
      have Y6 := Lib.hid (Y5.out.later hb)
      have HS := Lib.hid (show ∀ W, Below w6.heap.size w6 W → (fun W => W.cell? ⟨w.heap.size, 0, none⟩ = some (.int .i64 k) ∧ W.cell? ⟨w.heap.size, 1, none⟩ = some (.string sn) ∧ W.cell? ⟨w.heap.size, 2, none⟩ = some (.string so) ∧ W.cell? ⟨w.heap.size, 3, none⟩ = some (.slice a n1 c) ∧ W.cell? ⟨w.heap.size, 4, none⟩ = some (.slice b n2 d) ∧ W.cell? ⟨w.heap.size + 1, 0, none⟩ = some (.int .i64 k') ∧ W.cell? ⟨w.heap.size + 1, 1, none⟩ = some (.string sn') ∧ W.cell? ⟨w.heap.size + 1, 2, none⟩ = some (.string so') ∧ W.cell? ⟨w.heap.size + 1, 3, none⟩ = some (.slice a' n1' c') ∧ W.cell? ⟨w.heap.size + 1, 4, none⟩ = some (.slice b' n2' d') ∧ Below w6.heap.size w6 W) W from fun W hW => by
        obtain ⟨x0, x1, x2, x3, x4⟩ := X6.out.later hW
        obtain ⟨y0, y1, y2, y3, y4⟩ := Y6.out.later hW
        exact ⟨x0, x1, x2, x3, x4, y0, y1, y2, y3, y4, hW⟩)
      clear hb
      cases mb with
      | false =>
        obtain ⟨_, rfl⟩ | ⟨h, _⟩ := hte
        · cases sb
          · go_wp2_with fail
            refine wp_region_held_drew (S := (fun W => W.cell? ⟨w.heap.size, 0, none⟩ = some (.int .i64 k) ∧ W.cell? ⟨w.heap.size, 1, none⟩ = some (.string sn) ∧ W.cell? ⟨w.heap.size, 2, none⟩ = some (.string so) ∧ W.cell? ⟨w.heap.size, 3, none⟩ = some (.slice a n1 c) ∧ W.cell? ⟨w.heap.size, 4, none⟩ = some (.slice b n2 d) ∧ W.cell? ⟨w.heap.size + 1, 0, none⟩ = some (.int .i64 k') ∧ W.cell? ⟨w.heap.size + 1, 1, none⟩ = some (.string sn') ∧ W.cell? ⟨w.heap.size + 1, 2, none⟩ = some (.string so') ∧ W.cell? ⟨w.heap.size + 1, 3, none⟩ = some (.slice a' n1' c') ∧ W.cell? ⟨w.heap.size + 1, 4, none⟩ = some (.slice b' n2' d') ∧ Below w6.heap.size w6 W)) (by kernel_rfl) (HS.out _ (Below.refl _ _).drew) (fun hHeld => ?_)
            refine wpAnyH_take (i := 0) (v := ?vA0) rfl (by kernel_rfl) (by kernel_rfl) (by kernel_rfl) (fun _ _ _ h => h) (Or.inl ⟨by rfl, ?yA0⟩) hHeld ?rA0
            case yA0 => (intro W hSw; simp only [List.getElem_toArray, List.getElem_cons_zero]; go_simp; try (with_reducible rfl))
            simp only [List.getElem_toArray, List.getElem_cons_zero, Act.put, List.setIfInBounds_toArray, List.set_cons_zero, List.set_cons_succ]
            refine wpAnyH_take (i := 2) (v := ?vA2) rfl (by kernel_rfl) (by kernel_rfl) (by kernel_rfl) (fun _ _ _ h => h) (Or.inl ⟨by rfl, ?yA2⟩) hHeld ?rA2
            case yA2 => (intro W hSw; simp only [List.getElem_toArray, List.getElem_cons_succ, List.getElem_cons_zero]; go_simp; try (with_reducible rfl))
            simp only [List.getElem_toArray, List.getElem_cons_succ, List.getElem_cons_zero, Act.put, List.setIfInBounds_toArray, List.set_cons_zero, List.set_cons_succ]
            refine wpAnyH_ready (rs := [1]) (by kernel_rfl) (by simp) (AllReadyH.cons rfl (fun K hK => ?_) AllReadyH.nil)
            simp only [List.getElem_toArray, List.getElem_cons_succ, List.getElem_cons_zero]
            go_simp
            go_at_call 9; refine (HL.out.2.2.2.2.1 a c b d _ (HE.out.later (B6.out.trans (hHeld.2.2.2.2.2.2.2.2.2.2.mono B6.out.size))) ((HF.out.later (B6.out.trans (hHeld.2.2.2.2.2.2.2.2.2.2.mono B6.out.size))).wide (B6.out.trans (hHeld.2.2.2.2.2.2.2.2.2.2.mono B6.out.size)).size)).mono ?_; rintro e wq ⟨rfl, hb1⟩
            try go_wp2_with fail
            refine hK.out _ _ (HS.out _ (hHeld.2.2.2.2.2.2.2.2.2.2.trans (hb1.mono hHeld.2.2.2.2.2.2.2.2.2.2.size))) (fun hHeld1 => ?_)
            clear hK K hHeld
            have hHeld := hHeld1; clear hHeld1
            try simp only [List.getElem_toArray, List.getElem_cons_succ, List.getElem_cons_zero, Act.put, List.setIfInBounds_toArray, List.set_cons_zero, List.set_cons_succ]
            refine wpAnyH_take (i := 3) (v := ?vA3) rfl (by kernel_rfl) (by kernel_rfl) (by kernel_rfl) (fun _ _ _ h => h) (Or.inl ⟨by rfl, ?yA3⟩) hHeld ?rA3
            case yA3 => (intro W hSw; simp only [List.getElem_toArray, List.getElem_cons_succ, List.getElem_cons_zero]; go_simp; try (with_reducible rfl))
            simp only [List.getElem_toArray, List.getElem_cons_succ, List.getElem_cons_zero, Act.put, List.setIfInBounds_toArray, List.set_cons_zero, List.set_cons_succ]
            refine wpAnyH_take (i := 4) (v := ?vA4) rfl (by kernel_rfl) (by kernel_rfl) (by kernel_rfl) (fun _ _ _ h => h) (Or.inl ⟨by rfl, ?yA4⟩) hHeld ?rA4
            case yA4 => (intro W hSw; simp only [List.getElem_toArray, List.getElem_cons_succ, List.getElem_cons_zero]; go_simp; try (with_reducible rfl))
            simp only [List.getElem_toArray, List.getElem_cons_succ, List.getElem_cons_zero, Act.put, List.setIfInBounds_toArray, List.set_cons_zero, List.set_cons_succ]
            refine wpAnyH_take (i := 5) (v := ?vA5) rfl (by kernel_rfl) (by kernel_rfl) (by kernel_rfl) (fun _ _ _ h => h) (Or.inl ⟨by rfl, ?yA5⟩) hHeld ?rA5
            case yA5 => (intro W hSw; simp only [List.getElem_toArray, List.getElem_cons_succ, List.getElem_cons_zero]; go_simp; try (with_reducible rfl))
            simp only [List.getElem_toArray, List.getElem_cons_succ, List.getElem_cons_zero, Act.put, List.setIfInBounds_toArray, List.set_cons_zero, List.set_cons_succ]
            refine wpAnyH_take (i := 6) (v := ?vA6) rfl (by kernel_rfl) (by kernel_rfl) (by kernel_rfl) (fun _ _ _ h => h) (Or.inl ⟨by rfl, ?yA6⟩) hHeld ?rA6
            case yA6 => (intro W hSw; simp only [List.getElem_toArray, List.getElem_cons_succ, List.getElem_cons_zero]; go_simp; try (with_reducible rfl))
            simp only [List.getElem_toArray, List.getElem_cons_succ, List.getElem_cons_zero, Act.put, List.setIfInBounds_toArray, List.set_cons_zero, List.set_cons_succ]
            refine wpAnyH_take (i := 8) (v := ?vA8) rfl (by kernel_rfl) (by kernel_rfl) (by kernel_rfl) (fun _ _ _ h => h) (Or.inl ⟨by rfl, ?yA8⟩) hHeld ?rA8
            case yA8 => (intro W hSw; simp only [List.getElem_toArray, List.getElem_cons_succ, List.getElem_cons_zero]; go_simp; try (with_reducible rfl))
            simp only [List.getElem_toArray, List.getElem_cons_succ, List.getElem_cons_zero, Act.put, List.setIfInBounds_toArray, List.set_cons_zero, List.set_cons_succ]
            refine wpAnyH_take (i := 9) (v := ?vA9) rfl (by kernel_rfl) (by kernel_rfl) (by kernel_rfl) (fun _ _ _ h => h) (Or.inl ⟨by rfl, ?yA9⟩) hHeld ?rA9
            case yA9 => (intro W hSw; simp only [List.getElem_toArray, List.getElem_cons_succ, List.getElem_cons_zero]; go_simp; try (with_reducible rfl))
            simp only [List.getElem_toArray, List.getElem_cons_succ, List.getElem_cons_zero, Act.put, List.setIfInBounds_toArray, List.set_cons_zero, List.set_cons_succ]
            refine wpAnyH_ready (rs := [7]) (by kernel_rfl) (by simp) (AllReadyH.cons rfl (fun K hK => ?_) AllReadyH.nil)
            simp only [List.getElem_toArray, List.getElem_cons_succ, List.getElem_cons_zero]
            go_simp
            go_at_call 10; refine (H2.out.1 a c b d a' c' b' d' _ ((HF.out.later (B6.out.trans (hHeld.2.2.2.2.2.2.2.2.2.2.mono B6.out.size))).wide (B6.out.trans (hHeld.2.2.2.2.2.2.2.2.2.2.mono B6.out.size)).size) ((HG.out.later (B6.out.trans (hHeld.2.2.2.2.2.2.2.2.2.2.mono B6.out.size))).wide (B6.out.trans (hHeld.2.2.2.2.2.2.2.2.2.2.mono B6.out.size)).size)).mono ?_; rintro e wq ⟨rfl, hb1⟩
            try go_wp2_with fail
            refine hK.out _ _ (HS.out _ (hHeld.2.2.2.2.2.2.2.2.2.2.trans (hb1.mono hHeld.2.2.2.2.2.2.2.2.2.2.size))) (fun hHeld1 => ?_)
            clear hK K hHeld
            have hHeld := hHeld1; clear hHeld1
            try simp only [List.getElem_toArray, List.getElem_cons_succ, List.getElem_cons_zero, Act.put, List.setIfInBounds_toArray, List.set_cons_zero, List.set_cons_succ]
            refine wpAnyH_ready (rs := [10]) (by kernel_rfl) (by simp) (AllReadyH.cons rfl (fun K hK => ?_) AllReadyH.nil)
            simp only [List.getElem_toArray, List.getElem_cons_succ, List.getElem_cons_zero]
            go_simp
            go_at_call 11; refine (H2.out.2 a c b d a' c' b' d' _ ((HF.out.later (B6.out.trans (hHeld.2.2.2.2.2.2.2.2.2.2.mono B6.out.size))).wide (B6.out.trans (hHeld.2.2.2.2.2.2.2.2.2.2.mono B6.out.size)).size) ((HG.out.later (B6.out.trans (hHeld.2.2.2.2.2.2.2.2.2.2.mono B6.out.size))).wide (B6.out.trans (hHeld.2.2.2.2.2.2.2.2.2.2.mono B6.out.size)).size)).mono ?_; rintro e wq ⟨rfl, hb1⟩
            try go_wp2_with fail
            refine hK.out _ _ (HS.out _ (hHeld.2.2.2.2.2.2.2.2.2.2.trans (hb1.mono hHeld.2.2.2.2.2.2.2.2.2.2.size))) (fun hHeld1 => ?_)
            clear hK K hHeld
            have hHeld := hHeld1; clear hHeld1
            try simp only [List.getElem_toArray, List.getElem_cons_succ, List.getElem_cons_zero, Act.put, List.setIfInBounds_toArray, List.set_cons_zero, List.set_cons_succ]
            refine wpAnyH_take (i := 11) (v := ?vA11) rfl (by kernel_rfl) (by kernel_rfl) (by kernel_rfl) (fun _ _ _ h => h) (Or.inl ⟨by rfl, ?yA11⟩) hHeld ?rA11
            case yA11 => (intro W hSw; simp only [List.getElem_toArray, List.getElem_cons_succ, List.getElem_cons_zero]; go_simp; try (with_reducible rfl))
            simp only [List.getElem_toArray, List.getElem_cons_succ, List.getElem_cons_zero, Act.put, List.setIfInBounds_toArray, List.set_cons_zero, List.set_cons_succ]
            refine wpAnyH_take (i := 12) (v := ?vA12) rfl (by kernel_rfl) (by kernel_rfl) (by kernel_rfl) (fun _ _ _ h => h) (Or.inl ⟨by rfl, ?yA12⟩) hHeld ?rA12
            case yA12 => (intro W hSw; simp only [List.getElem_toArray, List.getElem_cons_succ, List.getElem_cons_zero]; go_simp; try (with_reducible rfl))
            simp only [List.getElem_toArray, List.getElem_cons_succ, List.getElem_cons_zero, Act.put, List.setIfInBounds_toArray, List.set_cons_zero, List.set_cons_succ]
            refine wpAnyH_take (i := 13) (v := ?vA13) rfl (by kernel_rfl) (by kernel_rfl) (by kernel_rfl) (fun _ _ _ h => h) (Or.inl ⟨by rfl, ?yA13⟩) hHeld ?rA13
            case yA13 => (intro W hSw; simp only [List.getElem_toArray, List.getElem_cons_succ, List.getElem_cons_zero]; go_simp; try (with_reducible rfl))
            simp only [List.getElem_toArray, List.getElem_cons_succ, List.getElem_cons_zero, Act.put, List.setIfInBounds_toArray, List.set_cons_zero, List.set_cons_succ]
            refine wpAnyH_take (i := 14) (v := ?vA14) rfl (by kernel_rfl) (by kernel_rfl) (by kernel_rfl) (fun _ _ _ h => h) (Or.inl ⟨by rfl, ?yA14⟩) hHeld ?rA14
            case yA14 => (intro W hSw; simp only [List.getElem_toArray, List.getElem_cons_succ, List.getElem_cons_zero]; go_simp; try (with_reducible rfl))
            simp only [List.getElem_toArray, List.getElem_cons_succ, List.getElem_cons_zero, Act.put, List.setIfInBounds_toArray, List.set_cons_zero, List.set_cons_succ]
            refine wpAnyH_take (i := 15) (v := ?vA15) rfl (by kernel_rfl) (by kernel_rfl) (by kernel_rfl) (fun _ _ _ h => h) (Or.inl ⟨by rfl, ?yA15⟩) hHeld ?rA15
            case yA15 => (intro W hSw; simp only [List.getElem_toArray, List.getElem_cons_succ, List.getElem_cons_zero]; go_simp; try (with_reducible rfl))
            simp only [List.getElem_toArray, List.getElem_cons_succ, List.getElem_cons_zero, Act.put, List.setIfInBounds_toArray, List.set_cons_zero, List.set_cons_succ]
            refine wpAnyH_ready (rs := [16]) (by kernel_rfl) (by simp) (AllReadyH.cons rfl (fun K hK => ?_) AllReadyH.nil)
            simp only [List.getElem_toArray, List.getElem_cons_succ, List.getElem_cons_zero]
            go_simp
            go_at_call 10; refine (HL.out.2.2.2.2.2.2 a c b d a c b d _ ((HF.out.later (B6.out.trans (hHeld.2.2.2.2.2.2.2.2.2.2.mono B6.out.size))).wide (B6.out.trans (hHeld.2.2.2.2.2.2.2.2.2.2.mono B6.out.size)).size) ((HF.out.later (B6.out.trans (hHeld.2.2.2.2.2.2.2.2.2.2.mono B6.out.size))).wide (B6.out.trans (hHeld.2.2.2.2.2.2.2.2.2.2.mono B6.out.size)).size)).mono ?_; rintro e wq ⟨rfl, hb1⟩
            try go_wp2_with fail
            refine hK.out _ _ (HS.out _ (hHeld.2.2.2.2.2.2.2.2.2.2.trans (hb1.mono hHeld.2.2.2.2.2.2.2.2.2.2.size))) (fun hHeld1 => ?_)
            clear hK K hHeld
            have hHeld := hHeld1; clear hHeld1
            try simp only [List.getElem_toArray, List.getElem_cons_succ, List.getElem_cons_zero, Act.put, List.setIfInBounds_toArray, List.set_cons_zero, List.set_cons_succ]
            refine wpAnyH_take (i := 17) (v := ?vA17) rfl (by kernel_rfl) (by kernel_rfl) (by kernel_rfl) (fun _ _ _ h => h) (Or.inl ⟨by rfl, ?yA17⟩) hHeld ?rA17
            case yA17 => (intro W hSw; simp only [List.getElem_toArray, List.getElem_cons_succ, List.getElem_cons_zero]; go_simp; try (with_reducible rfl))
            simp only [List.getElem_toArray, List.getElem_cons_succ, List.getElem_cons_zero, Act.put, List.setIfInBounds_toArray, List.set_cons_zero, List.set_cons_succ]
            refine wpAnyH_take (i := 18) (v := ?vA18) rfl (by kernel_rfl) (by kernel_rfl) (by kernel_rfl) (fun _ _ _ h => h) (Or.inl ⟨by rfl, ?yA18⟩) hHeld ?rA18
            case yA18 => (intro W hSw; simp only [List.getElem_toArray, List.getElem_cons_succ, List.getElem_cons_zero]; go_simp; try (with_reducible rfl))
            simp only [List.getElem_toArray, List.getElem_cons_succ, List.getElem_cons_zero, Act.put, List.setIfInBounds_toArray, List.set_cons_zero, List.set_cons_succ]
            refine wpAnyH_done (by kernel_rfl) ?_ _
            have B7 := Lib.hid (B6.out.trans (hHeld.2.2.2.2.2.2.2.2.2.2.mono B6.out.size))
            obtain ⟨x0, x1, x2, x3, x4, -⟩ := hHeld
            have xl : w.heap.size < _ := World.block_lt_of_cell? _ ⟨w.heap.size, 0, none⟩ x0
            go_wp2_with fail
            go_ret
            exact ⟨rfl, B7.out⟩
          · go_wp2_with fail
            refine wp_region_held_drew (S := (fun W => W.cell? ⟨w.heap.size, 0, none⟩ = some (.int .i64 k) ∧ W.cell? ⟨w.heap.size, 1, none⟩ = some (.string sn) ∧ W.cell? ⟨w.heap.size, 2, none⟩ = some (.string so) ∧ W.cell? ⟨w.heap.size, 3, none⟩ = some (.slice a n1 c) ∧ W.cell? ⟨w.heap.size, 4, none⟩ = some (.slice b n2 d) ∧ W.cell? ⟨w.heap.size + 1, 0, none⟩ = some (.int .i64 k') ∧ W.cell? ⟨w.heap.size + 1, 1, none⟩ = some (.string sn') ∧ W.cell? ⟨w.heap.size + 1, 2, none⟩ = some (.string so') ∧ W.cell? ⟨w.heap.size + 1, 3, none⟩ = some (.slice a' n1' c') ∧ W.cell? ⟨w.heap.size + 1, 4, none⟩ = some (.slice b' n2' d') ∧ Below w6.heap.size w6 W)) (by kernel_rfl) (HS.out _ (Below.refl _ _).drew) (fun hHeld => ?_)
            refine wpAnyH_take (i := 0) (v := ?vB0) rfl (by kernel_rfl) (by kernel_rfl) (by kernel_rfl) (fun _ _ _ h => h) (Or.inl ⟨by rfl, ?yB0⟩) hHeld ?rB0
            case yB0 => (intro W hSw; simp only [List.getElem_toArray, List.getElem_cons_zero]; go_simp; try (with_reducible rfl))
            simp only [List.getElem_toArray, List.getElem_cons_zero, Act.put, List.setIfInBounds_toArray, List.set_cons_zero, List.set_cons_succ]
            refine wpAnyH_take (i := 2) (v := ?vB2) rfl (by kernel_rfl) (by kernel_rfl) (by kernel_rfl) (fun _ _ _ h => h) (Or.inl ⟨by rfl, ?yB2⟩) hHeld ?rB2
            case yB2 => (intro W hSw; simp only [List.getElem_toArray, List.getElem_cons_succ, List.getElem_cons_zero]; go_simp; try (with_reducible rfl))
            simp only [List.getElem_toArray, List.getElem_cons_succ, List.getElem_cons_zero, Act.put, List.setIfInBounds_toArray, List.set_cons_zero, List.set_cons_succ]
            refine wpAnyH_ready (rs := [1]) (by kernel_rfl) (by simp) (AllReadyH.cons rfl (fun K hK => ?_) AllReadyH.nil)
            simp only [List.getElem_toArray, List.getElem_cons_succ, List.getElem_cons_zero]
            go_simp
            go_at_call 9; refine (HL.out.2.2.2.2.1 a c b d _ (HE.out.later (B6.out.trans (hHeld.2.2.2.2.2.2.2.2.2.2.mono B6.out.size))) ((HF.out.later (B6.out.trans (hHeld.2.2.2.2.2.2.2.2.2.2.mono B6.out.size))).wide (B6.out.trans (hHeld.2.2.2.2.2.2.2.2.2.2.mono B6.out.size)).size)).mono ?_; rintro e wq ⟨rfl, hb1⟩
            try go_wp2_with fail
            refine hK.out _ _ (HS.out _ (hHeld.2.2.2.2.2.2.2.2.2.2.trans (hb1.mono hHeld.2.2.2.2.2.2.2.2.2.2.size))) (fun hHeld1 => ?_)
            clear hK K hHeld
            have hHeld := hHeld1; clear hHeld1
            try simp only [List.getElem_toArray, List.getElem_cons_succ, List.getElem_cons_zero, Act.put, List.setIfInBounds_toArray, List.set_cons_zero, List.set_cons_succ]
            refine wpAnyH_take (i := 3) (v := ?vB3) rfl (by kernel_rfl) (by kernel_rfl) (by kernel_rfl) (fun _ _ _ h => h) (Or.inl ⟨by rfl, ?yB3⟩) hHeld ?rB3
            case yB3 => (intro W hSw; simp only [List.getElem_toArray, List.getElem_cons_succ, List.getElem_cons_zero]; go_simp; try (with_reducible rfl))
            simp only [List.getElem_toArray, List.getElem_cons_succ, List.getElem_cons_zero, Act.put, List.setIfInBounds_toArray, List.set_cons_zero, List.set_cons_succ]
            refine wpAnyH_take (i := 4) (v := ?vB4) rfl (by kernel_rfl) (by kernel_rfl) (by kernel_rfl) (fun _ _ _ h => h) (Or.inl ⟨by rfl, ?yB4⟩) hHeld ?rB4
            case yB4 => (intro W hSw; simp only [List.getElem_toArray, List.getElem_cons_succ, List.getElem_cons_zero]; go_simp; try (with_reducible rfl))
            simp only [List.getElem_toArray, List.getElem_cons_succ, List.getElem_cons_zero, Act.put, List.setIfInBounds_toArray, List.set_cons_zero, List.set_cons_succ]
            refine wpAnyH_take (i := 5) (v := ?vB5) rfl (by kernel_rfl) (by kernel_rfl) (by kernel_rfl) (fun _ _ _ h => h) (Or.inl ⟨by rfl, ?yB5⟩) hHeld ?rB5
            case yB5 => (intro W hSw; simp only [List.getElem_toArray, List.getElem_cons_succ, List.getElem_cons_zero]; go_simp; try (with_reducible rfl))
            simp only [List.getElem_toArray, List.getElem_cons_succ, List.getElem_cons_zero, Act.put, List.setIfInBounds_toArray, List.set_cons_zero, List.set_cons_succ]
            refine wpAnyH_take (i := 6) (v := ?vB6) rfl (by kernel_rfl) (by kernel_rfl) (by kernel_rfl) (fun _ _ _ h => h) (Or.inl ⟨by rfl, ?yB6⟩) hHeld ?rB6
            case yB6 => (intro W hSw; simp only [List.getElem_toArray, List.getElem_cons_succ, List.getElem_cons_zero]; go_simp; try (with_reducible rfl))
            simp only [List.getElem_toArray, List.getElem_cons_succ, List.getElem_cons_zero, Act.put, List.setIfInBounds_toArray, List.set_cons_zero, List.set_cons_succ]
            refine wpAnyH_take (i := 8) (v := ?vB8) rfl (by kernel_rfl) (by kernel_rfl) (by kernel_rfl) (fun _ _ _ h => h) (Or.inl ⟨by rfl, ?yB8⟩) hHeld ?rB8
            case yB8 => (intro W hSw; simp only [List.getElem_toArray, List.getElem_cons_succ, List.getElem_cons_zero]; go_simp; try (with_reducible rfl))
            simp only [List.getElem_toArray, List.getElem_cons_succ, List.getElem_cons_zero, Act.put, List.setIfInBounds_toArray, List.set_cons_zero, List.set_cons_succ]
            refine wpAnyH_take (i := 9) (v := ?vB9) rfl (by kernel_rfl) (by kernel_rfl) (by kernel_rfl) (fun _ _ _ h => h) (Or.inl ⟨by rfl, ?yB9⟩) hHeld ?rB9
            case yB9 => (intro W hSw; simp only [List.getElem_toArray, List.getElem_cons_succ, List.getElem_cons_zero]; go_simp; try (with_reducible rfl))
            simp only [List.getElem_toArray, List.getElem_cons_succ, List.getElem_cons_zero, Act.put, List.setIfInBounds_toArray, List.set_cons_zero, List.set_cons_succ]
            refine wpAnyH_ready (rs := [7]) (by kernel_rfl) (by simp) (AllReadyH.cons rfl (fun K hK => ?_) AllReadyH.nil)
            simp only [List.getElem_toArray, List.getElem_cons_succ, List.getElem_cons_zero]
            go_simp
            go_at_call 10; refine (H2.out.1 a c b d a' c' b' d' _ ((HF.out.later (B6.out.trans (hHeld.2.2.2.2.2.2.2.2.2.2.mono B6.out.size))).wide (B6.out.trans (hHeld.2.2.2.2.2.2.2.2.2.2.mono B6.out.size)).size) ((HG.out.later (B6.out.trans (hHeld.2.2.2.2.2.2.2.2.2.2.mono B6.out.size))).wide (B6.out.trans (hHeld.2.2.2.2.2.2.2.2.2.2.mono B6.out.size)).size)).mono ?_; rintro e wq ⟨rfl, hb1⟩
            try go_wp2_with fail
            refine hK.out _ _ (HS.out _ (hHeld.2.2.2.2.2.2.2.2.2.2.trans (hb1.mono hHeld.2.2.2.2.2.2.2.2.2.2.size))) (fun hHeld1 => ?_)
            clear hK K hHeld
            have hHeld := hHeld1; clear hHeld1
            try simp only [List.getElem_toArray, List.getElem_cons_succ, List.getElem_cons_zero, Act.put, List.setIfInBounds_toArray, List.set_cons_zero, List.set_cons_succ]
            refine wpAnyH_ready (rs := [10]) (by kernel_rfl) (by simp) (AllReadyH.cons rfl (fun K hK => ?_) AllReadyH.nil)
            simp only [List.getElem_toArray, List.getElem_cons_succ, List.getElem_cons_zero]
            go_simp
            go_at_call 11; refine (H2.out.2 a c b d a' c' b' d' _ ((HF.out.later (B6.out.trans (hHeld.2.2.2.2.2.2.2.2.2.2.mono B6.out.size))).wide (B6.out.trans (hHeld.2.2.2.2.2.2.2.2.2.2.mono B6.out.size)).size) ((HG.out.later (B6.out.trans (hHeld.2.2.2.2.2.2.2.2.2.2.mono B6.out.size))).wide (B6.out.trans (hHeld.2.2.2.2.2.2.2.2.2.2.mono B6.out.size)).size)).mono ?_; rintro e wq ⟨rfl, hb1⟩
            try go_wp2_with fail
            refine hK.out _ _ (HS.out _ (hHeld.2.2.2.2.2.2.2.2.2.2.trans (hb1.mono hHeld.2.2.2.2.2.2.2.2.2.2.size))) (fun hHeld1 => ?_)
            clear hK K hHeld
            have hHeld := hHeld1; clear hHeld1
            try simp only [List.getElem_toArray, List.getElem_cons_succ, List.getElem_cons_zero, Act.put, List.setIfInBounds_toArray, List.set_cons_zero, List.set_cons_succ]
            refine wpAnyH_take (i := 11) (v := ?vB11) rfl (by kernel_rfl) (by kernel_rfl) (by kernel_rfl) (fun _ _ _ h => h) (Or.inl ⟨by rfl, ?yB11⟩) hHeld ?rB11
            case yB11 => (intro W hSw; simp only [List.getElem_toArray, List.getElem_cons_succ, List.getElem_cons_zero]; go_simp; try (with_reducible rfl))
            simp only [List.getElem_toArray, List.getElem_cons_succ, List.getElem_cons_zero, Act.put, List.setIfInBounds_toArray, List.set_cons_zero, List.set_cons_succ]
            refine wpAnyH_take (i := 12) (v := ?vB12) rfl (by kernel_rfl) (by kernel_rfl) (by kernel_rfl) (fun _ _ _ h => h) (Or.inl ⟨by rfl, ?yB12⟩) hHeld ?rB12
            case yB12 => (intro W hSw; simp only [List.getElem_toArray, List.getElem_cons_succ, List.getElem_cons_zero]; go_simp; try (with_reducible rfl))
            simp only [List.getElem_toArray, List.getElem_cons_succ, List.getElem_cons_zero, Act.put, List.setIfInBounds_toArray, List.set_cons_zero, List.set_cons_succ]
            refine wpAnyH_take (i := 13) (v := ?vB13) rfl (by kernel_rfl) (by kernel_rfl) (by kernel_rfl) (fun _ _ _ h => h) (Or.inl ⟨by rfl, ?yB13⟩) hHeld ?rB13
            case yB13 => (intro W hSw; simp only [List.getElem_toArray, List.getElem_cons_succ, List.getElem_cons_zero]; go_simp; try (with_reducible rfl))
            simp only [List.getElem_toArray, List.getElem_cons_succ, List.getElem_cons_zero, Act.put, List.setIfInBounds_toArray, List.set_cons_zero, List.set_cons_succ]
            refine wpAnyH_take (i := 14) (v := ?vB14) rfl (by kernel_rfl) (by kernel_rfl) (by kernel_rfl) (fun _ _ _ h => h) (Or.inl ⟨by rfl, ?yB14⟩) hHeld ?rB14
            case yB14 => (intro W hSw; simp only [List.getElem_toArray, List.getElem_cons_succ, List.getElem_cons_zero]; go_simp; try (with_reducible rfl))
            simp only [List.getElem_toArray, List.getElem_cons_succ, List.getElem_cons_zero, Act.put, List.setIfInBounds_toArray, List.set_cons_zero, List.set_cons_succ]
            refine wpAnyH_take (i := 15) (v := ?vB15) rfl (by kernel_rfl) (by kernel_rfl) (by kernel_rfl) (fun _ _ _ h => h) (Or.inl ⟨by rfl, ?yB15⟩) hHeld ?rB15
            case yB15 => (intro W hSw; simp only [List.getElem_toArray, List.getElem_cons_succ, List.getElem_cons_zero]; go_simp; try (with_reducible rfl))
            simp only [List.getElem_toArray, List.getElem_cons_succ, List.getElem_cons_zero, Act.put, List.setIfInBounds_toArray, List.set_cons_zero, List.set_cons_succ]
            refine wpAnyH_ready (rs := [16]) (by kernel_rfl) (by simp) (AllReadyH.cons rfl (fun K hK => ?_) AllReadyH.nil)
            simp only [List.getElem_toArray, List.getElem_cons_succ, List.getElem_cons_zero]
            go_simp
            go_at_call 10; refine (HL.out.2.2.2.2.2.2 a c b d a c b d _ ((HF.out.later (B6.out.trans (hHeld.2.2.2.2.2.2.2.2.2.2.mono B6.out.size))).wide (B6.out.trans (hHeld.2.2.2.2.2.2.2.2.2.2.mono B6.out.size)).size) ((HF.out.later (B6.out.trans (hHeld.2.2.2.2.2.2.2.2.2.2.mono B6.out.size))).wide (B6.out.trans (hHeld.2.2.2.2.2.2.2.2.2.2.mono B6.out.size)).size)).mono ?_; rintro e wq ⟨rfl, hb1⟩
            try go_wp2_with fail
            refine hK.out _ _ (HS.out _ (hHeld.2.2.2.2.2.2.2.2.2.2.trans (hb1.mono hHeld.2.2.2.2.2.2.2.2.2.2.size))) (fun hHeld1 => ?_)
            clear hK K hHeld
            have hHeld := hHeld1; clear hHeld1
            try simp only [List.getElem_toArray, List.getElem_cons_succ, List.getElem_cons_zero, Act.put, List.setIfInBounds_toArray, List.set_cons_zero, List.set_cons_succ]
            refine wpAnyH_take (i := 17) (v := ?vB17) rfl (by kernel_rfl) (by kernel_rfl) (by kernel_rfl) (fun _ _ _ h => h) (Or.inl ⟨by rfl, ?yB17⟩) hHeld ?rB17
            case yB17 => (intro W hSw; simp only [List.getElem_toArray, List.getElem_cons_succ, List.getElem_cons_zero]; go_simp; try (with_reducible rfl))
            simp only [List.getElem_toArray, List.getElem_cons_succ, List.getElem_cons_zero, Act.put, List.setIfInBounds_toArray, List.set_cons_zero, List.set_cons_succ]
            refine wpAnyH_take (i := 18) (v := ?vB18) rfl (by kernel_rfl) (by kernel_rfl) (by kernel_rfl) (fun _ _ _ h => h) (Or.inl ⟨by rfl, ?yB18⟩) hHeld ?rB18
            case yB18 => (intro W hSw; simp only [List.getElem_toArray, List.getElem_cons_succ, List.getElem_cons_zero]; go_simp; try (with_reducible rfl))
            simp only [List.getElem_toArray, List.getElem_cons_succ, List.getElem_cons_zero, Act.put, List.setIfInBounds_toArray, List.set_cons_zero, List.set_cons_succ]
            refine wpAnyH_done (by kernel_rfl) ?_ _
            have B7 := Lib.hid (B6.out.trans (hHeld.2.2.2.2.2.2.2.2.2.2.mono B6.out.size))
            obtain ⟨x0, x1, x2, x3, x4, -⟩ := hHeld
            have xl : w.heap.size < _ := World.block_lt_of_cell? _ ⟨w.heap.size, 0, none⟩ x0
            go_wp2_with fail
            go_ret
            exact ⟨rfl, B7.out⟩
        · cases h
      | true =>
        obtain ⟨h, _⟩ | ⟨_, rfl⟩ := hte
        · cases h
        · cases sb
          · go_wp2_with fail
            refine wp_region_held_drew (S := (fun W => W.cell? ⟨w.heap.size, 0, none⟩ = some (.int .i64 k) ∧ W.cell? ⟨w.heap.size, 1, none⟩ = some (.string sn) ∧ W.cell? ⟨w.heap.size, 2, none⟩ = some (.string so) ∧ W.cell? ⟨w.heap.size, 3, none⟩ = some (.slice a n1 c) ∧ W.cell? ⟨w.heap.size, 4, none⟩ = some (.slice b n2 d) ∧ W.cell? ⟨w.heap.size + 1, 0, none⟩ = some (.int .i64 k') ∧ W.cell? ⟨w.heap.size + 1, 1, none⟩ = some (.string sn') ∧ W.cell? ⟨w.heap.size + 1, 2, none⟩ = some (.string so') ∧ W.cell? ⟨w.heap.size + 1, 3, none⟩ = some (.slice a' n1' c') ∧ W.cell? ⟨w.heap.size + 1, 4, none⟩ = some (.slice b' n2' d') ∧ Below w6.heap.size w6 W)) (by kernel_rfl) (HS.out _ (Below.refl _ _).drew) (fun hHeld => ?_)
            refine wpAnyH_take (i := 0) (v := ?vC0) rfl (by kernel_rfl) (by kernel_rfl) (by kernel_rfl) (fun _ _ _ h => h) (Or.inl ⟨by rfl, ?yC0⟩) hHeld ?rC0
            case yC0 => (intro W hSw; simp only [List.getElem_toArray, List.getElem_cons_zero]; go_simp; try (with_reducible rfl))
            simp only [List.getElem_toArray, List.getElem_cons_zero, Act.put, List.setIfInBounds_toArray, List.set_cons_zero, List.set_cons_succ]
            refine wpAnyH_take (i := 2) (v := ?vC2) rfl (by kernel_rfl) (by kernel_rfl) (by kernel_rfl) (fun _ _ _ h => h) (Or.inl ⟨by rfl, ?yC2⟩) hHeld ?rC2
            case yC2 => (intro W hSw; simp only [List.getElem_toArray, List.getElem_cons_succ, List.getElem_cons_zero]; go_simp; try (with_reducible rfl))
            simp only [List.getElem_toArray, List.getElem_cons_succ, List.getElem_cons_zero, Act.put, List.setIfInBounds_toArray, List.set_cons_zero, List.set_cons_succ]
            refine wpAnyH_ready (rs := [1]) (by kernel_rfl) (by simp) (AllReadyH.cons rfl (fun K hK => ?_) AllReadyH.nil)
            simp only [List.getElem_toArray, List.getElem_cons_succ, List.getElem_cons_zero]
            go_simp
            go_at_call 9; refine (HL.out.2.2.2.2.1 a c b d _ (HE.out.later (B6.out.trans (hHeld.2.2.2.2.2.2.2.2.2.2.mono B6.out.size))) ((HF.out.later (B6.out.trans (hHeld.2.2.2.2.2.2.2.2.2.2.mono B6.out.size))).wide (B6.out.trans (hHeld.2.2.2.2.2.2.2.2.2.2.mono B6.out.size)).size)).mono ?_; rintro e wq ⟨rfl, hb1⟩
            try go_wp2_with fail
            refine hK.out _ _ (HS.out _ (hHeld.2.2.2.2.2.2.2.2.2.2.trans (hb1.mono hHeld.2.2.2.2.2.2.2.2.2.2.size))) (fun hHeld1 => ?_)
            clear hK K hHeld
            have hHeld := hHeld1; clear hHeld1
            try simp only [List.getElem_toArray, List.getElem_cons_succ, List.getElem_cons_zero, Act.put, List.setIfInBounds_toArray, List.set_cons_zero, List.set_cons_succ]
            refine wpAnyH_take (i := 3) (v := ?vC3) rfl (by kernel_rfl) (by kernel_rfl) (by kernel_rfl) (fun _ _ _ h => h) (Or.inl ⟨by rfl, ?yC3⟩) hHeld ?rC3
            case yC3 => (intro W hSw; simp only [List.getElem_toArray, List.getElem_cons_succ, List.getElem_cons_zero]; go_simp; try (with_reducible rfl))
            simp only [List.getElem_toArray, List.getElem_cons_succ, List.getElem_cons_zero, Act.put, List.setIfInBounds_toArray, List.set_cons_zero, List.set_cons_succ]
            refine wpAnyH_take (i := 4) (v := ?vC4) rfl (by kernel_rfl) (by kernel_rfl) (by kernel_rfl) (fun _ _ _ h => h) (Or.inl ⟨by rfl, ?yC4⟩) hHeld ?rC4
            case yC4 => (intro W hSw; simp only [List.getElem_toArray, List.getElem_cons_succ, List.getElem_cons_zero]; go_simp; try (with_reducible rfl))
            simp only [List.getElem_toArray, List.getElem_cons_succ, List.getElem_cons_zero, Act.put, List.setIfInBounds_toArray, List.set_cons_zero, List.set_cons_succ]
            refine wpAnyH_take (i := 5) (v := ?vC5) rfl (by kernel_rfl) (by kernel_rfl) (by kernel_rfl) (fun _ _ _ h => h) (Or.inl ⟨by rfl, ?yC5⟩) hHeld ?rC5
            case yC5 => (intro W hSw; simp only [List.getElem_toArray, List.getElem_cons_succ, List.getElem_cons_zero]; go_simp; try (with_reducible rfl))
            simp only [List.getElem_toArray, List.getElem_cons_succ, List.getElem_cons_zero, Act.put, List.setIfInBounds_toArray, List.set_cons_zero, List.set_cons_succ]
            refine wpAnyH_take (i := 6) (v := ?vC6) rfl (by kernel_rfl) (by kernel_rfl) (by kernel_rfl) (fun _ _ _ h => h) (Or.inl ⟨by rfl, ?yC6⟩) hHeld ?rC6
            case yC6 => (intro W hSw; simp only [List.getElem_toArray, List.getElem_cons_succ, List.getElem_cons_zero]; go_simp; try (with_reducible rfl))
            simp only [List.getElem_toArray, List.getElem_cons_succ, List.getElem_cons_zero, Act.put, List.setIfInBounds_toArray, List.set_cons_zero, List.set_cons_succ]
            refine wpAnyH_take (i := 8) (v := ?vC8) rfl (by kernel_rfl) (by kernel_rfl) (by kernel_rfl) (fun _ _ _ h => h) (Or.inl ⟨by rfl, ?yC8⟩) hHeld ?rC8
            case yC8 => (intro W hSw; simp only [List.getElem_toArray, List.getElem_cons_succ, List.getElem_cons_zero]; go_simp; try (with_reducible rfl))
            simp only [List.getElem_toArray, List.getElem_cons_succ, List.getElem_cons_zero, Act.put, List.setIfInBounds_toArray, List.set_cons_zero, List.set_cons_succ]
            refine wpAnyH_take (i := 9) (v := ?vC9) rfl (by kernel_rfl) (by kernel_rfl) (by kernel_rfl) (fun _ _ _ h => h) (Or.inl ⟨by rfl, ?yC9⟩) hHeld ?rC9
            case yC9 => (intro W hSw; simp only [List.getElem_toArray, List.getElem_cons_succ, List.getElem_cons_zero]; go_simp; try (with_reducible rfl))
            simp only [List.getElem_toArray, List.getElem_cons_succ, List.getElem_cons_zero, Act.put, List.setIfInBounds_toArray, List.set_cons_zero, List.set_cons_succ]
            refine wpAnyH_ready (rs := [7]) (by kernel_rfl) (by simp) (AllReadyH.cons rfl (fun K hK => ?_) AllReadyH.nil)
            simp only [List.getElem_toArray, List.getElem_cons_succ, List.getElem_cons_zero]
            go_simp
            go_at_call 10; refine (H2.out.1 a c b d a' c' b' d' _ ((HF.out.later (B6.out.trans (hHeld.2.2.2.2.2.2.2.2.2.2.mono B6.out.size))).wide (B6.out.trans (hHeld.2.2.2.2.2.2.2.2.2.2.mono B6.out.size)).size) ((HG.out.later (B6.out.trans (hHeld.2.2.2.2.2.2.2.2.2.2.mono B6.out.size))).wide (B6.out.trans (hHeld.2.2.2.2.2.2.2.2.2.2.mono B6.out.size)).size)).mono ?_; rintro e wq ⟨rfl, hb1⟩
            try go_wp2_with fail
            refine hK.out _ _ (HS.out _ (hHeld.2.2.2.2.2.2.2.2.2.2.trans (hb1.mono hHeld.2.2.2.2.2.2.2.2.2.2.size))) (fun hHeld1 => ?_)
            clear hK K hHeld
            have hHeld := hHeld1; clear hHeld1
            try simp only [List.getElem_toArray, List.getElem_cons_succ, List.getElem_cons_zero, Act.put, List.setIfInBounds_toArray, List.set_cons_zero, List.set_cons_succ]
            refine wpAnyH_ready (rs := [10]) (by kernel_rfl) (by simp) (AllReadyH.cons rfl (fun K hK => ?_) AllReadyH.nil)
            simp only [List.getElem_toArray, List.getElem_cons_succ, List.getElem_cons_zero]
            go_simp
            go_at_call 11; refine (H2.out.2 a c b d a' c' b' d' _ ((HF.out.later (B6.out.trans (hHeld.2.2.2.2.2.2.2.2.2.2.mono B6.out.size))).wide (B6.out.trans (hHeld.2.2.2.2.2.2.2.2.2.2.mono B6.out.size)).size) ((HG.out.later (B6.out.trans (hHeld.2.2.2.2.2.2.2.2.2.2.mono B6.out.size))).wide (B6.out.trans (hHeld.2.2.2.2.2.2.2.2.2.2.mono B6.out.size)).size)).mono ?_; rintro e wq ⟨rfl, hb1⟩
            try go_wp2_with fail
            refine hK.out _ _ (HS.out _ (hHeld.2.2.2.2.2.2.2.2.2.2.trans (hb1.mono hHeld.2.2.2.2.2.2.2.2.2.2.size))) (fun hHeld1 => ?_)
            clear hK K hHeld
            have hHeld := hHeld1; clear hHeld1
            try simp only [List.getElem_toArray, List.getElem_cons_succ, List.getElem_cons_zero, Act.put, List.setIfInBounds_toArray, List.set_cons_zero, List.set_cons_succ]
            refine wpAnyH_take (i := 11) (v := ?vC11) rfl (by kernel_rfl) (by kernel_rfl) (by kernel_rfl) (fun _ _ _ h => h) (Or.inl ⟨by rfl, ?yC11⟩) hHeld ?rC11
            case yC11 => (intro W hSw; simp only [List.getElem_toArray, List.getElem_cons_succ, List.getElem_cons_zero]; go_simp; try (with_reducible rfl))
            simp only [List.getElem_toArray, List.getElem_cons_succ, List.getElem_cons_zero, Act.put, List.setIfInBounds_toArray, List.set_cons_zero, List.set_cons_succ]
            refine wpAnyH_take (i := 12) (v := ?vC12) rfl (by kernel_rfl) (by kernel_rfl) (by kernel_rfl) (fun _ _ _ h => h) (Or.inl ⟨by rfl, ?yC12⟩) hHeld ?rC12
            case yC12 => (intro W hSw; simp only [List.getElem_toArray, List.getElem_cons_succ, List.getElem_cons_zero]; go_simp; try (with_reducible rfl))
            simp only [List.getElem_toArray, List.getElem_cons_succ, List.getElem_cons_zero, Act.put, List.setIfInBounds_toArray, List.set_cons_zero, List.set_cons_succ]
            refine wpAnyH_take (i := 13) (v := ?vC13) rfl (by kernel_rfl) (by kernel_rfl) (by kernel_rfl) (fun _ _ _ h => h) (Or.inl ⟨by rfl, ?yC13⟩) hHeld ?rC13
            case yC13 => (intro W hSw; simp only [List.getElem_toArray, List.getElem_cons_succ, List.getElem_cons_zero]; go_simp; try (with_reducible rfl))
            simp only [List.getElem_toArray, List.getElem_cons_succ, List.getElem_cons_zero, Act.put, List.setIfInBounds_toArray, List.set_cons_zero, List.set_cons_succ]
            refine wpAnyH_take (i := 14) (v := ?vC14) rfl (by kernel_rfl) (by kernel_rfl) (by kernel_rfl) (fun _ _ _ h => h) (Or.inl ⟨by rfl, ?yC14⟩) hHeld ?rC14
            case yC14 => (intro W hSw; simp only [List.getElem_toArray, List.getElem_cons_succ, List.getElem_cons_zero]; go_simp; try (with_reducible rfl))
            simp only [List.getElem_toArray, List.getElem_cons_succ, List.getElem_cons_zero, Act.put, List.setIfInBounds_toArray, List.set_cons_zero, List.set_cons_succ]
            refine wpAnyH_take (i := 15) (v := ?vC15) rfl (by kernel_rfl) (by kernel_rfl) (by kernel_rfl) (fun _ _ _ h => h) (Or.inl ⟨by rfl, ?yC15⟩) hHeld ?rC15
            case yC15 => (intro W hSw; simp only [List.getElem_toArray, List.getElem_cons_succ, List.getElem_cons_zero]; go_simp; try (with_reducible rfl))
            simp only [List.getElem_toArray, List.getElem_cons_succ, List.getElem_cons_zero, Act.put, List.setIfInBounds_toArray, List.set_cons_zero, List.set_cons_succ]
            refine wpAnyH_ready (rs := [16]) (by kernel_rfl) (by simp) (AllReadyH.cons rfl (fun K hK => ?_) AllReadyH.nil)
            simp only [List.getElem_toArray, List.getElem_cons_succ, List.getElem_cons_zero]
            go_simp
            go_at_call 10; refine (HL.out.2.2.2.2.2.2 a c b d a c b d _ ((HF.out.later (B6.out.trans (hHeld.2.2.2.2.2.2.2.2.2.2.mono B6.out.size))).wide (B6.out.trans (hHeld.2.2.2.2.2.2.2.2.2.2.mono B6.out.size)).size) ((HF.out.later (B6.out.trans (hHeld.2.2.2.2.2.2.2.2.2.2.mono B6.out.size))).wide (B6.out.trans (hHeld.2.2.2.2.2.2.2.2.2.2.mono B6.out.size)).size)).mono ?_; rintro e wq ⟨rfl, hb1⟩
            try go_wp2_with fail
            refine hK.out _ _ (HS.out _ (hHeld.2.2.2.2.2.2.2.2.2.2.trans (hb1.mono hHeld.2.2.2.2.2.2.2.2.2.2.size))) (fun hHeld1 => ?_)
            clear hK K hHeld
            have hHeld := hHeld1; clear hHeld1
            try simp only [List.getElem_toArray, List.getElem_cons_succ, List.getElem_cons_zero, Act.put, List.setIfInBounds_toArray, List.set_cons_zero, List.set_cons_succ]
            refine wpAnyH_take (i := 17) (v := ?vC17) rfl (by kernel_rfl) (by kernel_rfl) (by kernel_rfl) (fun _ _ _ h => h) (Or.inl ⟨by rfl, ?yC17⟩) hHeld ?rC17
            case yC17 => (intro W hSw; simp only [List.getElem_toArray, List.getElem_cons_succ, List.getElem_cons_zero]; go_simp; try (with_reducible rfl))
            simp only [List.getElem_toArray, List.getElem_cons_succ, List.getElem_cons_zero, Act.put, List.setIfInBounds_toArray, List.set_cons_zero, List.set_cons_succ]
            refine wpAnyH_take (i := 18) (v := ?vC18) rfl (by kernel_rfl) (by kernel_rfl) (by kernel_rfl) (fun _ _ _ h => h) (Or.inl ⟨by rfl, ?yC18⟩) hHeld ?rC18
            case yC18 => (intro W hSw; simp only [List.getElem_toArray, List.getElem_cons_succ, List.getElem_cons_zero]; go_simp; try (with_reducible rfl))
            simp only [List.getElem_toArray, List.getElem_cons_succ, List.getElem_cons_zero, Act.put, List.setIfInBounds_toArray, List.set_cons_zero, List.set_cons_succ]
            refine wpAnyH_done (by kernel_rfl) ?_ _
            have B7 := Lib.hid (B6.out.trans (hHeld.2.2.2.2.2.2.2.2.2.2.mono B6.out.size))
            obtain ⟨x0, x1, x2, x3, x4, -⟩ := hHeld
            have xl : w.heap.size < _ := World.block_lt_of_cell? _ ⟨w.heap.size, 0, none⟩ x0
            go_wp2_with fail
            refine Calls.mono (HL.out.2.2.2.2.2.1 a c b d _ (HT.out.later B7.out) ((HF.out.later B7.out).wide B7.out.size) trivial) ?_
            rintro e w8 ⟨rfl, hb⟩
            have B8 := Lib.hid (B7.out.trans (hb.mono B7.out.size))
            clear hb
            go_wp2_with fail
            go_ret
            exact ⟨rfl, B8.out⟩
          · go_wp2_with fail
            refine wp_region_held_drew (S := (fun W => W.cell? ⟨w.heap.size, 0, none⟩ = some (.int .i64 k) ∧ W.cell? ⟨w.heap.size, 1, none⟩ = some (.string sn) ∧ W.cell? ⟨w.heap.size, 2, none⟩ = some (.string so) ∧ W.cell? ⟨w.heap.size, 3, none⟩ = some (.slice a n1 c) ∧ W.cell? ⟨w.heap.size, 4, none⟩ = some (.slice b n2 d) ∧ W.cell? ⟨w.heap.size + 1, 0, none⟩ = some (.int .i64 k') ∧ W.cell? ⟨w.heap.size + 1, 1, none⟩ = some (.string sn') ∧ W.cell? ⟨w.heap.size + 1, 2, none⟩ = some (.string so') ∧ W.cell? ⟨w.heap.size + 1, 3, none⟩ = some (.slice a' n1' c') ∧ W.cell? ⟨w.heap.size + 1, 4, none⟩ = some (.slice b' n2' d') ∧ Below w6.heap.size w6 W)) (by kernel_rfl) (HS.out _ (Below.refl _ _).drew) (fun hHeld => ?_)
            refine wpAnyH_take (i := 0) (v := ?vD0) rfl (by kernel_rfl) (by kernel_rfl) (by kernel_rfl) (fun _ _ _ h => h) (Or.inl ⟨by rfl, ?yD0⟩) hHeld ?rD0
            case yD0 => (intro W hSw; simp only [List.getElem_toArray, List.getElem_cons_zero]; go_simp; try (with_reducible rfl))
            simp only [List.getElem_toArray, List.getElem_cons_zero, Act.put, List.setIfInBounds_toArray, List.set_cons_zero, List.set_cons_succ]
            refine wpAnyH_take (i := 2) (v := ?vD2) rfl (by kernel_rfl) (by kernel_rfl) (by kernel_rfl) (fun _ _ _ h => h) (Or.inl ⟨by rfl, ?yD2⟩) hHeld ?rD2
            case yD2 => (intro W hSw; simp only [List.getElem_toArray, List.getElem_cons_succ, List.getElem_cons_zero]; go_simp; try (with_reducible rfl))
            simp only [List.getElem_toArray, List.getElem_cons_succ, List.getElem_cons_zero, Act.put, List.setIfInBounds_toArray, List.set_cons_zero, List.set_cons_succ]
            refine wpAnyH_ready (rs := [1]) (by kernel_rfl) (by simp) (AllReadyH.cons rfl (fun K hK => ?_) AllReadyH.nil)
            simp only [List.getElem_toArray, List.getElem_cons_succ, List.getElem_cons_zero]
            go_simp
            go_at_call 9; refine (HL.out.2.2.2.2.1 a c b d _ (HE.out.later (B6.out.trans (hHeld.2.2.2.2.2.2.2.2.2.2.mono B6.out.size))) ((HF.out.later (B6.out.trans (hHeld.2.2.2.2.2.2.2.2.2.2.mono B6.out.size))).wide (B6.out.trans (hHeld.2.2.2.2.2.2.2.2.2.2.mono B6.out.size)).size)).mono ?_; rintro e wq ⟨rfl, hb1⟩
            try go_wp2_with fail
            refine hK.out _ _ (HS.out _ (hHeld.2.2.2.2.2.2.2.2.2.2.trans (hb1.mono hHeld.2.2.2.2.2.2.2.2.2.2.size))) (fun hHeld1 => ?_)
            clear hK K hHeld
            have hHeld := hHeld1; clear hHeld1
            try simp only [List.getElem_toArray, List.getElem_cons_succ, List.getElem_cons_zero, Act.put, List.setIfInBounds_toArray, List.set_cons_zero, List.set_cons_succ]
            refine wpAnyH_take (i := 3) (v := ?vD3) rfl (by kernel_rfl) (by kernel_rfl) (by kernel_rfl) (fun _ _ _ h => h) (Or.inl ⟨by rfl, ?yD3⟩) hHeld ?rD3
            case yD3 => (intro W hSw; simp only [List.getElem_toArray, List.getElem_cons_succ, List.getElem_cons_zero]; go_simp; try (with_reducible rfl))
            simp only [List.getElem_toArray, List.getElem_cons_succ, List.getElem_cons_zero, Act.put, List.setIfInBounds_toArray, List.set_cons_zero, List.set_cons_succ]
            refine wpAnyH_take (i := 4) (v := ?vD4) rfl (by kernel_rfl) (by kernel_rfl) (by kernel_rfl) (fun _ _ _ h => h) (Or.inl ⟨by rfl, ?yD4⟩) hHeld ?rD4
            case yD4 => (intro W hSw; simp only [List.getElem_toArray, List.getElem_cons_succ, List.getElem_cons_zero]; go_simp; try (with_reducible rfl))
            simp only [List.getElem_toArray, List.getElem_cons_succ, List.getElem_cons_zero, Act.put, List.setIfInBounds_toArray, List.set_cons_zero, List.set_cons_succ]
            refine wpAnyH_take (i := 5) (v := ?vD5) rfl (by kernel_rfl) (by kernel_rfl) (by kernel_rfl) (fun _ _ _ h => h) (Or.inl ⟨by rfl, ?yD5⟩) hHeld ?rD5
            case yD5 => (intro W hSw; simp only [List.getElem_toArray, List.getElem_cons_succ, List.getElem_cons_zero]; go_simp; try (with_reducible rfl))
            simp only [List.getElem_toArray, List.getElem_cons_succ, List.getElem_cons_zero, Act.put, List.setIfInBounds_toArray, List.set_cons_zero, List.set_cons_succ]
            refine wpAnyH_take (i := 6) (v := ?vD6) rfl (by kernel_rfl) (by kernel_rfl) (by kernel_rfl) (fun _ _ _ h => h) (Or.inl ⟨by rfl, ?yD6⟩) hHeld ?rD6
            case yD6 => (intro W hSw; simp only [List.getElem_toArray, List.getElem_cons_succ, List.getElem_cons_zero]; go_simp; try (with_reducible rfl))
            simp only [List.getElem_toArray, List.getElem_cons_succ, List.getElem_cons_zero, Act.put, List.setIfInBounds_toArray, List.set_cons_zero, List.set_cons_succ]
            refine wpAnyH_take (i := 8) (v := ?vD8) rfl (by kernel_rfl) (by kernel_rfl) (by kernel_rfl) (fun _ _ _ h => h) (Or.inl ⟨by rfl, ?yD8⟩) hHeld ?rD8
            case yD8 => (intro W hSw; simp only [List.getElem_toArray, List.getElem_cons_succ, List.getElem_cons_zero]; go_simp; try (with_reducible rfl))
            simp only [List.getElem_toArray, List.getElem_cons_succ, List.getElem_cons_zero, Act.put, List.setIfInBounds_toArray, List.set_cons_zero, List.set_cons_succ]
            refine wpAnyH_take (i := 9) (v := ?vD9) rfl (by kernel_rfl) (by kernel_rfl) (by kernel_rfl) (fun _ _ _ h => h) (Or.inl ⟨by rfl, ?yD9⟩) hHeld ?rD9
            case yD9 => (intro W hSw; simp only [List.getElem_toArray, List.getElem_cons_succ, List.getElem_cons_zero]; go_simp; try (with_reducible rfl))
            simp only [List.getElem_toArray, List.getElem_cons_succ, List.getElem_cons_zero, Act.put, List.setIfInBounds_toArray, List.set_cons_zero, List.set_cons_succ]
            refine wpAnyH_ready (rs := [7]) (by kernel_rfl) (by simp) (AllReadyH.cons rfl (fun K hK => ?_) AllReadyH.nil)
            simp only [List.getElem_toArray, List.getElem_cons_succ, List.getElem_cons_zero]
            go_simp
            go_at_call 10; refine (H2.out.1 a c b d a' c' b' d' _ ((HF.out.later (B6.out.trans (hHeld.2.2.2.2.2.2.2.2.2.2.mono B6.out.size))).wide (B6.out.trans (hHeld.2.2.2.2.2.2.2.2.2.2.mono B6.out.size)).size) ((HG.out.later (B6.out.trans (hHeld.2.2.2.2.2.2.2.2.2.2.mono B6.out.size))).wide (B6.out.trans (hHeld.2.2.2.2.2.2.2.2.2.2.mono B6.out.size)).size)).mono ?_; rintro e wq ⟨rfl, hb1⟩
            try go_wp2_with fail
            refine hK.out _ _ (HS.out _ (hHeld.2.2.2.2.2.2.2.2.2.2.trans (hb1.mono hHeld.2.2.2.2.2.2.2.2.2.2.size))) (fun hHeld1 => ?_)
            clear hK K hHeld
            have hHeld := hHeld1; clear hHeld1
            try simp only [List.getElem_toArray, List.getElem_cons_succ, List.getElem_cons_zero, Act.put, List.setIfInBounds_toArray, List.set_cons_zero, List.set_cons_succ]
            refine wpAnyH_ready (rs := [10]) (by kernel_rfl) (by simp) (AllReadyH.cons rfl (fun K hK => ?_) AllReadyH.nil)
            simp only [List.getElem_toArray, List.getElem_cons_succ, List.getElem_cons_zero]
            go_simp
            go_at_call 11; refine (H2.out.2 a c b d a' c' b' d' _ ((HF.out.later (B6.out.trans (hHeld.2.2.2.2.2.2.2.2.2.2.mono B6.out.size))).wide (B6.out.trans (hHeld.2.2.2.2.2.2.2.2.2.2.mono B6.out.size)).size) ((HG.out.later (B6.out.trans (hHeld.2.2.2.2.2.2.2.2.2.2.mono B6.out.size))).wide (B6.out.trans (hHeld.2.2.2.2.2.2.2.2.2.2.mono B6.out.size)).size)).mono ?_; rintro e wq ⟨rfl, hb1⟩
            try go_wp2_with fail
            refine hK.out _ _ (HS.out _ (hHeld.2.2.2.2.2.2.2.2.2.2.trans (hb1.mono hHeld.2.2.2.2.2.2.2.2.2.2.size))) (fun hHeld1 => ?_)
            clear hK K hHeld
            have hHeld := hHeld1; clear hHeld1
            try simp only [List.getElem_toArray, List.getElem_cons_succ, List.getElem_cons_zero, Act.put, List.setIfInBounds_toArray, List.set_cons_zero, List.set_cons_succ]
            refine wpAnyH_take (i := 11) (v := ?vD11) rfl (by kernel_rfl) (by kernel_rfl) (by kernel_rfl) (fun _ _ _ h => h) (Or.inl ⟨by rfl, ?yD11⟩) hHeld ?rD11
            case yD11 => (intro W hSw; simp only [List.getElem_toArray, List.getElem_cons_succ, List.getElem_cons_zero]; go_simp; try (with_reducible rfl))
            simp only [List.getElem_toArray, List.getElem_cons_succ, List.getElem_cons_zero, Act.put, List.setIfInBounds_toArray, List.set_cons_zero, List.set_cons_succ]
            refine wpAnyH_take (i := 12) (v := ?vD12) rfl (by kernel_rfl) (by kernel_rfl) (by kernel_rfl) (fun _ _ _ h => h) (Or.inl ⟨by rfl, ?yD12⟩) hHeld ?rD12
            case yD12 => (intro W hSw; simp only [List.getElem_toArray, List.getElem_cons_succ, List.getElem_cons_zero]; go_simp; try (with_reducible rfl))
            simp only [List.getElem_toArray, List.getElem_cons_succ, List.getElem_cons_zero, Act.put, List.setIfInBounds_toArray, List.set_cons_zero, List.set_cons_succ]
            refine wpAnyH_take (i := 13) (v := ?vD13) rfl (by kernel_rfl) (by kernel_rfl) (by kernel_rfl) (fun _ _ _ h => h) (Or.inl ⟨by rfl, ?yD13⟩) hHeld ?rD13
            case yD13 => (intro W hSw; simp only [List.getElem_toArray, List.getElem_cons_succ, List.getElem_cons_zero]; go_simp; try (with_reducible rfl))
            simp only [List.getElem_toArray, List.getElem_cons_succ, List.getElem_cons_zero, Act.put, List.setIfInBounds_toArray, List.set_cons_zero, List.set_cons_succ]
            refine wpAnyH_take (i := 14) (v := ?vD14) rfl (by kernel_rfl) (by kernel_rfl) (by kernel_rfl) (fun _ _ _ h => h) (Or.inl ⟨by rfl, ?yD14⟩) hHeld ?rD14
            case yD14 => (intro W hSw; simp only [List.getElem_toArray, List.getElem_cons_succ, List.getElem_cons_zero]; go_simp; try (with_reducible rfl))
            simp only [List.getElem_toArray, List.getElem_cons_succ, List.getElem_cons_zero, Act.put, List.setIfInBounds_toArray, List.set_cons_zero, List.set_cons_succ]
            refine wpAnyH_take (i := 15) (v := ?vD15) rfl (by kernel_rfl) (by kernel_rfl) (by kernel_rfl) (fun _ _ _ h => h) (Or.inl ⟨by rfl, ?yD15⟩) hHeld ?rD15
            case yD15 => (intro W hSw; simp only [List.getElem_toArray, List.getElem_cons_succ, List.getElem_cons_zero]; go_simp; try (with_reducible rfl))
            simp only [List.getElem_toArray, List.getElem_cons_succ, List.getElem_cons_zero, Act.put, List.setIfInBounds_toArray, List.set_cons_zero, List.set_cons_succ]
            refine wpAnyH_ready (rs := [16]) (by kernel_rfl) (by simp) (AllReadyH.cons rfl (fun K hK => ?_) AllReadyH.nil)
            simp only [List.getElem_toArray, List.getElem_cons_succ, List.getElem_cons_zero]
            go_simp
            go_at_call 10; refine (HL.out.2.2.2.2.2.2 a c b d a c b d _ ((HF.out.later (B6.out.trans (hHeld.2.2.2.2.2.2.2.2.2.2.mono B6.out.size))).wide (B6.out.trans (hHeld.2.2.2.2.2.2.2.2.2.2.mono B6.out.size)).size) ((HF.out.later (B6.out.trans (hHeld.2.2.2.2.2.2.2.2.2.2.mono B6.out.size))).wide (B6.out.trans (hHeld.2.2.2.2.2.2.2.2.2.2.mono B6.out.size)).size)).mono ?_; rintro e wq ⟨rfl, hb1⟩
            try go_wp2_with fail
            refine hK.out _ _ (HS.out _ (hHeld.2.2.2.2.2.2.2.2.2.2.trans (hb1.mono hHeld.2.2.2.2.2.2.2.2.2.2.size))) (fun hHeld1 => ?_)
            clear hK K hHeld
            have hHeld := hHeld1; clear hHeld1
            try simp only [List.getElem_toArray, List.getElem_cons_succ, List.getElem_cons_zero, Act.put, List.setIfInBounds_toArray, List.set_cons_zero, List.set_cons_succ]
            refine wpAnyH_take (i := 17) (v := ?vD17) rfl (by kernel_rfl) (by kernel_rfl) (by kernel_rfl) (fun _ _ _ h => h) (Or.inl ⟨by rfl, ?yD17⟩) hHeld ?rD17
            case yD17 => (intro W hSw; simp only [List.getElem_toArray, List.getElem_cons_succ, List.getElem_cons_zero]; go_simp; try (with_reducible rfl))
            simp only [List.getElem_toArray, List.getElem_cons_succ, List.getElem_cons_zero, Act.put, List.setIfInBounds_toArray, List.set_cons_zero, List.set_cons_succ]
            refine wpAnyH_take (i := 18) (v := ?vD18) rfl (by kernel_rfl) (by kernel_rfl) (by kernel_rfl) (fun _ _ _ h => h) (Or.inl ⟨by rfl, ?yD18⟩) hHeld ?rD18
            case yD18 => (intro W hSw; simp only [List.getElem_toArray, List.getElem_cons_succ, List.getElem_cons_zero]; go_simp; try (with_reducible rfl))
            simp only [List.getElem_toArray, List.getElem_cons_succ, List.getElem_cons_zero, Act.put, List.setIfInBounds_toArray, List.set_cons_zero, List.set_cons_succ]
            refine wpAnyH_done (by kernel_rfl) ?_ _
            have B7 := Lib.hid (B6.out.trans (hHeld.2.2.2.2.2.2.2.2.2.2.mono B6.out.size))
            obtain ⟨x0, x1, x2, x3, x4, -⟩ := hHeld
            have xl : w.heap.size < _ := World.block_lt_of_cell? _ ⟨w.heap.size, 0, none⟩ x0
            go_wp2_with fail
            refine Calls.mono (HL.out.2.2.2.2.2.1 a c b d _ (HT.out.later B7.out) ((HF.out.later B7.out).wide B7.out.size) trivial) ?_
            rintro e w8 ⟨rfl, hb⟩
            have B8 := Lib.hid (B7.out.trans (hb.mono B7.out.size))
            clear hb
            go_wp2_with fail
            go_ret
            exact ⟨rfl, B8.out⟩
end Go.Proofs.YtjffnjiggcfhcaaGreatDoor.Fl
