/-
  Contracts of Same of package filter, of slices.Equal and slices.EqualFunc as it calls them: are two filters the same? To any depth. Memory that was there is left as it was.
-/
import Derived.Test.YtjffnjiggcfhcaaGreatDoorMt08
import Derived.Maps.AppendAt
import Derived.BigQuiet
/-
  Contracts of isBare, isLeaf, isWhole of package filter: has a filter all that its kind asks for, and nothing else, but for its parts' own fields? Memory that was there is left as it was.
-/
namespace Go.Proofs.YtjffnjiggcfhcaaGreatDoor.Fl
open Go.RowKit Go.Proofs.YtjffnjiggcfhcaaGreatDoor.Tk
set_option linter.unusedVariables false
set_option linter.unusedSimpArgs false

section
variable {w W w1 : World} {N g : Nat} {x0 x1 x2 x3 x4 : Value}
/-- A new block of five cells. -/
theorem k5_new (w : World) (x0 x1 x2 x3 x4 : Value) (t : TypeId) :
    (w.alloc (.cells #[x0, x1, x2, x3, x4] t)).cell? ⟨w.heap.size, 0, none⟩ = some x0 ∧ (w.alloc (.cells #[x0, x1, x2, x3, x4] t)).cell? ⟨w.heap.size, 1, none⟩ = some x1 ∧ (w.alloc (.cells #[x0, x1, x2, x3, x4] t)).cell? ⟨w.heap.size, 2, none⟩ = some x2 ∧ (w.alloc (.cells #[x0, x1, x2, x3, x4] t)).cell? ⟨w.heap.size, 3, none⟩ = some x3 ∧ (w.alloc (.cells #[x0, x1, x2, x3, x4] t)).cell? ⟨w.heap.size, 4, none⟩ = some x4 ∧ w.heap.size ≤ (w.alloc (.cells #[x0, x1, x2, x3, x4] t)).heap.size ∧ Below w.heap.size w (w.alloc (.cells #[x0, x1, x2, x3, x4] t)) := by
  refine ⟨?_, ?_, ?_, ?_, ?_, ?_, (Below.refl _ _).alloc (Nat.le_refl _) _⟩ <;> simp [go_sem]
theorem k5_keep (hb : Below W.heap.size W w1) (h : W.cell? ⟨g, 0, none⟩ = some x0 ∧ W.cell? ⟨g, 1, none⟩ = some x1 ∧ W.cell? ⟨g, 2, none⟩ = some x2 ∧ W.cell? ⟨g, 3, none⟩ = some x3 ∧ W.cell? ⟨g, 4, none⟩ = some x4 ∧ N ≤ W.heap.size ∧ Below N w W) :
    w1.cell? ⟨g, 0, none⟩ = some x0 ∧ w1.cell? ⟨g, 1, none⟩ = some x1 ∧ w1.cell? ⟨g, 2, none⟩ = some x2 ∧ w1.cell? ⟨g, 3, none⟩ = some x3 ∧ w1.cell? ⟨g, 4, none⟩ = some x4 ∧ N ≤ w1.heap.size ∧ Below N w w1 :=
  Kp.one hb (Kp.two hb (Kp.two hb (Kp.ends hb))) h
theorem k5_end (h : W.cell? ⟨g, 0, none⟩ = some x0 ∧ W.cell? ⟨g, 1, none⟩ = some x1 ∧ W.cell? ⟨g, 2, none⟩ = some x2 ∧ W.cell? ⟨g, 3, none⟩ = some x3 ∧ W.cell? ⟨g, 4, none⟩ = some x4 ∧ N ≤ W.heap.size ∧ Below N w W) : Below N w W := h.2.2.2.2.2.2
theorem AttsAt.fit {a : Option Addr} {vs : List Att} (h : AttsAt w (Old w.heap.size) a vs) (hB : Below w.heap.size w W) : AttsAt W (Old W.heap.size) a vs := h.far fun i hi => ⟨Nat.lt_of_lt_of_le hi hB.size, hB.block i hi⟩
theorem FltAt.fit {f : Flt} {a b : Option Addr} (h : FltAt w (Old w.heap.size) f a b) (hB : Below w.heap.size w W) : FltAt W (Old W.heap.size) f a b := (h.later hB).wide hB.size
theorem PartsAt.fit {j : Nat} {ps : List Flt} {b : Option Addr} (h : PartsAt w (Old w.heap.size) b j ps) (hB : Below w.heap.size w W) : PartsAt W (Old W.heap.size) b j ps := PartsAt.far (fun i hi => ⟨Nat.lt_of_lt_of_le hi hB.size, hB.block i hi⟩) ps h
theorem laid_fit (h : LaidE w) (hB : Below w.heap.size w W) : LaidE W := h.later hB
end

def bareB (n o : List UInt8) (vs : List Att) : Bool := n == [] && o == [] && decide (vs.length = 0)
def leafQ (n : List UInt8) (vs : List Att) (lp : Nat) : Bool := decide (lp = 0) && nameB n && decide (vs.length ≤ 20) && vs.all valB
def firstText : List Att → Bool
  | [] => false
  | v :: _ => v.text
def wholeB (k : Int) (n o : List UInt8) (vs : List Att) (lp : Nat) : Bool :=
  if k = 1 ∨ k = 2 then bareB n o vs && decide (2 ≤ lp)
  else if k = 3 then bareB n o vs && decide (lp = 1)
  else if k = 7 then bareB n o vs && decide (lp = 0)
  else if k = 4 then leafQ n vs lp && opB o && decide (vs.length = 1)
  else if k = 5 then leafQ n vs lp && o == [] && decide (vs.length = 1) && firstText vs
  else if k = 6 then leafQ n vs lp && o == [] && decide (0 < vs.length) && sortB vs
  else false
theorem nat_dec {n : Nat} {m : Nat} : decide ((n : Int) = (m : Nat)) = decide (n = m) := decide_eq_decide.2 (by omega)

theorem isBare_any (k : Int) (sn so : ByteArray) (vs : List Att) (a : Option Addr) (c : Nat) (lp : Nat) (b : Option Addr) (d : Nat) (w : World) : Calls Tryz.prog 49 #[.agg #[.int .i64 k, .string sn, .string so, .slice a vs.length c, .slice b lp d]] w fun e w' => e = .returned (.bool (bareB sn.data.toList so.data.toList vs)) ∧ Below w.heap.size w w' := by
  have HV := Lib.hid (show bareB sn.data.toList so.data.toList vs = (sn.toList == [] && so.toList == [] && decide (vs.length = 0)) by rw [← Lib.toList_data, ← Lib.toList_data]; rfl)
  obtain ⟨n, hn⟩ : ∃ n, n = vs.length := ⟨_, rfl⟩
  obtain ⟨res, hres⟩ : ∃ r, bareB sn.data.toList so.data.toList vs = r := ⟨_, rfl⟩
  rw [hres] at HV ⊢
  rw [← hn] at HV ⊢
  clear hres hn
  go_enter Tryz.func49, Tryz.ntmps49
  go_wp2
  all_goals (go_ret; exact ⟨by rw [HV.out]; clear HV; by_cases h0 : n = 0 <;> simp_all, (Below.refl _ _).alloc (Nat.le_refl _) _⟩)

set_option maxHeartbeats 1000000 in
set_option maxRecDepth 100000 in
theorem isLeaf_any (k : Int) (sn so : ByteArray) (vs : List Att) (a : Option Addr) (c : Nat) (lp : Nat) (b : Option Addr) (d : Nat) (w : World) (hE : LaidE w) (hA : AttsAt w (Old w.heap.size) a vs) : Calls Tryz.prog 50 #[.agg #[.int .i64 k, .string sn, .string so, .slice a vs.length c, .slice b lp d]] w fun e w' => e = .returned (.bool (leafQ sn.data.toList vs lp)) ∧ Below w.heap.size w w' := by
  have K := k5_new w (.int .i64 k) (.string sn) (.string so) (.slice a vs.length c) (.slice b lp d) 25
  have HE := Lib.hid hE
  have HA := Lib.hid hA
  have CN := Lib.hid (fun W (hW : LaidE W) => isName_any sn W hW)
  have CC := Lib.hid (fun W (hW : AttsAt W (Old W.heap.size) a vs) => contains_any vs a c W hW)
  obtain ⟨nm, hnm⟩ : ∃ r, nameB sn.data.toList = r := ⟨_, rfl⟩
  obtain ⟨al, hal⟩ : ∃ r, vs.all valB = r := ⟨_, rfl⟩
  have HV := Lib.hid (show leafQ sn.data.toList vs lp = (decide (lp = 0) && nm && decide (vs.length ≤ 20) && al) by rw [← hnm, ← hal]; rfl)
  obtain ⟨res, hres⟩ : ∃ r, leafQ sn.data.toList vs lp = r := ⟨_, rfl⟩
  rw [hnm] at CN
  rw [hal] at CC
  obtain ⟨n, hn⟩ : ∃ n, n = vs.length := ⟨_, rfl⟩
  rw [hres] at HV ⊢
  rw [← hn] at HV CC K ⊢
  clear hres hnm hal hn hE hA
  by_cases h0 : lp = 0
  · subst h0
    cases nm
    · have HF := Lib.hid (show res = false by rw [HV.out]; simp)
      go_enter Tryz.func50, Tryz.ntmps50
      go_wp2_with (go_at_call 72; refine Calls.mono (CN.out _ (laid_fit HE.out (k5_end (by assumption)))) ?_; rintro e w1 ⟨rfl, hb1⟩; have K1 := k5_keep hb1 (by assumption); clear hb1)
      go_ret
      exact ⟨by rw [HF.out]; rfl, k5_end (by assumption)⟩
    · by_cases h20 : n ≤ 20
      · have h20z : (n : Int) ≤ 20 := by omega
        have HF := Lib.hid (show res = al by rw [HV.out, decide_eq_true h20]; simp)
        go_enter Tryz.func50, Tryz.ntmps50
        go_wp2_with (first | (go_at_call 72; refine Calls.mono (CN.out _ (laid_fit HE.out (k5_end (by assumption)))) ?_; rintro e w1 ⟨rfl, hb1⟩; have K1 := k5_keep hb1 (by assumption); clear hb1) | (go_at_call 73; refine Calls.mono (CC.out _ (HA.out.fit (k5_end (by assumption)))) ?_; rintro e w2 ⟨rfl, hb1⟩; have K2 := k5_keep hb1 (by assumption); clear hb1))
        go_ret
        exact ⟨by rw [HF.out]; first | rfl | simp, k5_end (by assumption)⟩
      · have h20z : ¬ (n : Int) ≤ 20 := by omega
        have HF := Lib.hid (show res = false by rw [HV.out, decide_eq_false h20]; simp)
        go_enter Tryz.func50, Tryz.ntmps50
        go_wp2_with (go_at_call 72; refine Calls.mono (CN.out _ (laid_fit HE.out (k5_end (by assumption)))) ?_; rintro e w1 ⟨rfl, hb1⟩; have K1 := k5_keep hb1 (by assumption); clear hb1)
        go_ret
        exact ⟨by rw [HF.out]; rfl, k5_end (by assumption)⟩
  · have h0z : ¬ (lp : Int) = 0 := by omega
    have HF := Lib.hid (show res = false by rw [HV.out, decide_eq_false h0]; rfl)
    go_enter Tryz.func50, Tryz.ntmps50
    go_wp2_with fail
    go_ret
    exact ⟨by rw [HF.out]; rfl, k5_end (by assumption)⟩

set_option maxHeartbeats 1000000 in
theorem whole1 (sn so : ByteArray) (vs : List Att) (a : Option Addr) (c : Nat) (lp : Nat) (b : Option Addr) (d : Nat) (w : World) (hE : LaidE w) (hA : AttsAt w (Old w.heap.size) a vs) : Calls Tryz.prog 34 #[.agg #[.int .i64 1, .string sn, .string so, .slice a vs.length c, .slice b lp d]] w fun e w' => e = .returned (.bool (wholeB 1 sn.data.toList so.data.toList vs lp)) ∧ Below w.heap.size w w' := by
  have K := k5_new w (.int .i64 1) (.string sn) (.string so) (.slice a vs.length c) (.slice b lp d) 25
  have HE := Lib.hid hE
  have HA := Lib.hid hA
  have CB := Lib.hid (fun W => isBare_any 1 sn so vs a c lp b d W)
  obtain ⟨ba, hba⟩ : ∃ r, bareB sn.data.toList so.data.toList vs = r := ⟨_, rfl⟩
  have HV := Lib.hid (show wholeB 1 sn.data.toList so.data.toList vs lp = (ba && decide (2 ≤ lp)) by rw [← hba]; rfl)
  obtain ⟨res, hres⟩ : ∃ r, wholeB 1 sn.data.toList so.data.toList vs lp = r := ⟨_, rfl⟩
  rw [hba] at CB
  obtain ⟨n, hn⟩ : ∃ n, n = vs.length := ⟨_, rfl⟩
  rw [hres] at HV ⊢
  rw [← hn] at CB K ⊢
  clear hres hba hE hA hn
  cases ba
  · go_enter Tryz.func34, Tryz.ntmps34
    go_wp2_with (go_at_call 49; refine Calls.mono (CB.out _) ?_; rintro e w1 ⟨rfl, hb1⟩; have K1 := k5_keep hb1 (by assumption); clear hb1)
    go_ret
    exact ⟨by rw [HV.out]; rfl, k5_end (by assumption)⟩
  · have HZ := Lib.hid (show decide (2 ≤ lp) = decide ((2 : Int) ≤ lp) from decide_eq_decide.2 (by omega))
    go_enter Tryz.func34, Tryz.ntmps34
    go_wp2_with (go_at_call 49; refine Calls.mono (CB.out _) ?_; rintro e w1 ⟨rfl, hb1⟩; have K1 := k5_keep hb1 (by assumption); clear hb1)
    go_ret
    exact ⟨by rw [HV.out, HZ.out]; first | rfl | simp, k5_end (by assumption)⟩

set_option maxHeartbeats 1000000 in
theorem whole2 (sn so : ByteArray) (vs : List Att) (a : Option Addr) (c : Nat) (lp : Nat) (b : Option Addr) (d : Nat) (w : World) (hE : LaidE w) (hA : AttsAt w (Old w.heap.size) a vs) : Calls Tryz.prog 34 #[.agg #[.int .i64 2, .string sn, .string so, .slice a vs.length c, .slice b lp d]] w fun e w' => e = .returned (.bool (wholeB 2 sn.data.toList so.data.toList vs lp)) ∧ Below w.heap.size w w' := by
  have K := k5_new w (.int .i64 2) (.string sn) (.string so) (.slice a vs.length c) (.slice b lp d) 25
  have HE := Lib.hid hE
  have HA := Lib.hid hA
  have CB := Lib.hid (fun W => isBare_any 2 sn so vs a c lp b d W)
  obtain ⟨ba, hba⟩ : ∃ r, bareB sn.data.toList so.data.toList vs = r := ⟨_, rfl⟩
  have HV := Lib.hid (show wholeB 2 sn.data.toList so.data.toList vs lp = (ba && decide (2 ≤ lp)) by rw [← hba]; rfl)
  obtain ⟨res, hres⟩ : ∃ r, wholeB 2 sn.data.toList so.data.toList vs lp = r := ⟨_, rfl⟩
  rw [hba] at CB
  obtain ⟨n, hn⟩ : ∃ n, n = vs.length := ⟨_, rfl⟩
  rw [hres] at HV ⊢
  rw [← hn] at CB K ⊢
  clear hres hba hE hA hn
  cases ba
  · go_enter Tryz.func34, Tryz.ntmps34
    go_wp2_with (go_at_call 49; refine Calls.mono (CB.out _) ?_; rintro e w1 ⟨rfl, hb1⟩; have K1 := k5_keep hb1 (by assumption); clear hb1)
    go_ret
    exact ⟨by rw [HV.out]; rfl, k5_end (by assumption)⟩
  · have HZ := Lib.hid (show decide (2 ≤ lp) = decide ((2 : Int) ≤ lp) from decide_eq_decide.2 (by omega))
    go_enter Tryz.func34, Tryz.ntmps34
    go_wp2_with (go_at_call 49; refine Calls.mono (CB.out _) ?_; rintro e w1 ⟨rfl, hb1⟩; have K1 := k5_keep hb1 (by assumption); clear hb1)
    go_ret
    exact ⟨by rw [HV.out, HZ.out]; first | rfl | simp, k5_end (by assumption)⟩

set_option maxHeartbeats 1000000 in
theorem whole3 (sn so : ByteArray) (vs : List Att) (a : Option Addr) (c : Nat) (lp : Nat) (b : Option Addr) (d : Nat) (w : World) (hE : LaidE w) (hA : AttsAt w (Old w.heap.size) a vs) : Calls Tryz.prog 34 #[.agg #[.int .i64 3, .string sn, .string so, .slice a vs.length c, .slice b lp d]] w fun e w' => e = .returned (.bool (wholeB 3 sn.data.toList so.data.toList vs lp)) ∧ Below w.heap.size w w' := by
  have K := k5_new w (.int .i64 3) (.string sn) (.string so) (.slice a vs.length c) (.slice b lp d) 25
  have HE := Lib.hid hE
  have HA := Lib.hid hA
  have CB := Lib.hid (fun W => isBare_any 3 sn so vs a c lp b d W)
  obtain ⟨ba, hba⟩ : ∃ r, bareB sn.data.toList so.data.toList vs = r := ⟨_, rfl⟩
  have HV := Lib.hid (show wholeB 3 sn.data.toList so.data.toList vs lp = (ba && decide (lp = 1)) by rw [← hba]; rfl)
  obtain ⟨res, hres⟩ : ∃ r, wholeB 3 sn.data.toList so.data.toList vs lp = r := ⟨_, rfl⟩
  rw [hba] at CB
  obtain ⟨n, hn⟩ : ∃ n, n = vs.length := ⟨_, rfl⟩
  rw [hres] at HV ⊢
  rw [← hn] at CB K ⊢
  clear hres hba hE hA hn
  cases ba
  · go_enter Tryz.func34, Tryz.ntmps34
    go_wp2_with (go_at_call 49; refine Calls.mono (CB.out _) ?_; rintro e w1 ⟨rfl, hb1⟩; have K1 := k5_keep hb1 (by assumption); clear hb1)
    go_ret
    exact ⟨by rw [HV.out]; rfl, k5_end (by assumption)⟩
  · have HZ := Lib.hid (show decide (lp = 1) = decide ((lp : Int) = 1) from decide_eq_decide.2 (by omega))
    go_enter Tryz.func34, Tryz.ntmps34
    go_wp2_with (go_at_call 49; refine Calls.mono (CB.out _) ?_; rintro e w1 ⟨rfl, hb1⟩; have K1 := k5_keep hb1 (by assumption); clear hb1)
    go_ret
    exact ⟨by rw [HV.out, HZ.out]; first | rfl | simp, k5_end (by assumption)⟩

set_option maxHeartbeats 1000000 in
theorem whole7 (sn so : ByteArray) (vs : List Att) (a : Option Addr) (c : Nat) (lp : Nat) (b : Option Addr) (d : Nat) (w : World) (hE : LaidE w) (hA : AttsAt w (Old w.heap.size) a vs) : Calls Tryz.prog 34 #[.agg #[.int .i64 7, .string sn, .string so, .slice a vs.length c, .slice b lp d]] w fun e w' => e = .returned (.bool (wholeB 7 sn.data.toList so.data.toList vs lp)) ∧ Below w.heap.size w w' := by
  have K := k5_new w (.int .i64 7) (.string sn) (.string so) (.slice a vs.length c) (.slice b lp d) 25
  have HE := Lib.hid hE
  have HA := Lib.hid hA
  have CB := Lib.hid (fun W => isBare_any 7 sn so vs a c lp b d W)
  obtain ⟨ba, hba⟩ : ∃ r, bareB sn.data.toList so.data.toList vs = r := ⟨_, rfl⟩
  have HV := Lib.hid (show wholeB 7 sn.data.toList so.data.toList vs lp = (ba && decide (lp = 0)) by rw [← hba]; rfl)
  obtain ⟨res, hres⟩ : ∃ r, wholeB 7 sn.data.toList so.data.toList vs lp = r := ⟨_, rfl⟩
  rw [hba] at CB
  obtain ⟨n, hn⟩ : ∃ n, n = vs.length := ⟨_, rfl⟩
  rw [hres] at HV ⊢
  rw [← hn] at CB K ⊢
  clear hres hba hE hA hn
  cases ba
  · go_enter Tryz.func34, Tryz.ntmps34
    go_wp2_with (go_at_call 49; refine Calls.mono (CB.out _) ?_; rintro e w1 ⟨rfl, hb1⟩; have K1 := k5_keep hb1 (by assumption); clear hb1)
    go_ret
    exact ⟨by rw [HV.out]; rfl, k5_end (by assumption)⟩
  · have HZ := Lib.hid (show decide (lp = 0) = decide ((lp : Int) = 0) from decide_eq_decide.2 (by omega))
    go_enter Tryz.func34, Tryz.ntmps34
    go_wp2_with (go_at_call 49; refine Calls.mono (CB.out _) ?_; rintro e w1 ⟨rfl, hb1⟩; have K1 := k5_keep hb1 (by assumption); clear hb1)
    go_ret
    exact ⟨by rw [HV.out, HZ.out]; first | rfl | simp, k5_end (by assumption)⟩

set_option maxHeartbeats 1000000 in
theorem whole4 (sn so : ByteArray) (vs : List Att) (a : Option Addr) (c : Nat) (lp : Nat) (b : Option Addr) (d : Nat) (w : World) (hE : LaidE w) (hA : AttsAt w (Old w.heap.size) a vs) : Calls Tryz.prog 34 #[.agg #[.int .i64 4, .string sn, .string so, .slice a vs.length c, .slice b lp d]] w fun e w' => e = .returned (.bool (wholeB 4 sn.data.toList so.data.toList vs lp)) ∧ Below w.heap.size w w' := by
  have K := k5_new w (.int .i64 4) (.string sn) (.string so) (.slice a vs.length c) (.slice b lp d) 25
  have HE := Lib.hid hE
  have HA := Lib.hid hA
  have CL := Lib.hid (fun W (h1 : LaidE W) (h2 : AttsAt W (Old W.heap.size) a vs) => isLeaf_any 4 sn so vs a c lp b d W h1 h2)
  have CO := Lib.hid (fun W => isOp_any so W)
  obtain ⟨le, hle⟩ : ∃ r, leafQ sn.data.toList vs lp = r := ⟨_, rfl⟩
  obtain ⟨op, hop⟩ : ∃ r, opB so.data.toList = r := ⟨_, rfl⟩
  have HV := Lib.hid (show wholeB 4 sn.data.toList so.data.toList vs lp = (le && op && decide (vs.length = 1)) by rw [← hle, ← hop]; rfl)
  obtain ⟨res, hres⟩ : ∃ r, wholeB 4 sn.data.toList so.data.toList vs lp = r := ⟨_, rfl⟩
  rw [hle] at CL
  rw [hop] at CO
  obtain ⟨n, hn⟩ : ∃ n, n = vs.length := ⟨_, rfl⟩
  rw [hres] at HV ⊢
  rw [← hn] at HV CL K ⊢
  clear hres hle hop hE hA hn
  cases le
  · go_enter Tryz.func34, Tryz.ntmps34
    go_wp2_with (go_at_call 50; refine Calls.mono (CL.out _ (laid_fit HE.out (k5_end (by assumption))) (HA.out.fit (k5_end (by assumption)))) ?_; rintro e w1 ⟨rfl, hb1⟩; have K1 := k5_keep hb1 (by assumption); clear hb1)
    go_ret
    exact ⟨by rw [HV.out]; rfl, k5_end (by assumption)⟩
  cases op
  · go_enter Tryz.func34, Tryz.ntmps34
    go_wp2_with (first | (go_at_call 50; refine Calls.mono (CL.out _ (laid_fit HE.out (k5_end (by assumption))) (HA.out.fit (k5_end (by assumption)))) ?_; rintro e w1 ⟨rfl, hb1⟩; have K1 := k5_keep hb1 (by assumption); clear hb1) | (go_at_call 51; refine Calls.mono (CO.out _) ?_; rintro e w2 ⟨rfl, rfl⟩))
    go_ret
    exact ⟨by rw [HV.out]; rfl, k5_end (by assumption)⟩
  · have HZ := Lib.hid (show decide (n = 1) = decide ((n : Int) = 1) from decide_eq_decide.2 (by omega))
    go_enter Tryz.func34, Tryz.ntmps34
    go_wp2_with (first | (go_at_call 50; refine Calls.mono (CL.out _ (laid_fit HE.out (k5_end (by assumption))) (HA.out.fit (k5_end (by assumption)))) ?_; rintro e w1 ⟨rfl, hb1⟩; have K1 := k5_keep hb1 (by assumption); clear hb1) | (go_at_call 51; refine Calls.mono (CO.out _) ?_; rintro e w2 ⟨rfl, rfl⟩))
    go_ret
    exact ⟨by rw [HV.out, HZ.out]; first | rfl | simp, k5_end (by assumption)⟩

set_option maxHeartbeats 1000000 in
theorem whole5 (sn so : ByteArray) (vs : List Att) (a : Option Addr) (c : Nat) (lp : Nat) (b : Option Addr) (d : Nat) (w : World) (hE : LaidE w) (hA : AttsAt w (Old w.heap.size) a vs) : Calls Tryz.prog 34 #[.agg #[.int .i64 5, .string sn, .string so, .slice a vs.length c, .slice b lp d]] w fun e w' => e = .returned (.bool (wholeB 5 sn.data.toList so.data.toList vs lp)) ∧ Below w.heap.size w w' := by
  have K := k5_new w (.int .i64 5) (.string sn) (.string so) (.slice a vs.length c) (.slice b lp d) 25
  have HE := Lib.hid hE
  have HA := Lib.hid hA
  have CL := Lib.hid (fun W (h1 : LaidE W) (h2 : AttsAt W (Old W.heap.size) a vs) => isLeaf_any 5 sn so vs a c lp b d W h1 h2)
  obtain ⟨le, hle⟩ : ∃ r, leafQ sn.data.toList vs lp = r := ⟨_, rfl⟩
  have HV := Lib.hid (show wholeB 5 sn.data.toList so.data.toList vs lp = (le && so.toList == [] && decide (vs.length = 1) && firstText vs) by rw [Lib.toList_data, ← hle]; rfl)
  obtain ⟨res, hres⟩ : ∃ r, wholeB 5 sn.data.toList so.data.toList vs lp = r := ⟨_, rfl⟩
  rw [hle] at CL
  rw [hres] at HV ⊢
  clear hres hle hE hA
  cases le
  · obtain ⟨n, hn⟩ : ∃ n, n = vs.length := ⟨_, rfl⟩
    rw [← hn] at CL K ⊢
    clear hn
    go_enter Tryz.func34, Tryz.ntmps34
    go_wp2_with (go_at_call 50; refine Calls.mono (CL.out _ (laid_fit HE.out (k5_end (by assumption))) (HA.out.fit (k5_end (by assumption)))) ?_; rintro e w1 ⟨rfl, hb1⟩; have K1 := k5_keep hb1 (by assumption); clear hb1)
    go_ret
    exact ⟨by rw [HV.out]; rfl, k5_end (by assumption)⟩
  by_cases h1 : vs.length = 1
  · obtain ⟨v, rfl⟩ : ∃ v, vs = [v] := by
      match vs, h1 with
      | [v], _ => exact ⟨v, rfl⟩
    obtain ⟨g, p, rfl, hg, hc⟩ := HA.out.2.2 (by simp)
    obtain ⟨_, c1, _, _⟩ := hc 0 (by simp)
    simp only [List.getElem_cons_zero, Nat.zero_mul, Nat.add_zero] at c1
    have HC1 := Lib.hid c1
    have HG := Lib.hid (show g < w.heap.size from hg)
    clear c1 hc hg h1
    have FX := Lib.hid (fun W (hB : Below w.heap.size w W) => (hB.cell (p := ⟨g, p + 1, none⟩) HG.out).trans HC1.out)
    have HV2 := Lib.hid (show res = (so.toList == [] && v.text) by rw [HV.out]; simp [firstText])
    obtain ⟨tx, htx⟩ : ∃ t, t = v.text := ⟨_, rfl⟩
    rw [← htx] at FX HV2
    clear htx HV
    simp only [List.length_cons, List.length_nil, Nat.zero_add] at K CL ⊢
    go_enter Tryz.func34, Tryz.ntmps34
    go_wp2_with (go_at_call 50; refine Calls.mono (CL.out _ (laid_fit HE.out (k5_end (by assumption))) (HA.out.fit (k5_end (by assumption)))) ?_; rintro e w1 ⟨rfl, hb1⟩; have K1 := k5_keep hb1 (by assumption); have X1 := FX.out _ (k5_end K1); clear hb1)
    all_goals go_ret
    all_goals exact ⟨by rw [HV2.out]; clear HV2 CL HE HA FX HC1 HG; first | rfl | simp_all, k5_end (by assumption)⟩
  · have h1z : ¬ (vs.length : Int) = 1 := by omega
    have HF := Lib.hid (show res = false by rw [HV.out, decide_eq_false h1]; simp)
    obtain ⟨n, hn⟩ : ∃ n, n = vs.length := ⟨_, rfl⟩
    rw [← hn] at CL K h1z ⊢
    clear hn h1 HV
    go_enter Tryz.func34, Tryz.ntmps34
    go_wp2_with (go_at_call 50; refine Calls.mono (CL.out _ (laid_fit HE.out (k5_end (by assumption))) (HA.out.fit (k5_end (by assumption)))) ?_; rintro e w1 ⟨rfl, hb1⟩; have K1 := k5_keep hb1 (by assumption); clear hb1)
    all_goals go_ret
    all_goals exact ⟨by rw [HF.out]; first | rfl | simp_all, k5_end (by assumption)⟩

set_option maxHeartbeats 1000000 in
theorem whole6 (sn so : ByteArray) (vs : List Att) (a : Option Addr) (c : Nat) (lp : Nat) (b : Option Addr) (d : Nat) (w : World) (hE : LaidE w) (hA : AttsAt w (Old w.heap.size) a vs) : Calls Tryz.prog 34 #[.agg #[.int .i64 6, .string sn, .string so, .slice a vs.length c, .slice b lp d]] w fun e w' => e = .returned (.bool (wholeB 6 sn.data.toList so.data.toList vs lp)) ∧ Below w.heap.size w w' := by
  have K := k5_new w (.int .i64 6) (.string sn) (.string so) (.slice a vs.length c) (.slice b lp d) 25
  have HE := Lib.hid hE
  have HA := Lib.hid hA
  have CL := Lib.hid (fun W (h1 : LaidE W) (h2 : AttsAt W (Old W.heap.size) a vs) => isLeaf_any 6 sn so vs a c lp b d W h1 h2)
  have CS := Lib.hid (fun W (h2 : AttsAt W (Old W.heap.size) a vs) => oneSort_any vs a c W h2)
  obtain ⟨le, hle⟩ : ∃ r, leafQ sn.data.toList vs lp = r := ⟨_, rfl⟩
  obtain ⟨st, hst⟩ : ∃ r, sortB vs = r := ⟨_, rfl⟩
  have HV := Lib.hid (show wholeB 6 sn.data.toList so.data.toList vs lp = (le && so.toList == [] && decide (0 < vs.length) && st) by rw [Lib.toList_data, ← hle, ← hst]; rfl)
  obtain ⟨res, hres⟩ : ∃ r, wholeB 6 sn.data.toList so.data.toList vs lp = r := ⟨_, rfl⟩
  rw [hle] at CL
  rw [hst] at CS
  rw [hres] at HV ⊢
  obtain ⟨n, hn⟩ : ∃ n, n = vs.length := ⟨_, rfl⟩
  rw [← hn] at HV CL CS K ⊢
  clear hres hle hst hE hA hn
  cases le
  · go_enter Tryz.func34, Tryz.ntmps34
    go_wp2_with (go_at_call 50; refine Calls.mono (CL.out _ (laid_fit HE.out (k5_end (by assumption))) (HA.out.fit (k5_end (by assumption)))) ?_; rintro e w1 ⟨rfl, hb1⟩; have K1 := k5_keep hb1 (by assumption); clear hb1)
    go_ret
    exact ⟨by rw [HV.out]; rfl, k5_end (by assumption)⟩
  by_cases h1 : 0 < n
  · have h1z : (0 : Int) < n := by omega
    have HF := Lib.hid (show res = (so.toList == [] && st) by rw [HV.out, decide_eq_true h1]; simp)
    go_enter Tryz.func34, Tryz.ntmps34
    go_wp2_with (first | (go_at_call 50; refine Calls.mono (CL.out _ (laid_fit HE.out (k5_end (by assumption))) (HA.out.fit (k5_end (by assumption)))) ?_; rintro e w1 ⟨rfl, hb1⟩; have K1 := k5_keep hb1 (by assumption); clear hb1) | (go_at_call 52; refine Calls.mono (CS.out _ (HA.out.fit (k5_end (by assumption)))) ?_; rintro e w2 ⟨rfl, hb1⟩; have K2 := k5_keep hb1 (by assumption); clear hb1))
    all_goals go_ret
    all_goals exact ⟨by rw [HF.out]; clear HF HV CL CS HE HA; first | rfl | simp_all, k5_end (by assumption)⟩
  · have h1z : ¬ (0 : Int) < n := by omega
    have HF := Lib.hid (show res = false by rw [HV.out, decide_eq_false h1]; simp)
    go_enter Tryz.func34, Tryz.ntmps34
    go_wp2_with (go_at_call 50; refine Calls.mono (CL.out _ (laid_fit HE.out (k5_end (by assumption))) (HA.out.fit (k5_end (by assumption)))) ?_; rintro e w1 ⟨rfl, hb1⟩; have K1 := k5_keep hb1 (by assumption); clear hb1)
    all_goals go_ret
    all_goals exact ⟨by rw [HF.out]; clear HF HV CL CS HE HA; first | rfl | simp_all, k5_end (by assumption)⟩

theorem isWhole_any (k : Int) (sn so : ByteArray) (vs : List Att) (a : Option Addr) (c : Nat) (lp : Nat) (b : Option Addr) (d : Nat) (w : World) (hE : LaidE w) (hA : AttsAt w (Old w.heap.size) a vs) : Calls Tryz.prog 34 #[.agg #[.int .i64 k, .string sn, .string so, .slice a vs.length c, .slice b lp d]] w fun e w' => e = .returned (.bool (wholeB k sn.data.toList so.data.toList vs lp)) ∧ Below w.heap.size w w' := by
  by_cases h1 : k = 1
  · subst h1; exact whole1 sn so vs a c lp b d w hE hA
  by_cases h2 : k = 2
  · subst h2; exact whole2 sn so vs a c lp b d w hE hA
  by_cases h3 : k = 3
  · subst h3; exact whole3 sn so vs a c lp b d w hE hA
  by_cases h7 : k = 7
  · subst h7; exact whole7 sn so vs a c lp b d w hE hA
  by_cases h4 : k = 4
  · subst h4; exact whole4 sn so vs a c lp b d w hE hA
  by_cases h5 : k = 5
  · subst h5; exact whole5 sn so vs a c lp b d w hE hA
  by_cases h6 : k = 6
  · subst h6; exact whole6 sn so vs a c lp b d w hE hA
  have HF := Lib.hid (show wholeB k sn.data.toList so.data.toList vs lp = false by simp [wholeB, h1, h2, h3, h7, h4, h5, h6])
  have K := k5_new w (.int .i64 k) (.string sn) (.string so) (.slice a vs.length c) (.slice b lp d) 25
  go_enter Tryz.func34, Tryz.ntmps34
  go_wp2_with fail
  go_ret
  exact ⟨by rw [HF.out]; rfl, k5_end (by assumption)⟩
end Go.Proofs.YtjffnjiggcfhcaaGreatDoor.Fl
/-
  Plain facts on filters' depths and numbers of nodes: may a filter be, at most so deep, with at most so many nodes? No program here.
-/
namespace Go.Proofs.YtjffnjiggcfhcaaGreatDoor.Fl
set_option linter.unusedVariables false
set_option linter.unusedSimpArgs false

mutual
/-- How deep a filter is. -/
def dep : Flt → Nat
  | .mk _ _ _ _ l => depL l + 1
def depL : List Flt → Nat
  | [] => 0
  | p :: r => max (dep p) (depL r)
end
def mayB (f : Flt) (deep n : Nat) : Bool := fine f && decide (dep f ≤ deep) && decide (sz f ≤ n)
/-- May a filter of kind k have these parts, at most so deep, with so many nodes? -/
def okU (k : Int) (d m : Nat) (ps : List Flt) : Bool := ps.all (fun q => !(joinedB k && decide (q.kind = k)) && fine q) && decide (depL ps ≤ d) && decide (szL ps ≤ m)
theorem fineL_all (k : Int) : ∀ ps : List Flt, fineL k ps = ps.all fun q => fine q && (decide (k = 3) || !decide (q.kind = k))
  | [] => rfl
  | p :: r => by rw [fineL, fineL_all k r, List.all_cons]
theorem joined_part {k : Int} (h : k = 1 ∨ k = 2 ∨ k = 3) (q : Flt) : (fine q && (decide (k = 3) || !decide (q.kind = k))) = (!(joinedB k && decide (q.kind = k)) && fine q) := by
  rcases h with rfl | rfl | rfl
  · cases fine q <;> simp [joinedB]
  · cases fine q <;> simp [joinedB]
  · cases fine q <;> simp [joinedB]
theorem leaf_whole {k : Int} (hk : k = 4 ∨ k = 5 ∨ k = 6) (n o : List UInt8) (vs : List Att) (lp : Nat) : wholeB k n o vs lp = (leafB k n o vs && decide (lp = 0)) := by
  rcases hk with rfl | rfl | rfl
  · show (leafQ n vs lp && opB o && decide (vs.length = 1)) = _
    match vs with
    | [] => simp [leafQ, leafB]
    | [v] => simp only [leafQ, leafB]; cases decide (lp = 0) <;> cases nameB n <;> cases hv : valB v <;> cases opB o <;> simp [hv]
    | v :: u :: r => simp [leafQ, leafB]
  · show (leafQ n vs lp && o == [] && decide (vs.length = 1) && firstText vs) = _
    match vs with
    | [] => simp [leafQ, leafB]
    | [v] => simp only [leafQ, leafB, firstText]; cases decide (lp = 0) <;> cases nameB n <;> cases hv : valB v <;> cases ho : (o == []) <;> cases ht : v.text <;> simp [hv, ht, ho]
    | v :: u :: r => simp [leafQ, leafB]
  · show (leafQ n vs lp && o == [] && decide (0 < vs.length) && sortB vs) = _
    match vs with
    | [] => simp [leafQ, leafB]
    | v :: r =>
      have e1 : decide ((v :: r).length ≤ 20) = decide (r.length < 20) := decide_eq_decide.2 (by simp only [List.length_cons]; omega)
      have e2 : (r.all fun u => valB u && u.text == v.text) = (r.all valB && r.all fun u => u.text == v.text) := by
        induction r with
        | nil => rfl
        | cons u r ih =>
          have := ih (decide_eq_decide.2 (by simp only [List.length_cons]; omega))
          simp only [List.all_cons, this]
          cases valB u <;> cases (u.text == v.text) <;> cases r.all valB <;> simp
      simp only [leafQ, leafB, e1, e2, sortB, List.all_cons, if_true]
      cases decide (lp = 0) <;> cases nameB n <;> cases valB v <;> cases ho : (o == []) <;> cases decide (r.length < 20) <;> cases r.all valB <;> cases (r.all fun u => u.text == v.text) <;> simp [ho]
theorem whole_kinds {k : Int} {n o : List UInt8} {vs : List Att} {lp : Nat} (h : wholeB k n o vs lp = true) : (k = 1 ∨ k = 2 ∨ k = 3) ∨ ((k = 7 ∨ k = 4 ∨ k = 5 ∨ k = 6) ∧ lp = 0) := by
  unfold wholeB at h
  split at h
  · omega
  split at h
  · omega
  split at h
  · simp at h; omega
  split at h
  · simp [leafQ] at h; omega
  split at h
  · simp [leafQ] at h; omega
  split at h
  · simp [leafQ] at h; omega
  · cases h
theorem all_congr {ps : List Flt} {p q : Flt → Bool} (h : ∀ x, p x = q x) : ps.all p = ps.all q := by rw [funext h]
theorem fine_eq (k : Int) (n o : List UInt8) (vs : List Att) (ps : List Flt) : fine (.mk k n o vs ps) = (wholeB k n o vs ps.length && ps.all fun q => !(joinedB k && decide (q.kind = k)) && fine q) := by
  rw [fine]
  by_cases h456 : k = 4 ∨ k = 5 ∨ k = 6
  · rw [if_pos h456, leaf_whole h456]
    match ps with
    | [] => simp
    | p :: r => simp
  · rw [if_neg h456]
    by_cases h12 : k = 1 ∨ k = 2
    · rw [if_pos h12, fineL_all, all_congr (joined_part (by omega))]
      unfold wholeB bareB
      rw [if_pos h12]
      cases vs <;> simp
    · rw [if_neg h12]
      by_cases h3 : k = 3
      · rw [if_pos h3, fineL_all, all_congr (joined_part (by omega))]
        unfold wholeB bareB
        rw [if_neg h12, if_pos h3]
        cases vs <;> simp
      · rw [if_neg h3]
        unfold wholeB bareB
        rw [if_neg h12, if_neg h3]
        by_cases h7 : k = 7
        · rw [if_pos h7]
          cases ps <;> cases vs <;> simp [h7, fineL]
        · rw [if_neg h7, if_neg (by omega), if_neg (by omega), if_neg (by omega)]
          simp [h7]
theorem may_eq (k : Int) (n o : List UInt8) (vs : List Att) (ps : List Flt) (d m : Nat) : mayB (.mk k n o vs ps) (d + 1) (m + 1) = (wholeB k n o vs ps.length && okU k d m ps) := by
  unfold mayB okU
  have e1 : decide (depL ps + 1 ≤ d + 1) = decide (depL ps ≤ d) := decide_eq_decide.2 (by omega)
  have e2 : decide (szL ps + 1 ≤ m + 1) = decide (szL ps ≤ m) := decide_eq_decide.2 (by omega)
  rw [fine_eq, dep, sz, e1, e2]
  simp only [Bool.and_assoc]
theorem dep_pos (f : Flt) : 1 ≤ dep f := by cases f; rw [dep]; omega
theorem may_flat (f : Flt) (n : Nat) : mayB f 0 n = false := by
  unfold mayB
  rw [decide_eq_false (show ¬ dep f ≤ 0 by have := dep_pos f; omega)]
  simp
theorem may_none (f : Flt) (d : Nat) : mayB f d 0 = false := by
  unfold mayB
  rw [decide_eq_false (show ¬ sz f ≤ 0 by have := sz_pos f; omega)]
  simp
theorem depL_app : ∀ l m : List Flt, depL (l ++ m) = max (depL l) (depL m)
  | [], m => by simp [depL]
  | p :: r, m => by rw [List.cons_append, depL, depL, depL_app r m]; omega
theorem szL_app' : ∀ l m : List Flt, szL (l ++ m) = szL l + szL m
  | [], m => by simp [szL]
  | p :: r, m => by rw [List.cons_append, szL, szL, szL_app' r m]; omega
theorem okU_nil (k : Int) (d m : Nat) : okU k d m [] = true := by simp [okU, depL, szL]
theorem okU_snoc {k : Int} {d m : Nat} {l : List Flt} (h : okU k d m l = true) (q : Flt) : okU k d m (l ++ [q]) = (!(joinedB k && decide (q.kind = k)) && mayB q d (m - szL l)) := by
  unfold okU mayB at *
  simp only [Bool.and_eq_true, decide_eq_true_eq] at h
  obtain ⟨⟨h1, h2⟩, h3⟩ := h
  have e1 : depL (l ++ [q]) = max (depL l) (dep q) := by rw [depL_app, depL, depL]; omega
  have e2 : szL (l ++ [q]) = szL l + sz q := by rw [szL_app', szL, szL]; omega
  have e3 : decide (max (depL l) (dep q) ≤ d) = decide (dep q ≤ d) := decide_eq_decide.2 (by omega)
  have e4 : decide (szL l + sz q ≤ m) = decide (sz q ≤ m - szL l) := decide_eq_decide.2 (by omega)
  rw [List.all_append, h1, Bool.true_and, e1, e2, e3, e4]
  simp only [List.all_cons, List.all_nil, Bool.and_true, Bool.and_assoc]
theorem okU_front {k : Int} {d m : Nat} {l r : List Flt} (h : okU k d m (l ++ r) = true) : okU k d m l = true := by
  unfold okU at *
  rw [List.all_append, depL_app, szL_app'] at h
  simp only [Bool.and_eq_true, decide_eq_true_eq] at h ⊢
  exact ⟨⟨h.1.1.1, by omega⟩, by omega⟩
theorem okU_szL {k : Int} {d m : Nat} {l : List Flt} (h : okU k d m l = true) : szL l ≤ m := by
  unfold okU at h
  simp only [Bool.and_eq_true, decide_eq_true_eq] at h
  exact h.2
theorem okU_take {k : Int} {d m j : Nat} {ps : List Flt} (h : okU k d m (ps.take j) = false) : okU k d m ps = false := by
  cases e : okU k d m ps with
  | false => rfl
  | true =>
    rw [← List.take_append_drop j ps] at e
    rw [okU_front e] at h
    cases h
theorem okU_step {k : Int} {d m j : Nat} {ps : List Flt} (h : okU k d m (ps.take j) = true) {q : Flt} (hq : ps[j]? = some q) : okU k d m (ps.take (j + 1)) = (!(joinedB k && decide (q.kind = k)) && mayB q d (m - szL (ps.take j))) := by
  rw [List.take_add_one, hq]
  exact okU_snoc h q
theorem szL_step {j : Nat} {ps : List Flt} {q : Flt} (hq : ps[j]? = some q) : szL (ps.take (j + 1)) = szL (ps.take j) + sz q := by
  rw [List.take_add_one, hq, szL_app']
  simp [szL]
theorem mayB_sz {f : Flt} {d n : Nat} (h : mayB f d n = true) : sz f ≤ n := by
  unfold mayB at h
  simp only [Bool.and_eq_true, decide_eq_true_eq] at h
  exact h.2
end Go.Proofs.YtjffnjiggcfhcaaGreatDoor.Fl
/-
  Blocks that a call has made, and one that it may write: what is carried from world to world. No function of the program here.
-/
namespace Go.Proofs.YtjffnjiggcfhcaaGreatDoor.Fl
open Go.RowKit Go.Proofs.YtjffnjiggcfhcaaGreatDoor.Tk
set_option linter.unusedVariables false
set_option linter.unusedSimpArgs false

/-- Block g holds these five. -/
def Box (W : World) (g : Nat) (x0 x1 x2 x3 x4 : Value) : Prop :=
  W.cell? ⟨g, 0, none⟩ = some x0 ∧ W.cell? ⟨g, 1, none⟩ = some x1 ∧ W.cell? ⟨g, 2, none⟩ = some x2 ∧ W.cell? ⟨g, 3, none⟩ = some x3 ∧ W.cell? ⟨g, 4, none⟩ = some x4
theorem Box.new (w : World) (x0 x1 x2 x3 x4 : Value) (t : TypeId) : Box (w.alloc (.cells #[x0, x1, x2, x3, x4] t)) w.heap.size x0 x1 x2 x3 x4 := by
  refine ⟨?_, ?_, ?_, ?_, ?_⟩ <;> simp [go_sem]
theorem Box.lt {W : World} {g : Nat} {x0 x1 x2 x3 x4 : Value} (h : Box W g x0 x1 x2 x3 x4) : g < W.heap.size := World.block_lt_of_cell? W ⟨g, 0, none⟩ h.1
theorem Box.same {W V : World} {g : Nat} {x0 x1 x2 x3 x4 : Value} (h : Box W g x0 x1 x2 x3 x4) (e : V.heap[g]? = W.heap[g]?) : Box V g x0 x1 x2 x3 x4 := by
  have hq : ∀ x, V.cell? ⟨g, x, none⟩ = W.cell? ⟨g, x, none⟩ := fun x => World.cell?_of_block (w := W) (w' := V) (a := ⟨g, x, none⟩) e
  unfold Box
  simp only [hq]
  exact h
theorem Box.later {W V : World} {g : Nat} {x0 x1 x2 x3 x4 : Value} (h : Box W g x0 x1 x2 x3 x4) (hb : Below W.heap.size W V) : Box V g x0 x1 x2 x3 x4 := h.same (hb.block g h.lt)
theorem Box.gr {W V : World} {g p : Nat} {x0 x1 x2 x3 x4 : Value} (h : Box W g x0 x1 x2 x3 x4) (hg : W.grownBy V (some p)) (hne : g ≠ p) : Box V g x0 x1 x2 x3 x4 := h.same (hg.block g h.lt (by simpa using hne))

theorem gr_refl (w : World) (r : Option Nat) : w.grownBy w r := ⟨rfl, rfl, rfl, Nat.le_refl _, fun _ _ _ => rfl⟩
theorem gr_alloc {w V : World} {r : Option Nat} (h : w.grownBy V r) (o : Obj) : w.grownBy (V.alloc o) r :=
  ⟨h.os, h.tape, h.output, Nat.le_trans h.size (by simp), fun k hk hne => (Below.heap_alloc _ _ _ (Nat.lt_of_lt_of_le hk h.size)).trans (h.block k hk hne)⟩
theorem gr_drew {w V : World} {r : Option Nat} (h : w.grownBy V r) : w.grownBy V.drew r := ⟨h.os, h.tape, h.output, h.size, h.block⟩
theorem gr_set {w V : World} {p o : Nat} (h : w.grownBy V (some p)) (v : Value) : w.grownBy (V.setCell ⟨p, o, none⟩ v) (some p) :=
  ⟨h.os, h.tape, h.output, by have := h.size; simpa [World.setCell] using this, fun k hk hne => (Below.heap_setCell _ _ _ _ (by intro e; exact hne (by rw [e]))).trans (h.block k hk hne)⟩
theorem gr_below {w V : World} {p z : Nat} (h : w.grownBy V (some p)) (hz : z ≤ p) (hs : z ≤ w.heap.size) : Below z w V :=
  ⟨h.os, h.tape, h.output, h.size, fun k hk => h.block k (by omega) (by intro e; cases e; omega)⟩
theorem gr_of_below {w V : World} {r : Option Nat} (h : Below w.heap.size w V) : w.grownBy V r := ⟨h.os, h.tape, h.output, h.size, fun k hk _ => h.block k hk⟩
theorem gr_trans {a b c : World} {r : Option Nat} (h : a.grownBy b r) (k : b.grownBy c r) : a.grownBy c r := h.trans k
/-- Behind what leaves all alone that was there, and before it. -/
theorem gr_pre {a b c : World} {r : Option Nat} (h : Below a.heap.size a b) (k : b.grownBy c r) : a.grownBy c r := (gr_of_below h).trans k

/-- A number that may be written. -/
def LeftAt (W : World) (p : Nat) (m : Int) : Prop := W.cell? ⟨p, 0, none⟩ = some (.int .i64 m) ∧ W.frozen? ⟨p, 0, none⟩ = false
theorem LeftAt.lt {W : World} {p : Nat} {m : Int} (h : LeftAt W p m) : p < W.heap.size := World.block_lt_of_cell? W ⟨p, 0, none⟩ h.1
theorem LeftAt.same {W V : World} {p : Nat} {m : Int} (h : LeftAt W p m) (e : V.heap[p]? = W.heap[p]?) : LeftAt V p m :=
  ⟨(World.cell?_of_block (w := W) (w' := V) (a := ⟨p, 0, none⟩) e).trans h.1, (World.frozen?_of_block (w := W) (w' := V) (a := ⟨p, 0, none⟩) e).trans h.2⟩
theorem LeftAt.later {W V : World} {p : Nat} {m : Int} (h : LeftAt W p m) (hb : Below W.heap.size W V) : LeftAt V p m := h.same (hb.block p h.lt)
theorem LeftAt.alloc {W : World} {p : Nat} {m : Int} (h : LeftAt W p m) (o : Obj) : LeftAt (W.alloc o) p m := h.same (Below.heap_alloc _ _ _ h.lt)
theorem LeftAt.set {W : World} {p : Nat} {m : Int} (h : LeftAt W p m) (n : Int) : LeftAt (W.setCell ⟨p, 0, none⟩ (.int .i64 n)) p n := by
  obtain ⟨h1, h2⟩ := h
  exact ⟨by simp [go_sem, h1], by simp [go_sem, h2]⟩
/-- strconv's two errors are there, below block z. -/
def LaidZ (z : Nat) (w : World) : Prop := LaidE w ∧ 4 < z ∧ 5 < z
theorem laidZ_of {w : World} (h : LaidE w) : LaidZ w.heap.size w := by
  refine ⟨h, ?_, ?_⟩
  · obtain ⟨tp, tq, p, q, h1, h2⟩ := h
    have := World.var?_cell gSyn h1 0
    exact World.block_lt_of_cell? _ _ (this.trans (by rfl : (#[Value.iface tp p] : Array Value)[0]? = some (.iface tp p)))
  · obtain ⟨tp, tq, p, q, h1, h2⟩ := h
    have := World.var?_cell gRng h2 0
    exact World.block_lt_of_cell? _ _ (this.trans (by rfl : (#[Value.iface tq q] : Array Value)[0]? = some (.iface tq q)))
theorem LaidZ.later {z : Nat} {w V : World} (h : LaidZ z w) (hb : Below z w V) : LaidZ z V := by
  obtain ⟨⟨tp, tq, p, q, h1, h2⟩, l1, l2⟩ := h
  exact ⟨⟨tp, tq, p, q, var?_below hb gSyn l1 h1, var?_below hb gRng l2 h2⟩, l1, l2⟩
end Go.Proofs.YtjffnjiggcfhcaaGreatDoor.Fl
namespace Go.Proofs.YtjffnjiggcfhcaaGreatDoor.Fl
open Go.RowKit
set_option linter.unusedVariables false
set_option linter.unusedSimpArgs false

def eqL {α : Type} (p : α → α → Bool) : List α → List α → Bool
  | [], [] => true
  | u :: r, v :: s => p u v && eqL p r s
  | _, _ => false
theorem eqL_len {α : Type} {p : α → α → Bool} : ∀ {l m : List α}, l.length ≠ m.length → eqL p l m = false
  | [], [], h => absurd rfl h
  | [], _ :: _, _ => rfl
  | _ :: _, [], _ => rfl
  | u :: r, v :: s, h => by rw [eqL, eqL_len (by simpa using h), Bool.and_false]
theorem eqL_no {α : Type} {p : α → α → Bool} : ∀ {l m : List α} {k : Nat} {u v : α}, l[k]? = some u → m[k]? = some v → p u v = false → eqL p l m = false
  | [], _, k, u, v, h, _, _ => by simp at h
  | _ :: _, [], k, u, v, _, h, _ => by simp at h
  | a :: r, b :: s, 0, u, v, h1, h2, h => by
    simp at h1 h2
    rw [eqL, h1, h2, h, Bool.false_and]
  | a :: r, b :: s, k + 1, u, v, h1, h2, h => by rw [eqL, eqL_no (k := k) (by simpa using h1) (by simpa using h2) h, Bool.and_false]
theorem eqL_yes {α : Type} {p : α → α → Bool} : ∀ {l m : List α}, l.length = m.length → (∀ (k : Nat) (u v : α), k < l.length → l[k]? = some u → m[k]? = some v → p u v = true) → eqL p l m = true
  | [], [], _, _ => rfl
  | [], _ :: _, h, _ => by simp at h
  | _ :: _, [], h, _ => by simp at h
  | u :: r, v :: s, h, g => by
    rw [eqL, g 0 u v (by simp) (by simp) (by simp), Bool.true_and]
    exact eqL_yes (by simpa using h) fun k a b hk ha hb => g (k + 1) a b (by simpa using hk) (by simpa using ha) (by simpa using hb)
theorem eqL_more {α : Type} {p : α → α → Bool} {l m : List α} {k : Nat} {u v : α} (h : ∀ (i : Nat) (u v : α), i < k → l[i]? = some u → m[i]? = some v → p u v = true) (hu : l[k]? = some u) (hv : m[k]? = some v) (hp : p u v = true) :
    ∀ (i : Nat) (u v : α), i < k + 1 → l[i]? = some u → m[i]? = some v → p u v = true := by
  intro i a b hi ha hb
  by_cases e : i = k
  · subst e
    rw [hu] at ha
    rw [hv] at hb
    cases ha
    cases hb
    exact hp
  · exact h i a b (by omega) ha hb
def attEq (u v : Att) : Bool := u.name == v.name && u.text == v.text && u.num == v.num && u.str == v.str
def attsEq (l m : List Att) : Bool := eqL attEq l m
mutual
def sameB : Flt → Flt → Bool
  | .mk k n o vs ps, g => k == g.kind && n == g.name && o == g.op && attsEq vs g.vals && sameL ps g.parts
def sameL : List Flt → List Flt → Bool
  | [], [] => true
  | p :: r, q :: s => sameB p q && sameL r s
  | _, _ => false
end
theorem sameL_eq : ∀ l m : List Flt, sameL l m = eqL sameB l m
  | [], [] => by rw [sameL, eqL]
  | [], _ :: _ => by rw [sameL, eqL] <;> simp
  | _ :: _, [] => by rw [sameL, eqL] <;> simp
  | p :: r, q :: s => by rw [sameL, eqL, sameL_eq r s]
theorem neq_att (s1 : ByteArray) (t1 : Bool) (n1 : Int) (r1 s2 : ByteArray) (t2 : Bool) (n2 : Int) (r2 : ByteArray) (w : World) :
    (binOp .neq 47 (.agg #[.string s1, .bool t1, .int .i64 n1, .string r1]) (.agg #[.string s2, .bool t2, .int .i64 n2, .string r2])).run Tryz.prog w = .ok (.bool (!(s1.toList == s2.toList && t1 == t2 && n1 == n2 && r1.toList == r2.toList))) w := by
  simp [go_sem]
  by_cases h1 : s1.toList = s2.toList <;> by_cases h2 : t1 = t2 <;> by_cases h3 : n1 = n2 <;> by_cases h4 : r1.toList = r2.toList <;> simp [h1, h2, h3, h4]
theorem att_eq {u v : Att} {s1 r1 s2 r2 : ByteArray} (h1 : s1.data.toList = u.name) (h2 : r1.data.toList = u.str) (h3 : s2.data.toList = v.name) (h4 : r2.data.toList = v.str) : (s1.toList == s2.toList && u.text == v.text && u.num == v.num && r1.toList == r2.toList) = attEq u v := by
  rw [Lib.toList_data, Lib.toList_data, Lib.toList_data, Lib.toList_data, h1, h2, h3, h4, attEq]
def EqR {α : Type} (p : α → α → Bool) (l m : List α) (w : World) (vi : Value) (wr : World) : Prop :=
  ∃ k : Nat, k ≤ l.length ∧ vi = .int .i64 k ∧ Hid (∀ (i : Nat) (u v : α), i < k → l[i]? = some u → m[i]? = some v → p u v = true) ∧ Below w.heap.size w wr

set_option maxHeartbeats 1000000 in
set_option maxRecDepth 100000 in
theorem equal_any (us vs : List Att) (a b : Option Addr) (c d : Nat) (w : World) (hA : AttsAt w (Old w.heap.size) a us) (hB : AttsAt w (Old w.heap.size) b vs) :
    Calls Tryz.prog 22 #[.slice a us.length c, .slice b vs.length d] w fun e w' => e = .returned (.bool (attsEq us vs)) ∧ Below w.heap.size w w' := by
  have HA := Lib.hid hA
  have HB := Lib.hid hB
  obtain ⟨n, hn⟩ : ∃ n, n = us.length := ⟨_, rfl⟩
  have hm : n ≤ 9223372036854775807 := by have := hA.1; unfold maxLen at this; omega
  obtain ⟨res, hres⟩ : ∃ x, x = attsEq us vs := ⟨_, rfl⟩
  have HR := Lib.hid hres
  rw [← hres]
  by_cases hl : us.length = vs.length
  · have HN := Lib.hid hn
    have HN2 := Lib.hid (hn.trans hl)
    rw [← hl, ← hn]
    clear hl hn hA hB hres
    go_enter Tryz.func22, Tryz.ntmps22
    go_wp2_with fail
    go_loopw [13] (fun vi wr => EqR attEq us vs w vi wr) (fun vi _ => n - (intOf vi).toNat)
    case atStart => exact ⟨0, Nat.zero_le _, rfl, Lib.hid (fun i u v h => absurd h (Nat.not_lt_zero _)), Below.refl _ _⟩
    case round =>
      obtain ⟨k, hk, rfl, hall, hBB⟩ := hrel
      have HK := Lib.hid hk
      have HBB := Lib.hid hBB
      clear hk hBB
      by_cases hlt : k < n
      · have hlz : (k : Int) < (n : Int) := by omega
        have hku : k < us.length := by rw [← HN.out]; exact hlt
        have hkv : k < vs.length := by rw [← HN2.out]; exact hlt
        obtain ⟨g, o, hg, _, hc⟩ := (HA.out.later HBB.out).2.2 (by omega)
        obtain ⟨g2, o2, hg2, _, hc2⟩ := (HB.out.later HBB.out).2.2 (by omega)
        obtain ⟨c0, c1, c2, c3⟩ := hc k hku
        obtain ⟨d0, d1, d2, d3⟩ := hc2 k hkv
        obtain ⟨U, hU⟩ : ∃ V, V = us[k] := ⟨_, rfl⟩
        obtain ⟨V, hV⟩ : ∃ V, V = vs[k] := ⟨_, rfl⟩
        rw [← hU] at c0 c1 c2 c3
        rw [← hV] at d0 d1 d2 d3
        obtain ⟨s1, e1, f1⟩ := bs_bytes U.name
        obtain ⟨r1, e2, f2⟩ := bs_bytes U.str
        obtain ⟨s2, e3, f3⟩ := bs_bytes V.name
        obtain ⟨r2, e4, f4⟩ := bs_bytes V.str
        have HEQ := att_eq f1 f2 f3 f4
        obtain ⟨t1, ht1⟩ : ∃ x, x = U.text := ⟨_, rfl⟩
        obtain ⟨n1, hn1⟩ : ∃ x, x = U.num := ⟨_, rfl⟩
        obtain ⟨t2, ht2⟩ : ∃ x, x = V.text := ⟨_, rfl⟩
        obtain ⟨n2, hn2⟩ : ∃ x, x = V.num := ⟨_, rfl⟩
        rw [e1] at c0
        rw [← ht1] at c1 HEQ
        rw [← hn1] at c2 HEQ
        rw [e2] at c3
        rw [e3] at d0
        rw [← ht2] at d1 HEQ
        rw [← hn2] at d2 HEQ
        rw [e4] at d3
        have q := neq_att s1 t1 n1 r1 s2 t2 n2 r2
        obtain ⟨eq, heq⟩ : ∃ x, x = (s1.toList == s2.toList && t1 == t2 && n1 == n2 && r1.toList == r2.toList) := ⟨_, rfl⟩
        rw [← heq] at q HEQ
        have HE := Lib.hid HEQ
        have HUK := Lib.hid (show us[k]? = some U by rw [hU]; exact List.getElem?_eq_getElem hku)
        have HVK := Lib.hid (show vs[k]? = some V by rw [hV]; exact List.getElem?_eq_getElem hkv)
        subst hg
        subst hg2
        clear hc hc2 hU hV e1 e2 e3 e4 f1 f2 f3 f4 HEQ ht1 hn1 ht2 hn2 heq
        cases eq
        · have HF := Lib.hid (show res = false by rw [HR.out]; exact eqL_no HUK.out HVK.out HE.out.symm)
          go_wp2_with fail
          go_region
          all_goals
            go_wp2_with fail
            go_ret
            exact ⟨by rw [HF.out]; rfl, HBB.out.drew⟩
        · have HF := Lib.hid (eqL_more hall.out HUK.out HVK.out HE.out.symm)
          go_wp2_with fail
          go_region
          all_goals
            go_wp2_with fail
            go_roundw
            case rel => exact ⟨k + 1, by omega, by go_num, HF, HBB.out.drew⟩
            case measure => simp [intOf]; omega
      · have hlz : ¬ (k : Int) < (n : Int) := by omega
        have HF := Lib.hid (show res = true by
          rw [HR.out]
          exact eqL_yes (HN.out.symm.trans HN2.out) fun i u v hi => hall.out i u v (by have := HN.out; omega))
        go_wp2_with fail
        go_ret
        exact ⟨by rw [HF.out]; rfl, HBB.out⟩
  · have HF := Lib.hid (show res = false by rw [hres]; exact eqL_len hl)
    have hlz : ¬ (us.length : Int) = (vs.length : Int) := by omega
    clear hA hB hres hn
    go_enter Tryz.func22, Tryz.ntmps22
    go_wp2_with fail
    go_ret
    exact ⟨by rw [HF.out]; rfl, Below.refl _ _⟩

def SameOk (f : Flt) : Prop := ∀ (g : Flt) (a : Option Addr) (c : Nat) (b : Option Addr) (d : Nat) (a' : Option Addr) (c' : Nat) (b' : Option Addr) (d' : Nat) (w : World), FltAt w (Old w.heap.size) f a b → FltAt w (Old w.heap.size) g a' b' →
  Calls Tryz.prog 10 #[.agg #[.int .i64 f.kind, bs f.name, bs f.op, .slice a f.vals.length c, .slice b f.parts.length d], .agg #[.int .i64 g.kind, bs g.name, bs g.op, .slice a' g.vals.length c', .slice b' g.parts.length d']] w fun e w' => e = .returned (.bool (sameB f g)) ∧ Below w.heap.size w w'
set_option maxHeartbeats 2000000 in
set_option maxRecDepth 100000 in
theorem equalFunc_any (ps qs : List Flt) (ih : ∀ q ∈ ps, SameOk q) (a b : Option Addr) (c d : Nat) (w : World) (hl1 : ps.length ≤ 9223372036854775807) (hA : PartsAt w (Old w.heap.size) a 0 ps) (hB : PartsAt w (Old w.heap.size) b 0 qs) :
    Calls Tryz.prog 23 #[.slice a ps.length c, .slice b qs.length d, .func (.func 10) #[] #[]] w fun e w' => e = .returned (.bool (sameL ps qs)) ∧ Below w.heap.size w w' := by
  have HA := Lib.hid hA
  have HB := Lib.hid hB
  have IH := Lib.hid ih
  rw [sameL_eq]
  obtain ⟨n, hn⟩ : ∃ n, n = ps.length := ⟨_, rfl⟩
  have hm : n ≤ 9223372036854775807 := by omega
  obtain ⟨res, hres⟩ : ∃ x, x = eqL sameB ps qs := ⟨_, rfl⟩
  have HR := Lib.hid hres
  rw [← hres]
  by_cases hl : ps.length = qs.length
  · have HN := Lib.hid hn
    have HN2 := Lib.hid (hn.trans hl)
    rw [← hl, ← hn]
    clear hl hn hA hB hres ih hl1
    go_enter Tryz.func23, Tryz.ntmps23
    go_wp2_with fail
    go_loopw [17] (fun vi wr => EqR sameB ps qs w vi wr) (fun vi _ => n - (intOf vi).toNat)
    case atStart => exact ⟨0, Nat.zero_le _, rfl, Lib.hid (fun i u v h => absurd h (Nat.not_lt_zero _)), Below.refl _ _⟩
    case round =>
      obtain ⟨k, hk, rfl, hall, hBB⟩ := hrel
      have HK := Lib.hid hk
      have HBB := Lib.hid hBB
      clear hk hBB
      by_cases hlt : k < n
      · have hlz : (k : Int) < (n : Int) := by omega
        have hku : k < ps.length := by rw [← HN.out]; exact hlt
        have hkv : k < qs.length := by rw [← HN2.out]; exact hlt
        obtain ⟨g, o, a1, c1, b1, d1, hg, hgl, h5, hf⟩ := (HA.out.later HBB.out).get k hku
        obtain ⟨g2, o2, a2, c2, b2, d2, hg2, hgl2, h52, hf2⟩ := (HB.out.later HBB.out).get k hkv
        obtain ⟨U, hU⟩ : ∃ V, V = ps[k] := ⟨_, rfl⟩
        obtain ⟨V, hV⟩ : ∃ V, V = qs[k] := ⟨_, rfl⟩
        rw [← hU] at h5 hf
        rw [← hV] at h52 hf2
        have HUK := Lib.hid (show ps[k]? = some U by rw [hU]; exact List.getElem?_eq_getElem hku)
        have HVK := Lib.hid (show qs[k]? = some V by rw [hV]; exact List.getElem?_eq_getElem hkv)
        have CI := Lib.hid (fun W h1 h2 => IH.out U (List.mem_of_getElem? HUK.out) V a1 c1 b1 d1 a2 c2 b2 d2 W h1 h2)
        obtain ⟨eq, heq⟩ : ∃ x, x = sameB U V := ⟨_, rfl⟩
        rw [← heq] at CI
        have HE := Lib.hid heq
        have HF1 := Lib.hid hf
        have HF2 := Lib.hid hf2
        have hgw : g < wr.heap.size := Nat.lt_of_lt_of_le hgl HBB.out.size
        have hgw2 : g2 < wr.heap.size := Nat.lt_of_lt_of_le hgl2 HBB.out.size
        subst hg
        subst hg2
        clear hU hV hf hf2 hgl hgl2 heq
        obtain ⟨e0, e1, e2, e3, e4⟩ := h5
        rw [Nat.zero_add] at e0 e1 e2 e3 e4
        obtain ⟨un, hun, _⟩ := bs_bytes U.name
        obtain ⟨uo, huo, _⟩ := bs_bytes U.op
        rw [hun] at e1 CI
        rw [huo] at e2 CI
        obtain ⟨uk, huk⟩ : ∃ x, x = U.kind := ⟨_, rfl⟩
        obtain ⟨ul, hul⟩ : ∃ x, x = U.vals.length := ⟨_, rfl⟩
        obtain ⟨up, hup⟩ : ∃ x, x = U.parts.length := ⟨_, rfl⟩
        rw [← huk] at e0 CI
        rw [← hul] at e3 CI
        rw [← hup] at e4 CI
        clear hun huo huk hul hup
        obtain ⟨x0, x1, x2, x3, x4⟩ := h52
        rw [Nat.zero_add] at x0 x1 x2 x3 x4
        obtain ⟨vn, hvn, _⟩ := bs_bytes V.name
        obtain ⟨vo, hvo, _⟩ := bs_bytes V.op
        rw [hvn] at x1 CI
        rw [hvo] at x2 CI
        obtain ⟨vk, hvk⟩ : ∃ x, x = V.kind := ⟨_, rfl⟩
        obtain ⟨vl, hvl⟩ : ∃ x, x = V.vals.length := ⟨_, rfl⟩
        obtain ⟨vp, hvp⟩ : ∃ x, x = V.parts.length := ⟨_, rfl⟩
        rw [← hvk] at x0 CI
        rw [← hvl] at x3 CI
        rw [← hvp] at x4 CI
        clear hvn hvo hvk hvl hvp
        have WA := Lib.hid (show ∀ W, Below w.heap.size wr W → FltAt W (Old W.heap.size) U a1 b1 ∧ FltAt W (Old W.heap.size) V a2 b2 from fun W hW =>
          ⟨(HF1.out.later hW).wide (Nat.le_trans HBB.out.size hW.size), (HF2.out.later hW).wide (Nat.le_trans HBB.out.size hW.size)⟩)
        have WB := Lib.hid (show ∀ o1 o2, Below w.heap.size wr ((wr.alloc o1).alloc o2) from fun o1 o2 => ((Below.refl _ _).alloc HBB.out.size _).alloc (Nat.le_trans HBB.out.size (by simp)) _)
        cases eq
        · have HF := Lib.hid (show res = false by rw [HR.out]; exact eqL_no HUK.out HVK.out HE.out.symm)
          go_wp2_with (go_at_call 10; refine Calls.mono (CI.out _ (WA.out _ (WB.out _ _)).1 (WA.out _ (WB.out _ _)).2) ?_; rintro e w1 ⟨rfl, hb⟩; have HB1 := Lib.hid ((HBB.out.trans (WB.out _ _)).trans (hb.mono (Nat.le_trans HBB.out.size (WB.out _ _).size))); clear hb)
          go_ret
          exact ⟨by rw [HF.out]; rfl, HB1.out⟩
        · have HF := Lib.hid (eqL_more hall.out HUK.out HVK.out HE.out.symm)
          go_wp2_with (go_at_call 10; refine Calls.mono (CI.out _ (WA.out _ (WB.out _ _)).1 (WA.out _ (WB.out _ _)).2) ?_; rintro e w1 ⟨rfl, hb⟩; have HB1 := Lib.hid ((HBB.out.trans (WB.out _ _)).trans (hb.mono (Nat.le_trans HBB.out.size (WB.out _ _).size))); clear hb)
          go_roundw
          case rel => exact ⟨k + 1, by omega, by go_num, HF, HB1.out⟩
          case measure => simp [intOf]; omega
      · have hlz : ¬ (k : Int) < (n : Int) := by omega
        have HF := Lib.hid (show res = true by
          rw [HR.out]
          exact eqL_yes (HN.out.symm.trans HN2.out) fun i u v hi => hall.out i u v (by have := HN.out; omega))
        go_wp2_with fail
        go_ret
        exact ⟨by rw [HF.out]; rfl, HBB.out⟩
  · have HF := Lib.hid (show res = false by rw [hres]; exact eqL_len hl)
    have hlz : ¬ (ps.length : Int) = (qs.length : Int) := by omega
    clear hA hB hres hn ih
    go_enter Tryz.func23, Tryz.ntmps23
    go_wp2_with fail
    go_ret
    exact ⟨by rw [HF.out]; rfl, Below.refl _ _⟩
end Go.Proofs.YtjffnjiggcfhcaaGreatDoor.Fl
