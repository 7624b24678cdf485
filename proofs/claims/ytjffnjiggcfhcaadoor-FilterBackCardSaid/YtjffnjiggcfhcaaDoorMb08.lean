/-
  Blocks that a call has made, and one that it may write: what is carried from world to world. No function of the program here.
-/
import Derived.Test.YtjffnjiggcfhcaaDoorMb07
import Derived.Test.YtjffnjiggcfhcaaDoorMb06
import Derived.Maps.AppendAt
/-
  Contracts of isBare, isLeaf, isWhole of package filter: has a filter all that its kind asks for, and nothing else, but for its parts' own fields? Memory that was there is left as it was.
-/
namespace Go.Proofs.YtjffnjiggcfhcaaDoor.Fl
open Go.RowKit Go.Proofs.YtjffnjiggcfhcaaDoor.Tk
set_option linter.unusedVariables false
set_option linter.unusedSimpArgs false

section
variable {w W w1 : World} {N g : Nat} {x0 x1 x2 x3 x4 : Value}
/-- A new block of five cells. -/
theorem k5_new (w : World) (x0 x1 x2 x3 x4 : Value) (t : TypeId) :
    (w.alloc (.cells #[x0, x1, x2, x3, x4] t)).cell? ⟨w.heap.size, 0, none⟩ = some x0 ∧ (w.alloc (.cells #[x0, x1, x2, x3, x4] t)).cell? ⟨w.heap.size, 1, none⟩ = some x1 ∧ (w.alloc (.cells #[x0, x1, x2, x3, x4] t)).cell? ⟨w.heap.size, 2, none⟩ = some x2 ∧ (w.alloc (.cells #[x0, x1, x2, x3, x4] t)).cell? ⟨w.heap.size, 3, none⟩ = some x3 ∧ (w.alloc (.cells #[x0, x1, x2, x3, x4] t)).cell? ⟨w.heap.size, 4, none⟩ = some x4 ∧ w.heap.size ≤ (w.alloc (.cells #[x0, x1, x2, x3, x4] t)).heap.size ∧ Below w.heap.size w (w.alloc (.cells #[x0, x1, x2, x3, x4] t)) := by
  refine ⟨?_, ?_, ?_, ?_, ?_, ?_, (Below.refl _ _).alloc (Nat.le_refl _) _⟩ <;> simp [go_sem]
theorem k5_keep (hb : Below W.heap.size W w1) (h : W.cell? ⟨g, 0, none⟩ = some x0 ∧ W.cell? ⟨g, 1, none⟩ = some x1 ∧ W.cell? ⟨g, 2, none⟩ = some x2 ∧ W.cell? ⟨g, 3, none⟩ = some x3 ∧ W.cell? ⟨g, 4, none⟩ = some x4 ∧ N ≤ W.heap.size ∧ Below N w W) :
    w1.cell? ⟨g, 0, none⟩ = some x0 ∧ w1.cell? ⟨g, 1, none⟩ = some x1 ∧ w1.cell? ⟨g, 2, none⟩ = some x2 ∧ w1.cell? ⟨g, 3, none⟩ = some x3 ∧ w1.cell? ⟨g, 4, none⟩ = some x4 ∧ N ≤ w1.heap.size ∧ Below N w w1 :=
  Kp.one hb (Kp.two hb (Kp.two hb (Kp.ends hb))) h
theorem k5_end (h : W.cell? ⟨g, 0, none⟩ = some x0 ∧ W.cell? ⟨g, 1, none⟩ = some x1 ∧ W.cell? ⟨g, 2, none⟩ = some x2 ∧ W.cell? ⟨g, 3, none⟩ = some x3 ∧ W.cell? ⟨g, 4, none⟩ = some x4 ∧ N ≤ W.heap.size ∧ Below N w W) : Below N w W := h.2.2.2.2.2.2
theorem AttsAt.fit {a : Option Addr} {vs : List Att} (h : AttsAt w (Old w.heap.size) a vs) (hB : Below w.heap.size w W) : AttsAt W (Old W.heap.size) a vs := h.far fun i hi => ⟨Nat.lt_of_lt_of_le hi hB.size, hB.block i hi⟩
theorem FltAt.fit {f : Flt} {a b : Option Addr} (h : FltAt w (Old w.heap.size) f a b) (hB : Below w.heap.size w W) : FltAt W (Old W.heap.size) f a b := (h.later hB).wide hB.size
theorem PartsAt.fit {j : Nat} {ps : List Flt} {b : Option Addr} (h : PartsAt w (Old w.heap.size) b j ps) (hB : Below w.heap.size w W) : PartsAt W (Old W.heap.size) b j ps := PartsAt.far (fun i hi => ⟨Nat.lt_of_lt_of_le hi hB.size, hB.block i hi⟩) ps h
theorem laid_fit (h : LaidE w) (hB : Below w.heap.size w W) : LaidE W := h.later hB
end

def bareB (n o : List UInt8) (vs : List Att) : Bool := n == [] && o == [] && decide (vs.length = 0)
def leafQ (n : List UInt8) (vs : List Att) (lp : Nat) : Bool := decide (lp = 0) && nameB n && decide (vs.length ≤ 20) && vs.all valB
def firstText : List Att → Bool
  | [] => false
  | v :: _ => v.text
def wholeB (k : Int) (n o : List UInt8) (vs : List Att) (lp : Nat) : Bool :=
  if k = 1 ∨ k = 2 then bareB n o vs && decide (2 ≤ lp)
  else if k = 3 then bareB n o vs && decide (lp = 1)
  else if k = 7 then bareB n o vs && decide (lp = 0)
  else if k = 4 then leafQ n vs lp && opB o && decide (vs.length = 1)
  else if k = 5 then leafQ n vs lp && o == [] && decide (vs.length = 1) && firstText vs
  else if k = 6 then leafQ n vs lp && o == [] && decide (0 < vs.length) && sortB vs
  else false
theorem nat_dec {n : Nat} {m : Nat} : decide ((n : Int) = (m : Nat)) = decide (n = m) := decide_eq_decide.2 (by omega)

theorem isBare_any (k : Int) (sn so : ByteArray) (vs : List Att) (a : Option Addr) (c : Nat) (lp : Nat) (b : Option Addr) (d : Nat) (w : World) : Calls Tryd.prog 39 #[.agg #[.int .i64 k, .string sn, .string so, .slice a vs.length c, .slice b lp d]] w fun e w' => e = .returned (.bool (bareB sn.data.toList so.data.toList vs)) ∧ Below w.heap.size w w' := by
  have HV := Lib.hid (show bareB sn.data.toList so.data.toList vs = (sn.toList == [] && so.toList == [] && decide (vs.length = 0)) by rw [← Lib.toList_data, ← Lib.toList_data]; rfl)
  obtain ⟨n, hn⟩ : ∃ n, n = vs.length := ⟨_, rfl⟩
  obtain ⟨res, hres⟩ : ∃ r, bareB sn.data.toList so.data.toList vs = r := ⟨_, rfl⟩
  rw [hres] at HV ⊢
  rw [← hn] at HV ⊢
  clear hres hn
  go_enter Tryd.func39, Tryd.ntmps39
  go_wp2
  all_goals (go_ret; exact ⟨by rw [HV.out]; clear HV; by_cases h0 : n = 0 <;> simp_all, (Below.refl _ _).alloc (Nat.le_refl _) _⟩)

set_option maxHeartbeats 1000000 in
set_option maxRecDepth 100000 in
theorem isLeaf_any (k : Int) (sn so : ByteArray) (vs : List Att) (a : Option Addr) (c : Nat) (lp : Nat) (b : Option Addr) (d : Nat) (w : World) (hE : LaidE w) (hA : AttsAt w (Old w.heap.size) a vs) : Calls Tryd.prog 40 #[.agg #[.int .i64 k, .string sn, .string so, .slice a vs.length c, .slice b lp d]] w fun e w' => e = .returned (.bool (leafQ sn.data.toList vs lp)) ∧ Below w.heap.size w w' := by
  have K := k5_new w (.int .i64 k) (.string sn) (.string so) (.slice a vs.length c) (.slice b lp d) 25
  have HE := Lib.hid hE
  have HA := Lib.hid hA
  have CN := Lib.hid (fun W (hW : LaidE W) => isName_any sn W hW)
  have CC := Lib.hid (fun W (hW : AttsAt W (Old W.heap.size) a vs) => contains_any vs a c W hW)
  obtain ⟨nm, hnm⟩ : ∃ r, nameB sn.data.toList = r := ⟨_, rfl⟩
  obtain ⟨al, hal⟩ : ∃ r, vs.all valB = r := ⟨_, rfl⟩
  have HV := Lib.hid (show leafQ sn.data.toList vs lp = (decide (lp = 0) && nm && decide (vs.length ≤ 20) && al) by rw [← hnm, ← hal]; rfl)
  obtain ⟨res, hres⟩ : ∃ r, leafQ sn.data.toList vs lp = r := ⟨_, rfl⟩
  rw [hnm] at CN
  rw [hal] at CC
  obtain ⟨n, hn⟩ : ∃ n, n = vs.length := ⟨_, rfl⟩
  rw [hres] at HV ⊢
  rw [← hn] at HV CC K ⊢
  clear hres hnm hal hn hE hA
  by_cases h0 : lp = 0
  · subst h0
    cases nm
    · have HF := Lib.hid (show res = false by rw [HV.out]; simp)
      go_enter Tryd.func40, Tryd.ntmps40
      go_wp2_with (go_at_call 57; refine Calls.mono (CN.out _ (laid_fit HE.out (k5_end (by assumption)))) ?_; rintro e w1 ⟨rfl, hb1⟩; have K1 := k5_keep hb1 (by assumption); clear hb1)
      go_ret
      exact ⟨by rw [HF.out]; rfl, k5_end (by assumption)⟩
    · by_cases h20 : n ≤ 20
      · have h20z : (n : Int) ≤ 20 := by omega
        have HF := Lib.hid (show res = al by rw [HV.out, decide_eq_true h20]; simp)
        go_enter Tryd.func40, Tryd.ntmps40
        go_wp2_with (first | (go_at_call 57; refine Calls.mono (CN.out _ (laid_fit HE.out (k5_end (by assumption)))) ?_; rintro e w1 ⟨rfl, hb1⟩; have K1 := k5_keep hb1 (by assumption); clear hb1) | (go_at_call 58; refine Calls.mono (CC.out _ (HA.out.fit (k5_end (by assumption)))) ?_; rintro e w2 ⟨rfl, hb1⟩; have K2 := k5_keep hb1 (by assumption); clear hb1))
        go_ret
        exact ⟨by rw [HF.out]; first | rfl | simp, k5_end (by assumption)⟩
      · have h20z : ¬ (n : Int) ≤ 20 := by omega
        have HF := Lib.hid (show res = false by rw [HV.out, decide_eq_false h20]; simp)
        go_enter Tryd.func40, Tryd.ntmps40
        go_wp2_with (go_at_call 57; refine Calls.mono (CN.out _ (laid_fit HE.out (k5_end (by assumption)))) ?_; rintro e w1 ⟨rfl, hb1⟩; have K1 := k5_keep hb1 (by assumption); clear hb1)
        go_ret
        exact ⟨by rw [HF.out]; rfl, k5_end (by assumption)⟩
  · have h0z : ¬ (lp : Int) = 0 := by omega
    have HF := Lib.hid (show res = false by rw [HV.out, decide_eq_false h0]; rfl)
    go_enter Tryd.func40, Tryd.ntmps40
    go_wp2_with fail
    go_ret
    exact ⟨by rw [HF.out]; rfl, k5_end (by assumption)⟩

set_option maxHeartbeats 1000000 in
theorem whole1 (sn so : ByteArray) (vs : List Att) (a : Option Addr) (c : Nat) (lp : Nat) (b : Option Addr) (d : Nat) (w : World) (hE : LaidE w) (hA : AttsAt w (Old w.heap.size) a vs) : Calls Tryd.prog 25 #[.agg #[.int .i64 1, .string sn, .string so, .slice a vs.length c, .slice b lp d]] w fun e w' => e = .returned (.bool (wholeB 1 sn.data.toList so.data.toList vs lp)) ∧ Below w.heap.size w w' := by
  have K := k5_new w (.int .i64 1) (.string sn) (.string so) (.slice a vs.length c) (.slice b lp d) 25
  have HE := Lib.hid hE
  have HA := Lib.hid hA
  have CB := Lib.hid (fun W => isBare_any 1 sn so vs a c lp b d W)
  obtain ⟨ba, hba⟩ : ∃ r, bareB sn.data.toList so.data.toList vs = r := ⟨_, rfl⟩
  have HV := Lib.hid (show wholeB 1 sn.data.toList so.data.toList vs lp = (ba && decide (2 ≤ lp)) by rw [← hba]; rfl)
  obtain ⟨res, hres⟩ : ∃ r, wholeB 1 sn.data.toList so.data.toList vs lp = r := ⟨_, rfl⟩
  rw [hba] at CB
  obtain ⟨n, hn⟩ : ∃ n, n = vs.length := ⟨_, rfl⟩
  rw [hres] at HV ⊢
  rw [← hn] at CB K ⊢
  clear hres hba hE hA hn
  cases ba
  · go_enter Tryd.func25, Tryd.ntmps25
    go_wp2_with (go_at_call 39; refine Calls.mono (CB.out _) ?_; rintro e w1 ⟨rfl, hb1⟩; have K1 := k5_keep hb1 (by assumption); clear hb1)
    go_ret
    exact ⟨by rw [HV.out]; rfl, k5_end (by assumption)⟩
  · have HZ := Lib.hid (show decide (2 ≤ lp) = decide ((2 : Int) ≤ lp) from decide_eq_decide.2 (by omega))
    go_enter Tryd.func25, Tryd.ntmps25
    go_wp2_with (go_at_call 39; refine Calls.mono (CB.out _) ?_; rintro e w1 ⟨rfl, hb1⟩; have K1 := k5_keep hb1 (by assumption); clear hb1)
    go_ret
    exact ⟨by rw [HV.out, HZ.out]; first | rfl | simp, k5_end (by assumption)⟩

set_option maxHeartbeats 1000000 in
theorem whole2 (sn so : ByteArray) (vs : List Att) (a : Option Addr) (c : Nat) (lp : Nat) (b : Option Addr) (d : Nat) (w : World) (hE : LaidE w) (hA : AttsAt w (Old w.heap.size) a vs) : Calls Tryd.prog 25 #[.agg #[.int .i64 2, .string sn, .string so, .slice a vs.length c, .slice b lp d]] w fun e w' => e = .returned (.bool (wholeB 2 sn.data.toList so.data.toList vs lp)) ∧ Below w.heap.size w w' := by
  have K := k5_new w (.int .i64 2) (.string sn) (.string so) (.slice a vs.length c) (.slice b lp d) 25
  have HE := Lib.hid hE
  have HA := Lib.hid hA
  have CB := Lib.hid (fun W => isBare_any 2 sn so vs a c lp b d W)
  obtain ⟨ba, hba⟩ : ∃ r, bareB sn.data.toList so.data.toList vs = r := ⟨_, rfl⟩
  have HV := Lib.hid (show wholeB 2 sn.data.toList so.data.toList vs lp = (ba && decide (2 ≤ lp)) by rw [← hba]; rfl)
  obtain ⟨res, hres⟩ : ∃ r, wholeB 2 sn.data.toList so.data.toList vs lp = r := ⟨_, rfl⟩
  rw [hba] at CB
  obtain ⟨n, hn⟩ : ∃ n, n = vs.length := ⟨_, rfl⟩
  rw [hres] at HV ⊢
  rw [← hn] at CB K ⊢
  clear hres hba hE hA hn
  cases ba
  · go_enter Tryd.func25, Tryd.ntmps25
    go_wp2_with (go_at_call 39; refine Calls.mono (CB.out _) ?_; rintro e w1 ⟨rfl, hb1⟩; have K1 := k5_keep hb1 (by assumption); clear hb1)
    go_ret
    exact ⟨by rw [HV.out]; rfl, k5_end (by assumption)⟩
  · have HZ := Lib.hid (show decide (2 ≤ lp) = decide ((2 : Int) ≤ lp) from decide_eq_decide.2 (by omega))
    go_enter Tryd.func25, Tryd.ntmps25
    go_wp2_with (go_at_call 39; refine Calls.mono (CB.out _) ?_; rintro e w1 ⟨rfl, hb1⟩; have K1 := k5_keep hb1 (by assumption); clear hb1)
    go_ret
    exact ⟨by rw [HV.out, HZ.out]; first | rfl | simp, k5_end (by assumption)⟩

set_option maxHeartbeats 1000000 in
theorem whole3 (sn so : ByteArray) (vs : List Att) (a : Option Addr) (c : Nat) (lp : Nat) (b : Option Addr) (d : Nat) (w : World) (hE : LaidE w) (hA : AttsAt w (Old w.heap.size) a vs) : Calls Tryd.prog 25 #[.agg #[.int .i64 3, .string sn, .string so, .slice a vs.length c, .slice b lp d]] w fun e w' => e = .returned (.bool (wholeB 3 sn.data.toList so.data.toList vs lp)) ∧ Below w.heap.size w w' := by
  have K := k5_new w (.int .i64 3) (.string sn) (.string so) (.slice a vs.length c) (.slice b lp d) 25
  have HE := Lib.hid hE
  have HA := Lib.hid hA
  have CB := Lib.hid (fun W => isBare_any 3 sn so vs a c lp b d W)
  obtain ⟨ba, hba⟩ : ∃ r, bareB sn.data.toList so.data.toList vs = r := ⟨_, rfl⟩
  have HV := Lib.hid (show wholeB 3 sn.data.toList so.data.toList vs lp = (ba && decide (lp = 1)) by rw [← hba]; rfl)
  obtain ⟨res, hres⟩ : ∃ r, wholeB 3 sn.data.toList so.data.toList vs lp = r := ⟨_, rfl⟩
  rw [hba] at CB
  obtain ⟨n, hn⟩ : ∃ n, n = vs.length := ⟨_, rfl⟩
  rw [hres] at HV ⊢
  rw [← hn] at CB K ⊢
  clear hres hba hE hA hn
  cases ba
  · go_enter Tryd.func25, Tryd.ntmps25
    go_wp2_with (go_at_call 39; refine Calls.mono (CB.out _) ?_; rintro e w1 ⟨rfl, hb1⟩; have K1 := k5_keep hb1 (by assumption); clear hb1)
    go_ret
    exact ⟨by rw [HV.out]; rfl, k5_end (by assumption)⟩
  · have HZ := Lib.hid (show decide (lp = 1) = decide ((lp : Int) = 1) from decide_eq_decide.2 (by omega))
    go_enter Tryd.func25, Tryd.ntmps25
    go_wp2_with (go_at_call 39; refine Calls.mono (CB.out _) ?_; rintro e w1 ⟨rfl, hb1⟩; have K1 := k5_keep hb1 (by assumption); clear hb1)
    go_ret
    exact ⟨by rw [HV.out, HZ.out]; first | rfl | simp, k5_end (by assumption)⟩

set_option maxHeartbeats 1000000 in
theorem whole7 (sn so : ByteArray) (vs : List Att) (a : Option Addr) (c : Nat) (lp : Nat) (b : Option Addr) (d : Nat) (w : World) (hE : LaidE w) (hA : AttsAt w (Old w.heap.size) a vs) : Calls Tryd.prog 25 #[.agg #[.int .i64 7, .string sn, .string so, .slice a vs.length c, .slice b lp d]] w fun e w' => e = .returned (.bool (wholeB 7 sn.data.toList so.data.toList vs lp)) ∧ Below w.heap.size w w' := by
  have K := k5_new w (.int .i64 7) (.string sn) (.string so) (.slice a vs.length c) (.slice b lp d) 25
  have HE := Lib.hid hE
  have HA := Lib.hid hA
  have CB := Lib.hid (fun W => isBare_any 7 sn so vs a c lp b d W)
  obtain ⟨ba, hba⟩ : ∃ r, bareB sn.data.toList so.data.toList vs = r := ⟨_, rfl⟩
  have HV := Lib.hid (show wholeB 7 sn.data.toList so.data.toList vs lp = (ba && decide (lp = 0)) by rw [← hba]; rfl)
  obtain ⟨res, hres⟩ : ∃ r, wholeB 7 sn.data.toList so.data.toList vs lp = r := ⟨_, rfl⟩
  rw [hba] at CB
  obtain ⟨n, hn⟩ : ∃ n, n = vs.length := ⟨_, rfl⟩
  rw [hres] at HV ⊢
  rw [← hn] at CB K ⊢
  clear hres hba hE hA hn
  cases ba
  · go_enter Tryd.func25, Tryd.ntmps25
    go_wp2_with (go_at_call 39; refine Calls.mono (CB.out _) ?_; rintro e w1 ⟨rfl, hb1⟩; have K1 := k5_keep hb1 (by assumption); clear hb1)
    go_ret
    exact ⟨by rw [HV.out]; rfl, k5_end (by assumption)⟩
  · have HZ := Lib.hid (show decide (lp = 0) = decide ((lp : Int) = 0) from decide_eq_decide.2 (by omega))
    go_enter Tryd.func25, Tryd.ntmps25
    go_wp2_with (go_at_call 39; refine Calls.mono (CB.out _) ?_; rintro e w1 ⟨rfl, hb1⟩; have K1 := k5_keep hb1 (by assumption); clear hb1)
    go_ret
    exact ⟨by rw [HV.out, HZ.out]; first | rfl | simp, k5_end (by assumption)⟩

set_option maxHeartbeats 1000000 in
theorem whole4 (sn so : ByteArray) (vs : List Att) (a : Option Addr) (c : Nat) (lp : Nat) (b : Option Addr) (d : Nat) (w : World) (hE : LaidE w) (hA : AttsAt w (Old w.heap.size) a vs) : Calls Tryd.prog 25 #[.agg #[.int .i64 4, .string sn, .string so, .slice a vs.length c, .slice b lp d]] w fun e w' => e = .returned (.bool (wholeB 4 sn.data.toList so.data.toList vs lp)) ∧ Below w.heap.size w w' := by
  have K := k5_new w (.int .i64 4) (.string sn) (.string so) (.slice a vs.length c) (.slice b lp d) 25
  have HE := Lib.hid hE
  have HA := Lib.hid hA
  have CL := Lib.hid (fun W (h1 : LaidE W) (h2 : AttsAt W (Old W.heap.size) a vs) => isLeaf_any 4 sn so vs a c lp b d W h1 h2)
  have CO := Lib.hid (fun W => isOp_any so W)
  obtain ⟨le, hle⟩ : ∃ r, leafQ sn.data.toList vs lp = r := ⟨_, rfl⟩
  obtain ⟨op, hop⟩ : ∃ r, opB so.data.toList = r := ⟨_, rfl⟩
  have HV := Lib.hid (show wholeB 4 sn.data.toList so.data.toList vs lp = (le && op && decide (vs.length = 1)) by rw [← hle, ← hop]; rfl)
  obtain ⟨res, hres⟩ : ∃ r, wholeB 4 sn.data.toList so.data.toList vs lp = r := ⟨_, rfl⟩
  rw [hle] at CL
  rw [hop] at CO
  obtain ⟨n, hn⟩ : ∃ n, n = vs.length := ⟨_, rfl⟩
  rw [hres] at HV ⊢
  rw [← hn] at HV CL K ⊢
  clear hres hle hop hE hA hn
  cases le
  · go_enter Tryd.func25, Tryd.ntmps25
    go_wp2_with (go_at_call 40; refine Calls.mono (CL.out _ (laid_fit HE.out (k5_end (by assumption))) (HA.out.fit (k5_end (by assumption)))) ?_; rintro e w1 ⟨rfl, hb1⟩; have K1 := k5_keep hb1 (by assumption); clear hb1)
    go_ret
    exact ⟨by rw [HV.out]; rfl, k5_end (by assumption)⟩
  cases op
  · go_enter Tryd.func25, Tryd.ntmps25
    go_wp2_with (first | (go_at_call 40; refine Calls.mono (CL.out _ (laid_fit HE.out (k5_end (by assumption))) (HA.out.fit (k5_end (by assumption)))) ?_; rintro e w1 ⟨rfl, hb1⟩; have K1 := k5_keep hb1 (by assumption); clear hb1) | (go_at_call 41; refine Calls.mono (CO.out _) ?_; rintro e w2 ⟨rfl, rfl⟩))
    go_ret
    exact ⟨by rw [HV.out]; rfl, k5_end (by assumption)⟩
  · have HZ := Lib.hid (show decide (n = 1) = decide ((n : Int) = 1) from decide_eq_decide.2 (by omega))
    go_enter Tryd.func25, Tryd.ntmps25
    go_wp2_with (first | (go_at_call 40; refine Calls.mono (CL.out _ (laid_fit HE.out (k5_end (by assumption))) (HA.out.fit (k5_end (by assumption)))) ?_; rintro e w1 ⟨rfl, hb1⟩; have K1 := k5_keep hb1 (by assumption); clear hb1) | (go_at_call 41; refine Calls.mono (CO.out _) ?_; rintro e w2 ⟨rfl, rfl⟩))
    go_ret
    exact ⟨by rw [HV.out, HZ.out]; first | rfl | simp, k5_end (by assumption)⟩

set_option maxHeartbeats 1000000 in
theorem whole5 (sn so : ByteArray) (vs : List Att) (a : Option Addr) (c : Nat) (lp : Nat) (b : Option Addr) (d : Nat) (w : World) (hE : LaidE w) (hA : AttsAt w (Old w.heap.size) a vs) : Calls Tryd.prog 25 #[.agg #[.int .i64 5, .string sn, .string so, .slice a vs.length c, .slice b lp d]] w fun e w' => e = .returned (.bool (wholeB 5 sn.data.toList so.data.toList vs lp)) ∧ Below w.heap.size w w' := by
  have K := k5_new w (.int .i64 5) (.string sn) (.string so) (.slice a vs.length c) (.slice b lp d) 25
  have HE := Lib.hid hE
  have HA := Lib.hid hA
  have CL := Lib.hid (fun W (h1 : LaidE W) (h2 : AttsAt W (Old W.heap.size) a vs) => isLeaf_any 5 sn so vs a c lp b d W h1 h2)
  obtain ⟨le, hle⟩ : ∃ r, leafQ sn.data.toList vs lp = r := ⟨_, rfl⟩
  have HV := Lib.hid (show wholeB 5 sn.data.toList so.data.toList vs lp = (le && so.toList == [] && decide (vs.length = 1) && firstText vs) by rw [Lib.toList_data, ← hle]; rfl)
  obtain ⟨res, hres⟩ : ∃ r, wholeB 5 sn.data.toList so.data.toList vs lp = r := ⟨_, rfl⟩
  rw [hle] at CL
  rw [hres] at HV ⊢
  clear hres hle hE hA
  cases le
  · obtain ⟨n, hn⟩ : ∃ n, n = vs.length := ⟨_, rfl⟩
    rw [← hn] at CL K ⊢
    clear hn
    go_enter Tryd.func25, Tryd.ntmps25
    go_wp2_with (go_at_call 40; refine Calls.mono (CL.out _ (laid_fit HE.out (k5_end (by assumption))) (HA.out.fit (k5_end (by assumption)))) ?_; rintro e w1 ⟨rfl, hb1⟩; have K1 := k5_keep hb1 (by assumption); clear hb1)
    go_ret
    exact ⟨by rw [HV.out]; rfl, k5_end (by assumption)⟩
  by_cases h1 : vs.length = 1
  · obtain ⟨v, rfl⟩ : ∃ v, vs = [v] := by
      match vs, h1 with
      | [v], _ => exact ⟨v, rfl⟩
    obtain ⟨g, p, rfl, hg, hc⟩ := HA.out.2.2 (by simp)
    obtain ⟨_, c1, _, _⟩ := hc 0 (by simp)
    simp only [List.getElem_cons_zero, Nat.zero_mul, Nat.add_zero] at c1
    have HC1 := Lib.hid c1
    have HG := Lib.hid (show g < w.heap.size from hg)
    clear c1 hc hg h1
    have FX := Lib.hid (fun W (hB : Below w.heap.size w W) => (hB.cell (p := ⟨g, p + 1, none⟩) HG.out).trans HC1.out)
    have HV2 := Lib.hid (show res = (so.toList == [] && v.text) by rw [HV.out]; simp [firstText])
    obtain ⟨tx, htx⟩ : ∃ t, t = v.text := ⟨_, rfl⟩
    rw [← htx] at FX HV2
    clear htx HV
    simp only [List.length_cons, List.length_nil, Nat.zero_add] at K CL ⊢
    go_enter Tryd.func25, Tryd.ntmps25
    go_wp2_with (go_at_call 40; refine Calls.mono (CL.out _ (laid_fit HE.out (k5_end (by assumption))) (HA.out.fit (k5_end (by assumption)))) ?_; rintro e w1 ⟨rfl, hb1⟩; have K1 := k5_keep hb1 (by assumption); have X1 := FX.out _ (k5_end K1); clear hb1)
    all_goals go_ret
    all_goals exact ⟨by rw [HV2.out]; clear HV2 CL HE HA FX HC1 HG; first | rfl | simp_all, k5_end (by assumption)⟩
  · have h1z : ¬ (vs.length : Int) = 1 := by omega
    have HF := Lib.hid (show res = false by rw [HV.out, decide_eq_false h1]; simp)
    obtain ⟨n, hn⟩ : ∃ n, n = vs.length := ⟨_, rfl⟩
    rw [← hn] at CL K h1z ⊢
    clear hn h1 HV
    go_enter Tryd.func25, Tryd.ntmps25
    go_wp2_with (go_at_call 40; refine Calls.mono (CL.out _ (laid_fit HE.out (k5_end (by assumption))) (HA.out.fit (k5_end (by assumption)))) ?_; rintro e w1 ⟨rfl, hb1⟩; have K1 := k5_keep hb1 (by assumption); clear hb1)
    all_goals go_ret
    all_goals exact ⟨by rw [HF.out]; first | rfl | simp_all, k5_end (by assumption)⟩

set_option maxHeartbeats 1000000 in
theorem whole6 (sn so : ByteArray) (vs : List Att) (a : Option Addr) (c : Nat) (lp : Nat) (b : Option Addr) (d : Nat) (w : World) (hE : LaidE w) (hA : AttsAt w (Old w.heap.size) a vs) : Calls Tryd.prog 25 #[.agg #[.int .i64 6, .string sn, .string so, .slice a vs.length c, .slice b lp d]] w fun e w' => e = .returned (.bool (wholeB 6 sn.data.toList so.data.toList vs lp)) ∧ Below w.heap.size w w' := by
  have K := k5_new w (.int .i64 6) (.string sn) (.string so) (.slice a vs.length c) (.slice b lp d) 25
  have HE := Lib.hid hE
  have HA := Lib.hid hA
  have CL := Lib.hid (fun W (h1 : LaidE W) (h2 : AttsAt W (Old W.heap.size) a vs) => isLeaf_any 6 sn so vs a c lp b d W h1 h2)
  have CS := Lib.hid (fun W (h2 : AttsAt W (Old W.heap.size) a vs) => oneSort_any vs a c W h2)
  obtain ⟨le, hle⟩ : ∃ r, leafQ sn.data.toList vs lp = r := ⟨_, rfl⟩
  obtain ⟨st, hst⟩ : ∃ r, sortB vs = r := ⟨_, rfl⟩
  have HV := Lib.hid (show wholeB 6 sn.data.toList so.data.toList vs lp = (le && so.toList == [] && decide (0 < vs.length) && st) by rw [Lib.toList_data, ← hle, ← hst]; rfl)
  obtain ⟨res, hres⟩ : ∃ r, wholeB 6 sn.data.toList so.data.toList vs lp = r := ⟨_, rfl⟩
  rw [hle] at CL
  rw [hst] at CS
  rw [hres] at HV ⊢
  obtain ⟨n, hn⟩ : ∃ n, n = vs.length := ⟨_, rfl⟩
  rw [← hn] at HV CL CS K ⊢
  clear hres hle hst hE hA hn
  cases le
  · go_enter Tryd.func25, Tryd.ntmps25
    go_wp2_with (go_at_call 40; refine Calls.mono (CL.out _ (laid_fit HE.out (k5_end (by assumption))) (HA.out.fit (k5_end (by assumption)))) ?_; rintro e w1 ⟨rfl, hb1⟩; have K1 := k5_keep hb1 (by assumption); clear hb1)
    go_ret
    exact ⟨by rw [HV.out]; rfl, k5_end (by assumption)⟩
  by_cases h1 : 0 < n
  · have h1z : (0 : Int) < n := by omega
    have HF := Lib.hid (show res = (so.toList == [] && st) by rw [HV.out, decide_eq_true h1]; simp)
    go_enter Tryd.func25, Tryd.ntmps25
    go_wp2_with (first | (go_at_call 40; refine Calls.mono (CL.out _ (laid_fit HE.out (k5_end (by assumption))) (HA.out.fit (k5_end (by assumption)))) ?_; rintro e w1 ⟨rfl, hb1⟩; have K1 := k5_keep hb1 (by assumption); clear hb1) | (go_at_call 42; refine Calls.mono (CS.out _ (HA.out.fit (k5_end (by assumption)))) ?_; rintro e w2 ⟨rfl, hb1⟩; have K2 := k5_keep hb1 (by assumption); clear hb1))
    all_goals go_ret
    all_goals exact ⟨by rw [HF.out]; clear HF HV CL CS HE HA; first | rfl | simp_all, k5_end (by assumption)⟩
  · have h1z : ¬ (0 : Int) < n := by omega
    have HF := Lib.hid (show res = false by rw [HV.out, decide_eq_false h1]; simp)
    go_enter Tryd.func25, Tryd.ntmps25
    go_wp2_with (go_at_call 40; refine Calls.mono (CL.out _ (laid_fit HE.out (k5_end (by assumption))) (HA.out.fit (k5_end (by assumption)))) ?_; rintro e w1 ⟨rfl, hb1⟩; have K1 := k5_keep hb1 (by assumption); clear hb1)
    all_goals go_ret
    all_goals exact ⟨by rw [HF.out]; clear HF HV CL CS HE HA; first | rfl | simp_all, k5_end (by assumption)⟩

theorem isWhole_any (k : Int) (sn so : ByteArray) (vs : List Att) (a : Option Addr) (c : Nat) (lp : Nat) (b : Option Addr) (d : Nat) (w : World) (hE : LaidE w) (hA : AttsAt w (Old w.heap.size) a vs) : Calls Tryd.prog 25 #[.agg #[.int .i64 k, .string sn, .string so, .slice a vs.length c, .slice b lp d]] w fun e w' => e = .returned (.bool (wholeB k sn.data.toList so.data.toList vs lp)) ∧ Below w.heap.size w w' := by
  by_cases h1 : k = 1
  · subst h1; exact whole1 sn so vs a c lp b d w hE hA
  by_cases h2 : k = 2
  · subst h2; exact whole2 sn so vs a c lp b d w hE hA
  by_cases h3 : k = 3
  · subst h3; exact whole3 sn so vs a c lp b d w hE hA
  by_cases h7 : k = 7
  · subst h7; exact whole7 sn so vs a c lp b d w hE hA
  by_cases h4 : k = 4
  · subst h4; exact whole4 sn so vs a c lp b d w hE hA
  by_cases h5 : k = 5
  · subst h5; exact whole5 sn so vs a c lp b d w hE hA
  by_cases h6 : k = 6
  · subst h6; exact whole6 sn so vs a c lp b d w hE hA
  have HF := Lib.hid (show wholeB k sn.data.toList so.data.toList vs lp = false by simp [wholeB, h1, h2, h3, h7, h4, h5, h6])
  have K := k5_new w (.int .i64 k) (.string sn) (.string so) (.slice a vs.length c) (.slice b lp d) 25
  go_enter Tryd.func25, Tryd.ntmps25
  go_wp2_with fail
  go_ret
  exact ⟨by rw [HF.out]; rfl, k5_end (by assumption)⟩
end Go.Proofs.YtjffnjiggcfhcaaDoor.Fl
/-
  Plain facts on filters' depths and numbers of nodes: may a filter be, at most so deep, with at most so many nodes? No program here.
-/
namespace Go.Proofs.YtjffnjiggcfhcaaDoor.Fl
set_option linter.unusedVariables false
set_option linter.unusedSimpArgs false

mutual
/-- How deep a filter is. -/
def dep : Flt → Nat
  | .mk _ _ _ _ l => depL l + 1
def depL : List Flt → Nat
  | [] => 0
  | p :: r => max (dep p) (depL r)
end
def mayB (f : Flt) (deep n : Nat) : Bool := fine f && decide (dep f ≤ deep) && decide (sz f ≤ n)
/-- May a filter of kind k have these parts, at most so deep, with so many nodes? -/
def okU (k : Int) (d m : Nat) (ps : List Flt) : Bool := ps.all (fun q => !(joinedB k && decide (q.kind = k)) && fine q) && decide (depL ps ≤ d) && decide (szL ps ≤ m)
theorem fineL_all (k : Int) : ∀ ps : List Flt, fineL k ps = ps.all fun q => fine q && (decide (k = 3) || !decide (q.kind = k))
  | [] => rfl
  | p :: r => by rw [fineL, fineL_all k r, List.all_cons]
theorem joined_part {k : Int} (h : k = 1 ∨ k = 2 ∨ k = 3) (q : Flt) : (fine q && (decide (k = 3) || !decide (q.kind = k))) = (!(joinedB k && decide (q.kind = k)) && fine q) := by
  rcases h with rfl | rfl | rfl
  · cases fine q <;> simp [joinedB]
  · cases fine q <;> simp [joinedB]
  · cases fine q <;> simp [joinedB]
theorem leaf_whole {k : Int} (hk : k = 4 ∨ k = 5 ∨ k = 6) (n o : List UInt8) (vs : List Att) (lp : Nat) : wholeB k n o vs lp = (leafB k n o vs && decide (lp = 0)) := by
  rcases hk with rfl | rfl | rfl
  · show (leafQ n vs lp && opB o && decide (vs.length = 1)) = _
    match vs with
    | [] => simp [leafQ, leafB]
    | [v] => simp only [leafQ, leafB]; cases decide (lp = 0) <;> cases nameB n <;> cases hv : valB v <;> cases opB o <;> simp [hv]
    | v :: u :: r => simp [leafQ, leafB]
  · show (leafQ n vs lp && o == [] && decide (vs.length = 1) && firstText vs) = _
    match vs with
    | [] => simp [leafQ, leafB]
    | [v] => simp only [leafQ, leafB, firstText]; cases decide (lp = 0) <;> cases nameB n <;> cases hv : valB v <;> cases ho : (o == []) <;> cases ht : v.text <;> simp [hv, ht, ho]
    | v :: u :: r => simp [leafQ, leafB]
  · show (leafQ n vs lp && o == [] && decide (0 < vs.length) && sortB vs) = _
    match vs with
    | [] => simp [leafQ, leafB]
    | v :: r =>
      have e1 : decide ((v :: r).length ≤ 20) = decide (r.length < 20) := decide_eq_decide.2 (by simp only [List.length_cons]; omega)
      have e2 : (r.all fun u => valB u && u.text == v.text) = (r.all valB && r.all fun u => u.text == v.text) := by
        induction r with
        | nil => rfl
        | cons u r ih =>
          have := ih (decide_eq_decide.2 (by simp only [List.length_cons]; omega))
          simp only [List.all_cons, this]
          cases valB u <;> cases (u.text == v.text) <;> cases r.all valB <;> simp
      simp only [leafQ, leafB, e1, e2, sortB, List.all_cons, if_true]
      cases decide (lp = 0) <;> cases nameB n <;> cases valB v <;> cases ho : (o == []) <;> cases decide (r.length < 20) <;> cases r.all valB <;> cases (r.all fun u => u.text == v.text) <;> simp [ho]
theorem whole_kinds {k : Int} {n o : List UInt8} {vs : List Att} {lp : Nat} (h : wholeB k n o vs lp = true) : (k = 1 ∨ k = 2 ∨ k = 3) ∨ ((k = 7 ∨ k = 4 ∨ k = 5 ∨ k = 6) ∧ lp = 0) := by
  unfold wholeB at h
  split at h
  · omega
  split at h
  · omega
  split at h
  · simp at h; omega
  split at h
  · simp [leafQ] at h; omega
  split at h
  · simp [leafQ] at h; omega
  split at h
  · simp [leafQ] at h; omega
  · cases h
theorem all_congr {ps : List Flt} {p q : Flt → Bool} (h : ∀ x, p x = q x) : ps.all p = ps.all q := by rw [funext h]
theorem fine_eq (k : Int) (n o : List UInt8) (vs : List Att) (ps : List Flt) : fine (.mk k n o vs ps) = (wholeB k n o vs ps.length && ps.all fun q => !(joinedB k && decide (q.kind = k)) && fine q) := by
  rw [fine]
  by_cases h456 : k = 4 ∨ k = 5 ∨ k = 6
  · rw [if_pos h456, leaf_whole h456]
    match ps with
    | [] => simp
    | p :: r => simp
  · rw [if_neg h456]
    by_cases h12 : k = 1 ∨ k = 2
    · rw [if_pos h12, fineL_all, all_congr (joined_part (by omega))]
      unfold wholeB bareB
      rw [if_pos h12]
      cases vs <;> simp
    · rw [if_neg h12]
      by_cases h3 : k = 3
      · rw [if_pos h3, fineL_all, all_congr (joined_part (by omega))]
        unfold wholeB bareB
        rw [if_neg h12, if_pos h3]
        cases vs <;> simp
      · rw [if_neg h3]
        unfold wholeB bareB
        rw [if_neg h12, if_neg h3]
        by_cases h7 : k = 7
        · rw [if_pos h7]
          cases ps <;> cases vs <;> simp [h7, fineL]
        · rw [if_neg h7, if_neg (by omega), if_neg (by omega), if_neg (by omega)]
          simp [h7]
theorem may_eq (k : Int) (n o : List UInt8) (vs : List Att) (ps : List Flt) (d m : Nat) : mayB (.mk k n o vs ps) (d + 1) (m + 1) = (wholeB k n o vs ps.length && okU k d m ps) := by
  unfold mayB okU
  have e1 : decide (depL ps + 1 ≤ d + 1) = decide (depL ps ≤ d) := decide_eq_decide.2 (by omega)
  have e2 : decide (szL ps + 1 ≤ m + 1) = decide (szL ps ≤ m) := decide_eq_decide.2 (by omega)
  rw [fine_eq, dep, sz, e1, e2]
  simp only [Bool.and_assoc]
theorem dep_pos (f : Flt) : 1 ≤ dep f := by cases f; rw [dep]; omega
theorem may_flat (f : Flt) (n : Nat) : mayB f 0 n = false := by
  unfold mayB
  rw [decide_eq_false (show ¬ dep f ≤ 0 by have := dep_pos f; omega)]
  simp
theorem may_none (f : Flt) (d : Nat) : mayB f d 0 = false := by
  unfold mayB
  rw [decide_eq_false (show ¬ sz f ≤ 0 by have := sz_pos f; omega)]
  simp
theorem depL_app : ∀ l m : List Flt, depL (l ++ m) = max (depL l) (depL m)
  | [], m => by simp [depL]
  | p :: r, m => by rw [List.cons_append, depL, depL, depL_app r m]; omega
theorem szL_app' : ∀ l m : List Flt, szL (l ++ m) = szL l + szL m
  | [], m => by simp [szL]
  | p :: r, m => by rw [List.cons_append, szL, szL, szL_app' r m]; omega
theorem okU_nil (k : Int) (d m : Nat) : okU k d m [] = true := by simp [okU, depL, szL]
theorem okU_snoc {k : Int} {d m : Nat} {l : List Flt} (h : okU k d m l = true) (q : Flt) : okU k d m (l ++ [q]) = (!(joinedB k && decide (q.kind = k)) && mayB q d (m - szL l)) := by
  unfold okU mayB at *
  simp only [Bool.and_eq_true, decide_eq_true_eq] at h
  obtain ⟨⟨h1, h2⟩, h3⟩ := h
  have e1 : depL (l ++ [q]) = max (depL l) (dep q) := by rw [depL_app, depL, depL]; omega
  have e2 : szL (l ++ [q]) = szL l + sz q := by rw [szL_app', szL, szL]; omega
  have e3 : decide (max (depL l) (dep q) ≤ d) = decide (dep q ≤ d) := decide_eq_decide.2 (by omega)
  have e4 : decide (szL l + sz q ≤ m) = decide (sz q ≤ m - szL l) := decide_eq_decide.2 (by omega)
  rw [List.all_append, h1, Bool.true_and, e1, e2, e3, e4]
  simp only [List.all_cons, List.all_nil, Bool.and_true, Bool.and_assoc]
theorem okU_front {k : Int} {d m : Nat} {l r : List Flt} (h : okU k d m (l ++ r) = true) : okU k d m l = true := by
  unfold okU at *
  rw [List.all_append, depL_app, szL_app'] at h
  simp only [Bool.and_eq_true, decide_eq_true_eq] at h ⊢
  exact ⟨⟨h.1.1.1, by omega⟩, by omega⟩
theorem okU_szL {k : Int} {d m : Nat} {l : List Flt} (h : okU k d m l = true) : szL l ≤ m := by
  unfold okU at h
  simp only [Bool.and_eq_true, decide_eq_true_eq] at h
  exact h.2
theorem okU_take {k : Int} {d m j : Nat} {ps : List Flt} (h : okU k d m (ps.take j) = false) : okU k d m ps = false := by
  cases e : okU k d m ps with
  | false => rfl
  | true =>
    rw [← List.take_append_drop j ps] at e
    rw [okU_front e] at h
    cases h
theorem okU_step {k : Int} {d m j : Nat} {ps : List Flt} (h : okU k d m (ps.take j) = true) {q : Flt} (hq : ps[j]? = some q) : okU k d m (ps.take (j + 1)) = (!(joinedB k && decide (q.kind = k)) && mayB q d (m - szL (ps.take j))) := by
  rw [List.take_add_one, hq]
  exact okU_snoc h q
theorem szL_step {j : Nat} {ps : List Flt} {q : Flt} (hq : ps[j]? = some q) : szL (ps.take (j + 1)) = szL (ps.take j) + sz q := by
  rw [List.take_add_one, hq, szL_app']
  simp [szL]
theorem mayB_sz {f : Flt} {d n : Nat} (h : mayB f d n = true) : sz f ≤ n := by
  unfold mayB at h
  simp only [Bool.and_eq_true, decide_eq_true_eq] at h
  exact h.2
end Go.Proofs.YtjffnjiggcfhcaaDoor.Fl
namespace Go.Proofs.YtjffnjiggcfhcaaDoor.Fl
open Go.RowKit Go.Proofs.YtjffnjiggcfhcaaDoor.Tk
set_option linter.unusedVariables false
set_option linter.unusedSimpArgs false

/-- Block g holds these five. -/
def Box (W : World) (g : Nat) (x0 x1 x2 x3 x4 : Value) : Prop :=
  W.cell? ⟨g, 0, none⟩ = some x0 ∧ W.cell? ⟨g, 1, none⟩ = some x1 ∧ W.cell? ⟨g, 2, none⟩ = some x2 ∧ W.cell? ⟨g, 3, none⟩ = some x3 ∧ W.cell? ⟨g, 4, none⟩ = some x4
theorem Box.new (w : World) (x0 x1 x2 x3 x4 : Value) (t : TypeId) : Box (w.alloc (.cells #[x0, x1, x2, x3, x4] t)) w.heap.size x0 x1 x2 x3 x4 := by
  refine ⟨?_, ?_, ?_, ?_, ?_⟩ <;> simp [go_sem]
theorem Box.lt {W : World} {g : Nat} {x0 x1 x2 x3 x4 : Value} (h : Box W g x0 x1 x2 x3 x4) : g < W.heap.size := World.block_lt_of_cell? W ⟨g, 0, none⟩ h.1
theorem Box.same {W V : World} {g : Nat} {x0 x1 x2 x3 x4 : Value} (h : Box W g x0 x1 x2 x3 x4) (e : V.heap[g]? = W.heap[g]?) : Box V g x0 x1 x2 x3 x4 := by
  have hq : ∀ x, V.cell? ⟨g, x, none⟩ = W.cell? ⟨g, x, none⟩ := fun x => World.cell?_of_block (w := W) (w' := V) (a := ⟨g, x, none⟩) e
  unfold Box
  simp only [hq]
  exact h
theorem Box.later {W V : World} {g : Nat} {x0 x1 x2 x3 x4 : Value} (h : Box W g x0 x1 x2 x3 x4) (hb : Below W.heap.size W V) : Box V g x0 x1 x2 x3 x4 := h.same (hb.block g h.lt)
theorem Box.gr {W V : World} {g p : Nat} {x0 x1 x2 x3 x4 : Value} (h : Box W g x0 x1 x2 x3 x4) (hg : W.grownBy V (some p)) (hne : g ≠ p) : Box V g x0 x1 x2 x3 x4 := h.same (hg.block g h.lt (by simpa using hne))

theorem gr_refl (w : World) (r : Option Nat) : w.grownBy w r := ⟨rfl, rfl, rfl, Nat.le_refl _, fun _ _ _ => rfl⟩
theorem gr_alloc {w V : World} {r : Option Nat} (h : w.grownBy V r) (o : Obj) : w.grownBy (V.alloc o) r :=
  ⟨h.os, h.tape, h.output, Nat.le_trans h.size (by simp), fun k hk hne => (Below.heap_alloc _ _ _ (Nat.lt_of_lt_of_le hk h.size)).trans (h.block k hk hne)⟩
theorem gr_drew {w V : World} {r : Option Nat} (h : w.grownBy V r) : w.grownBy V.drew r := ⟨h.os, h.tape, h.output, h.size, h.block⟩
theorem gr_set {w V : World} {p o : Nat} (h : w.grownBy V (some p)) (v : Value) : w.grownBy (V.setCell ⟨p, o, none⟩ v) (some p) :=
  ⟨h.os, h.tape, h.output, by have := h.size; simpa [World.setCell] using this, fun k hk hne => (Below.heap_setCell _ _ _ _ (by intro e; exact hne (by rw [e]))).trans (h.block k hk hne)⟩
theorem gr_below {w V : World} {p z : Nat} (h : w.grownBy V (some p)) (hz : z ≤ p) (hs : z ≤ w.heap.size) : Below z w V :=
  ⟨h.os, h.tape, h.output, h.size, fun k hk => h.block k (by omega) (by intro e; cases e; omega)⟩
theorem gr_of_below {w V : World} {r : Option Nat} (h : Below w.heap.size w V) : w.grownBy V r := ⟨h.os, h.tape, h.output, h.size, fun k hk _ => h.block k hk⟩
theorem gr_trans {a b c : World} {r : Option Nat} (h : a.grownBy b r) (k : b.grownBy c r) : a.grownBy c r := h.trans k
/-- Behind what leaves all alone that was there, and before it. -/
theorem gr_pre {a b c : World} {r : Option Nat} (h : Below a.heap.size a b) (k : b.grownBy c r) : a.grownBy c r := (gr_of_below h).trans k

/-- A number that may be written. -/
def LeftAt (W : World) (p : Nat) (m : Int) : Prop := W.cell? ⟨p, 0, none⟩ = some (.int .i64 m) ∧ W.frozen? ⟨p, 0, none⟩ = false
theorem LeftAt.lt {W : World} {p : Nat} {m : Int} (h : LeftAt W p m) : p < W.heap.size := World.block_lt_of_cell? W ⟨p, 0, none⟩ h.1
theorem LeftAt.same {W V : World} {p : Nat} {m : Int} (h : LeftAt W p m) (e : V.heap[p]? = W.heap[p]?) : LeftAt V p m :=
  ⟨(World.cell?_of_block (w := W) (w' := V) (a := ⟨p, 0, none⟩) e).trans h.1, (World.frozen?_of_block (w := W) (w' := V) (a := ⟨p, 0, none⟩) e).trans h.2⟩
theorem LeftAt.later {W V : World} {p : Nat} {m : Int} (h : LeftAt W p m) (hb : Below W.heap.size W V) : LeftAt V p m := h.same (hb.block p h.lt)
theorem LeftAt.alloc {W : World} {p : Nat} {m : Int} (h : LeftAt W p m) (o : Obj) : LeftAt (W.alloc o) p m := h.same (Below.heap_alloc _ _ _ h.lt)
theorem LeftAt.set {W : World} {p : Nat} {m : Int} (h : LeftAt W p m) (n : Int) : LeftAt (W.setCell ⟨p, 0, none⟩ (.int .i64 n)) p n := by
  obtain ⟨h1, h2⟩ := h
  exact ⟨by simp [go_sem, h1], by simp [go_sem, h2]⟩
/-- strconv's two errors are there, below block z. -/
def LaidZ (z : Nat) (w : World) : Prop := LaidE w ∧ 2 < z ∧ 3 < z
theorem laidZ_of {w : World} (h : LaidE w) : LaidZ w.heap.size w := by
  refine ⟨h, ?_, ?_⟩
  · obtain ⟨tp, tq, p, q, h1, h2⟩ := h
    have := World.var?_cell gSyn h1 0
    exact World.block_lt_of_cell? _ _ (this.trans (by rfl : (#[Value.iface tp p] : Array Value)[0]? = some (.iface tp p)))
  · obtain ⟨tp, tq, p, q, h1, h2⟩ := h
    have := World.var?_cell gRng h2 0
    exact World.block_lt_of_cell? _ _ (this.trans (by rfl : (#[Value.iface tq q] : Array Value)[0]? = some (.iface tq q)))
theorem LaidZ.later {z : Nat} {w V : World} (h : LaidZ z w) (hb : Below z w V) : LaidZ z V := by
  obtain ⟨⟨tp, tq, p, q, h1, h2⟩, l1, l2⟩ := h
  exact ⟨⟨tp, tq, p, q, var?_below hb gSyn l1 h1, var?_below hb gRng l2 h2⟩, l1, l2⟩
end Go.Proofs.YtjffnjiggcfhcaaDoor.Fl
