/-
  Contract of the document's answer leaf: may a filter without parts be? Memory that was there is left as it was.
-/
import Derived.Test.YtjffnjiggcfhcaaGreatDoorMt11
import Derived.Test.YtjffnjiggcfhcaaGreatDoorMt10
import Derived.Deep.RegionHeld3
import Derived.Test.YtjffnjiggcfhcaaGreatDoorMt08
import Derived.Test.YtjffnjiggcfhcaaGreatDoorMt09
import Derived.BigQuiet
/-
  Contracts of text, partText, joinedText of package filter: a filter's text. Memory that was there is left as it was.
-/
namespace Go.Proofs.YtjffnjiggcfhcaaGreatDoor.Fl
open Go.RowKit Go.Proofs.YtjffnjiggcfhcaaGreatDoor.Tk
set_option linter.unusedVariables false
set_option linter.unusedSimpArgs false

def TextOk (f : Flt) : Prop := ∀ (a : Option Addr) (c : Nat) (b : Option Addr) (d : Nat) (w : World), LaidT w → FltAt w (Old w.heap.size) f a b → fine f = true → sz f ≤ 100 →
  Calls Tryz.prog 20 #[.agg #[.int .i64 f.kind, bs f.name, bs f.op, .slice a f.vals.length c, .slice b f.parts.length d]] w fun e w' => e = .returned (.string ⟨(showF f).toArray⟩) ∧ Below w.heap.size w w'
/-- A part's text within that of a filter of kind kk. -/
def partS (kk : Int) (p : Flt) : List UInt8 := if kk = 3 then showN [p] else showP p
theorem partS_eq (kk : Int) (p : Flt) : partS kk p = if joinedB p.kind = true ∨ (kk = 3 ∧ ¬ p.kind = 3 ∧ ¬ p.kind = 7) then 40 :: (showF p ++ [41]) else showF p := by
  obtain ⟨k, n, o, vs, l⟩ := p
  unfold partS joinedB
  simp only [Flt.kind, showN, showP]
  by_cases h1 : k = 1
  · subst h1; simp
  by_cases h2 : k = 2
  · subst h2; simp
  by_cases hk : kk = 3
  · subst hk
    by_cases h3 : k = 3
    · subst h3; simp
    by_cases h7 : k = 7
    · subst h7; simp
    simp [h1, h2, h3, h7]
  · simp [h1, h2, hk]
theorem show_size {f : Flt} (hf : fine f = true) (hr : rng f) (h : sz f ≤ 100) : (showF f).length ≤ 501000 := by
  have := show_len (sz f) f (Nat.le_refl _) hf hr
  omega
theorem partS_size {f : Flt} (kk : Int) (hf : fine f = true) (hr : rng f) (h : sz f ≤ 100) : (partS kk f).length ≤ 501002 := by
  have := show_size hf hr h
  rw [partS_eq]
  split
  · simp; omega
  · omega
set_option maxHeartbeats 4000000 in
set_option maxRecDepth 100000 in
theorem partText_any (kk : Int) (f : Flt) (ih : TextOk f) (a : Option Addr) (c : Nat) (b : Option Addr) (d : Nat) (w : World) (hT : LaidT w) (hF : FltAt w (Old w.heap.size) f a b) (hf : fine f = true) (h5 : sz f ≤ 100) :
    Calls Tryz.prog 31 #[.int .i64 kk, .agg #[.int .i64 f.kind, bs f.name, bs f.op, .slice a f.vals.length c, .slice b f.parts.length d]] w fun e w' => e = .returned (.string ⟨(partS kk f).toArray⟩) ∧ Below w.heap.size w w' := by
  have CT := Lib.hid (fun W h1 h2 => ih a c b d W h1 h2 hf h5)
  obtain ⟨st, hst⟩ : ∃ x : ByteArray, x = ⟨(showF f).toArray⟩ := ⟨_, rfl⟩
  have hsz : st.size ≤ 501000 := by rw [hst]; have := show_size hf hF.rng h5; rw [bytes_size]; exact this
  have HST := Lib.hid (show st.data.toList = showF f by rw [hst])
  obtain ⟨res, hres⟩ : ∃ x : ByteArray, x = ⟨(partS kk f).toArray⟩ := ⟨_, rfl⟩
  have HR := Lib.hid (show res.data.toList = if joinedB f.kind = true ∨ (kk = 3 ∧ ¬ f.kind = 3 ∧ ¬ f.kind = 7) then 40 :: (showF f ++ [41]) else showF f by rw [hres, ← partS_eq])
  rw [← hres]
  rw [← hst] at CT
  obtain ⟨sn, en, _⟩ := bs_bytes f.name
  obtain ⟨so, eo, _⟩ := bs_bytes f.op
  rw [en, eo] at CT ⊢
  have HF := Lib.hid hF
  have HT := Lib.hid hT
  obtain ⟨k, hqk⟩ : ∃ x, x = f.kind := ⟨_, rfl⟩
  obtain ⟨n, hqv⟩ : ∃ x, x = f.vals.length := ⟨_, rfl⟩
  obtain ⟨l, hqp⟩ : ∃ x, x = f.parts.length := ⟨_, rfl⟩
  rw [← hqk, ← hqv, ← hqp] at CT ⊢
  rw [← hqk] at HR
  clear en eo hF hqk hqv hqp hst hres hT ih
  obtain ⟨w1, hw1⟩ : ∃ v, v = w.alloc (.cells #[.int .i64 k, .string sn, .string so, .slice a n c, .slice b l d] 25) := ⟨_, rfl⟩
  have X1 := Lib.hid (show Box w1 w.heap.size (.int .i64 k) (.string sn) (.string so) (.slice a n c) (.slice b l d) by rw [hw1]; exact Box.new ..)
  have HB := Lib.hid (show Below w.heap.size w w1 by rw [hw1]; exact (Below.refl _ _).alloc (Nat.le_refl _) _)
  have HW := Lib.hid hw1
  clear hw1
  have CJ := Lib.hid (fun W => isJoined_any k W)
  obtain ⟨jo, hjo⟩ : ∃ x, x = joinedB k := ⟨_, rfl⟩
  rw [← hjo] at CJ HR
  clear hjo
  have HBR := Lib.hid (show ∀ y : ByteArray, y.data.toList = 40 :: (st.data.toList ++ [41]) → (jo = true ∨ (kk = 3 ∧ ¬ k = 3 ∧ ¬ k = 7)) → y = res from fun y hy h => by rw [bs_of hy, bs_of HR.out, if_pos h, HST.out])
  have HNB := Lib.hid (show ¬ (jo = true ∨ (kk = 3 ∧ ¬ k = 3 ∧ ¬ k = 7)) → st = res from fun h => by rw [bs_of HR.out, if_neg h, ← HST.out])
  cases jo
  case true =>
    go_enter Tryz.func31, Tryz.ntmps31
    go_wp2_with (first | (go_at_call 20; rw [← HW.out]; refine Calls.mono (CT.out _ (HT.out.later HB.out) (HF.out.fit HB.out)) ?_; rintro e w2 ⟨rfl, hb⟩; have HB2 := Lib.hid (HB.out.trans (hb.mono HB.out.size)); have X2 := Lib.hid (X1.out.later hb); obtain ⟨c0, c1, c2, c3, c4⟩ := X2.out; clear hb) | (go_at_call 35; refine Calls.mono (CJ.out _) ?_; rintro e w3 ⟨rfl, rfl⟩))
    go_ret
    exact ⟨congrArg (fun y => Ending.returned (.string y)) (HBR.out _ (by simp) (Or.inl (by first | rfl | trivial))), HB2.out⟩
  by_cases h3 : kk = 3
  case neg =>
    have h3b : (kk == 3) = false := by rw [beq_eq_false_iff_ne]; exact h3
    have h3d : decide (kk = 3) = false := decide_eq_false h3
    have HG := Lib.hid (HNB.out (fun h => h.elim (fun h => by cases h) fun h => h3 h.1))
    go_enter Tryz.func31, Tryz.ntmps31
    go_wp2_with (first | (go_at_call 20; rw [← HW.out]; refine Calls.mono (CT.out _ (HT.out.later HB.out) (HF.out.fit HB.out)) ?_; rintro e w2 ⟨rfl, hb⟩; have HB2 := Lib.hid (HB.out.trans (hb.mono HB.out.size)); have X2 := Lib.hid (X1.out.later hb); obtain ⟨c0, c1, c2, c3, c4⟩ := X2.out; clear hb) | (go_at_call 35; refine Calls.mono (CJ.out _) ?_; rintro e w3 ⟨rfl, rfl⟩))
    go_ret
    exact ⟨by rw [← HG.out]; rfl, HB2.out⟩
  subst h3
  by_cases hk3 : k = 3
  case pos =>
    subst hk3
    have HG := Lib.hid (HNB.out (fun h => h.elim (fun h => by cases h) fun h => h.2.1 rfl))
    go_enter Tryz.func31, Tryz.ntmps31
    go_wp2_with (first | (go_at_call 20; rw [← HW.out]; refine Calls.mono (CT.out _ (HT.out.later HB.out) (HF.out.fit HB.out)) ?_; rintro e w2 ⟨rfl, hb⟩; have HB2 := Lib.hid (HB.out.trans (hb.mono HB.out.size)); have X2 := Lib.hid (X1.out.later hb); obtain ⟨c0, c1, c2, c3, c4⟩ := X2.out; clear hb) | (go_at_call 35; refine Calls.mono (CJ.out _) ?_; rintro e w3 ⟨rfl, rfl⟩))
    go_ret
    exact ⟨by rw [← HG.out]; rfl, HB2.out⟩
  have hk3b : (k == 3) = false := by rw [beq_eq_false_iff_ne]; exact hk3
  have hk3d : decide (k = 3) = false := decide_eq_false hk3
  have hk3e : (k != 3) = true := by rw [bne, hk3b]; rfl
  by_cases hk7 : k = 7
  case pos =>
    subst hk7
    have HG := Lib.hid (HNB.out (fun h => h.elim (fun h => by cases h) fun h => h.2.2 rfl))
    go_enter Tryz.func31, Tryz.ntmps31
    go_wp2_with (first | (go_at_call 20; rw [← HW.out]; refine Calls.mono (CT.out _ (HT.out.later HB.out) (HF.out.fit HB.out)) ?_; rintro e w2 ⟨rfl, hb⟩; have HB2 := Lib.hid (HB.out.trans (hb.mono HB.out.size)); have X2 := Lib.hid (X1.out.later hb); obtain ⟨c0, c1, c2, c3, c4⟩ := X2.out; clear hb) | (go_at_call 35; refine Calls.mono (CJ.out _) ?_; rintro e w3 ⟨rfl, rfl⟩))
    go_ret
    exact ⟨by rw [← HG.out]; rfl, HB2.out⟩
  have hk7b : (k == 7) = false := by rw [beq_eq_false_iff_ne]; exact hk7
  have hk7d : decide (k = 7) = false := decide_eq_false hk7
  have hk7e : (k != 7) = true := by rw [bne, hk7b]; rfl
  go_enter Tryz.func31, Tryz.ntmps31
  go_wp2_with (first | (go_at_call 20; rw [← HW.out]; refine Calls.mono (CT.out _ (HT.out.later HB.out) (HF.out.fit HB.out)) ?_; rintro e w2 ⟨rfl, hb⟩; have HB2 := Lib.hid (HB.out.trans (hb.mono HB.out.size)); have X2 := Lib.hid (X1.out.later hb); obtain ⟨c0, c1, c2, c3, c4⟩ := X2.out; clear hb) | (go_at_call 35; refine Calls.mono (CJ.out _) ?_; rintro e w3 ⟨rfl, rfl⟩))
  go_ret
  exact ⟨congrArg (fun y => Ending.returned (.string y)) (HBR.out _ (by simp) (Or.inr ⟨by first | rfl | trivial, hk3, hk7⟩)), HB2.out⟩
end Go.Proofs.YtjffnjiggcfhcaaGreatDoor.Fl
/-
  Contract of the document's answer Name: is a text a name? Memory that was there is left as it was.
-/
namespace Go.Proofs.YtjffnjiggcfhcaaGreatDoor.Fl
open Go.RowKit Go.Proofs.YtjffnjiggcfhcaaGreatDoor.Tk
set_option linter.unusedVariables false
set_option linter.unusedSimpArgs false

theorem name_nil : nameB [] = false := rfl
set_option maxHeartbeats 1000000 in
set_option maxRecDepth 100000 in
theorem refName_any (s : ByteArray) (w : World) : Calls Tryz.prog 45 #[.string s] w fun e w' => e = .returned (.bool (nameB s.data.toList)) ∧ Below w.heap.size w w' := by
  have HS := Lib.hid (Lib.size_eq s)
  obtain ⟨res, hres⟩ : ∃ b, nameB s.data.toList = b := ⟨_, rfl⟩
  rw [hres]
  have HR := Lib.hid hres
  clear hres
  by_cases h0 : s.size = 0
  · have h0z : (s.size : Int) = 0 := by omega
    have HF := Lib.hid (show res = false by
      rw [← HR.out, List.eq_nil_of_length_eq_zero (show s.data.toList.length = 0 by have := HS.out; omega)]; rfl)
    go_enter Tryz.func45, Tryz.ntmps45
    go_wp2_with fail
    go_ret
    exact ⟨by rw [HF.out]; rfl, Below.refl _ _⟩
  have h0z : ¬ (s.size : Int) = 0 := by omega
  by_cases h20 : 20 < s.size
  · have h20z : (20 : Int) < (s.size : Int) := by omega
    have HF := Lib.hid (show res = false by
      cases h : res with
      | false => rfl
      | true => rw [h] at HR; have := (name_short HR.out).1; have := HS.out; omega)
    go_enter Tryz.func45, Tryz.ntmps45
    go_wp2_with fail
    go_ret
    exact ⟨by rw [HF.out]; rfl, Below.refl _ _⟩
  have h20z : ¬ (20 : Int) < (s.size : Int) := by omega
  obtain ⟨c, r, hcr⟩ : ∃ c r, s.data.toList = c :: r := by
    cases h : s.data.toList with
    | nil => rw [h] at HS; have := HS.out; rw [List.length_nil] at this; omega
    | cons c r => exact ⟨c, r, rfl⟩
  have HC := Lib.hid (fun W => refOne_any s (by omega) 0 c r hcr W)
  have HL := Lib.hid hcr
  clear hcr
  go_enter Tryz.func45, Tryz.ntmps45
  go_wp2_with fail
  refine (HC.out _).mono ?_
  rintro e w1 ⟨ho, hb⟩
  have HB := Lib.hid hb
  clear hb
  cases hx : lex (c :: r) with
  | none =>
    rw [hx] at ho
    obtain ⟨k, p, n, str, z, rfl⟩ := ho
    have HF := Lib.hid (show res = false by rw [← HR.out, HL.out, nameB, hx])
    clear hx
    go_wp2_with fail
    go_ret
    exact ⟨by rw [HF.out]; rfl, HB.out.alloc HB.out.size _⟩
  | some x =>
    rw [hx] at ho
    simp only [OneEnd] at ho
    subst ho
    have HF := Lib.hid (show res = (x.kind == 1 && x.size == s.size) by
      rw [← HR.out, HL.out, nameB, hx, HS.out, HL.out])
    obtain ⟨k, hk⟩ : ∃ y, y = x.kind := ⟨_, rfl⟩
    obtain ⟨n, hn⟩ : ∃ y, y = x.num := ⟨_, rfl⟩
    obtain ⟨z, hz⟩ : ∃ y, y = x.size := ⟨_, rfl⟩
    obtain ⟨str, hs⟩ : ∃ y : ByteArray, y = ⟨x.str.toArray⟩ := ⟨_, rfl⟩
    rw [← hk, ← hz] at HF
    rw [← hk, ← hn, ← hz, ← hs, Nat.zero_add]
    clear hk hn hz hs hx
    by_cases h1 : z = s.size
    · subst h1
      have HG := Lib.hid (show res = (k == 1) by rw [HF.out]; simp)
      go_wp2_with fail
      go_ret
      exact ⟨by rw [HG.out]; first | rfl | simp, HB.out.alloc HB.out.size _⟩
    · have h1z : ¬ (z : Int) = (s.size : Int) := by omega
      have HG := Lib.hid (show res = false by rw [HF.out]; simp [h1])
      go_wp2_with fail
      go_ret
      exact ⟨by rw [HG.out]; rfl, HB.out.alloc HB.out.size _⟩
end Go.Proofs.YtjffnjiggcfhcaaGreatDoor.Fl
namespace Go.Proofs.YtjffnjiggcfhcaaGreatDoor.Fl
open Go.RowKit Go.Proofs.YtjffnjiggcfhcaaGreatDoor.Tk
set_option linter.unusedVariables false
set_option linter.unusedSimpArgs false

/-- Is it a value, and of that sort? -/
def valT0 (t : Bool) (v : Att) : Bool := valB v && v.text == t
def LfR (p : Att → Bool) (vs : List Att) (w : World) (vi : Value) (wr : World) : Prop :=
  ∃ k : Nat, k ≤ vs.length ∧ vi = .int .i64 k ∧ Hid (∀ v ∈ vs.take k, p v = true) ∧ Below w.heap.size w wr
theorem val_cases (sn : ByteArray) (t t0 : Bool) (n : Int) (ss : ByteArray) (pl : Bool) (hp : plainB ss.data.toList = pl) (V : Att) (h1 : sn.data.toList = V.name) (h2 : t = V.text) (h3 : n = V.num) (h4 : ss.data.toList = V.str) :
    (¬ sn = ⟨#[]⟩ ∧ valT0 t0 V = false) ∨ (sn = ⟨#[]⟩ ∧ t = true ∧ t0 = false ∧ valT0 t0 V = false) ∨ (sn = ⟨#[]⟩ ∧ t = false ∧ t0 = true ∧ valT0 t0 V = false) ∨
    (sn = ⟨#[]⟩ ∧ t = true ∧ t0 = true ∧ ¬ n = 0 ∧ valT0 t0 V = false) ∨ (sn = ⟨#[]⟩ ∧ t = true ∧ t0 = true ∧ n = 0 ∧ pl = false ∧ valT0 t0 V = false) ∨ (sn = ⟨#[]⟩ ∧ t = true ∧ t0 = true ∧ n = 0 ∧ pl = true ∧ valT0 t0 V = true) ∨
    (sn = ⟨#[]⟩ ∧ t = false ∧ t0 = false ∧ ¬ ss = ⟨#[]⟩ ∧ valT0 t0 V = false) ∨ (sn = ⟨#[]⟩ ∧ t = false ∧ t0 = false ∧ ss = ⟨#[]⟩ ∧ valT0 t0 V = true) := by
  have hn : sn = ⟨#[]⟩ ↔ V.name = [] := by rw [← h1]; obtain ⟨⟨l⟩⟩ := sn; simp
  have hs : ss = ⟨#[]⟩ ↔ V.str = [] := by rw [← h4]; obtain ⟨⟨l⟩⟩ := ss; simp
  rw [h4] at hp
  subst h2 h3
  by_cases e1 : V.name = []
  · cases ht : V.text <;> cases t0
    · by_cases e2 : V.str = []
      · exact Or.inr (Or.inr (Or.inr (Or.inr (Or.inr (Or.inr (Or.inr ⟨hn.2 e1, rfl, rfl, hs.2 e2, by simp [valT0, valB, e1, e2, ht]⟩))))))
      · exact Or.inr (Or.inr (Or.inr (Or.inr (Or.inr (Or.inr (Or.inl ⟨hn.2 e1, rfl, rfl, fun h => e2 (hs.1 h), by simp [valT0, valB, e1, e2, ht]⟩))))))
    · exact Or.inr (Or.inr (Or.inl ⟨hn.2 e1, rfl, rfl, by simp [valT0, ht]⟩))
    · exact Or.inr (Or.inl ⟨hn.2 e1, rfl, rfl, by simp [valT0, ht]⟩)
    · by_cases e2 : V.num = 0
      · cases hq : pl
        · exact Or.inr (Or.inr (Or.inr (Or.inr (Or.inl ⟨hn.2 e1, rfl, rfl, e2, rfl, by rw [hq] at hp; simp [valT0, valB, e1, e2, ht, hp]⟩))))
        · exact Or.inr (Or.inr (Or.inr (Or.inr (Or.inr (Or.inl ⟨hn.2 e1, rfl, rfl, e2, rfl, by rw [hq] at hp; simp [valT0, valB, e1, e2, ht, hp]⟩)))))
      · exact Or.inr (Or.inr (Or.inr (Or.inl ⟨hn.2 e1, rfl, rfl, e2, by simp [valT0, valB, e1, e2, ht]⟩)))
  · exact Or.inl ⟨fun h => e1 (hn.1 h), by simp [valT0, valB, e1]⟩
/-- What is asked of a filter without parts, behind the values. -/
def tailB (k : Int) (o : List UInt8) (vs : List Att) : Bool := if k = 6 then o == [] else if k = 5 then decide (vs.length = 1) && firstText vs && o == [] else decide (vs.length = 1) && opB o
theorem leafB_eq {k : Int} (n o : List UInt8) (v : Att) (r : List Att) (lp : Nat) : (leafB k n o (v :: r) && decide (lp = 0)) = (nameB n && decide (lp = 0) && decide ((v :: r).length ≤ 20) && (v :: r).all (valT0 v.text) && tailB k o (v :: r)) := by
  have e1 : decide ((v :: r).length ≤ 20) = decide (r.length < 20) := decide_eq_decide.2 (by simp only [List.length_cons]; omega)
  have e2 : (v :: r).all (valT0 v.text) = (valB v && r.all fun u => valB u && u.text == v.text) := by
    simp only [List.all_cons, valT0, beq_self_eq_true, Bool.and_true]
    rfl
  have e3 : decide ((v :: r).length = 1) = r.isEmpty := by cases r <;> simp
  rw [leafB, tailB, e1, e2, e3, firstText]
  by_cases h6 : k = 6
  · simp only [h6, if_true]
    cases nameB n <;> cases decide (lp = 0) <;> cases decide (r.length < 20) <;> cases valB v <;> cases (r.all fun u => valB u && u.text == v.text) <;> simp
  · by_cases h5 : k = 5
    · simp only [h5, if_true]
      cases nameB n <;> cases decide (lp = 0) <;> cases decide (r.length < 20) <;> cases valB v <;> cases (r.all fun u => valB u && u.text == v.text) <;> simp
    · rw [if_neg h6, if_neg h5]
      cases nameB n <;> cases decide (lp = 0) <;> cases decide (r.length < 20) <;> cases valB v <;> cases (r.all fun u => valB u && u.text == v.text) <;> simp
theorem beq_bytes' (s r : ByteArray) : (s.toList == r.toList) = decide (s = r) := by
  by_cases h : s = r
  · rw [decide_eq_true h, h]; simp
  · rw [decide_eq_false h, beq_eq_false_iff_ne]
    intro e
    rw [Lib.toList_data, Lib.toList_data] at e
    exact h (by obtain ⟨⟨a⟩⟩ := s; obtain ⟨⟨b⟩⟩ := r; simpa using e)
theorem ne_bytes' {s : ByteArray} (h : ¬ s = ⟨#[]⟩) : ¬ s.toList = [] := by
  have := beq_bytes' s ⟨#[]⟩
  rw [decide_eq_false h, beq_eq_false_iff_ne, Lib.toList_data ⟨#[]⟩] at this
  exact this
set_option maxHeartbeats 8000000 in
set_option maxRecDepth 100000 in
theorem refLeaf_any (k : Int) (sn so : ByteArray) (vs : List Att) (a : Option Addr) (c : Nat) (lp : Nat) (b : Option Addr) (d : Nat) (w : World) (hA : AttsAt w (Old w.heap.size) a vs) :
    Calls Tryz.prog 29 #[.agg #[.int .i64 k, .string sn, .string so, .slice a vs.length c, .slice b lp d]] w fun e w' => e = .returned (.bool (leafB k sn.data.toList so.data.toList vs && decide (lp = 0))) ∧ Below w.heap.size w w' := by
  have HA := Lib.hid hA
  have CN := Lib.hid (fun W => refName_any sn W)
  have CO := Lib.hid (fun W => refOp_any so W)
  obtain ⟨nm, hnm⟩ : ∃ r, nameB sn.data.toList = r := ⟨_, rfl⟩
  obtain ⟨op, hop⟩ : ∃ r, opB so.data.toList = r := ⟨_, rfl⟩
  rw [hnm] at CN
  rw [hop] at CO
  have HNM := Lib.hid hnm
  have HOP := Lib.hid hop
  obtain ⟨res, hres⟩ : ∃ x, x = (leafB k sn.data.toList so.data.toList vs && decide (lp = 0)) := ⟨_, rfl⟩
  rw [← hres]
  have HR := Lib.hid hres
  have hlen : vs.length ≤ 9223372036854775807 := by have := hA.1; unfold maxLen at this; omega
  obtain ⟨n, hn⟩ : ∃ n, n = vs.length := ⟨_, rfl⟩
  have HN := Lib.hid hn
  rw [← hn] at hlen ⊢
  obtain ⟨w1, hw1⟩ : ∃ v, v = w.alloc (.cells #[.int .i64 k, .string sn, .string so, .slice a n c, .slice b lp d] 25) := ⟨_, rfl⟩
  have X1 := Lib.hid (show Box w1 w.heap.size (.int .i64 k) (.string sn) (.string so) (.slice a n c) (.slice b lp d) by rw [hw1]; exact Box.new ..)
  have HB := Lib.hid (show Below w.heap.size w w1 by rw [hw1]; exact (Below.refl _ _).alloc (Nat.le_refl _) _)
  have HW := Lib.hid hw1
  clear hw1 hn hres hnm hop hA
  cases nm
  case false =>
    have HF := Lib.hid (show res = false by
      rw [HR.out]
      cases vs with
      | nil => rfl
      | cons v r => rw [leafB_eq, HNM.out]; rfl)
    go_enter Tryz.func29, Tryz.ntmps29
    go_wp2_with (go_at_call 45; rw [← HW.out]; refine Calls.mono (CN.out _) ?_; rintro e w2 ⟨rfl, hb⟩; have HB2 := Lib.hid (HB.out.trans (hb.mono HB.out.size)); have X2 := Lib.hid (X1.out.later hb); obtain ⟨c0, c1, c2, c3, c4⟩ := X2.out; clear hb)
    go_ret
    exact ⟨by rw [HF.out]; rfl, HB2.out⟩
  by_cases h1 : 0 < lp
  case pos =>
    have h1z : (0 : Int) < (lp : Int) := by omega
    have HF := Lib.hid (show res = false by rw [HR.out, decide_eq_false (show ¬ lp = 0 by omega), Bool.and_false])
    go_enter Tryz.func29, Tryz.ntmps29
    go_wp2_with (go_at_call 45; rw [← HW.out]; refine Calls.mono (CN.out _) ?_; rintro e w2 ⟨rfl, hb⟩; have HB2 := Lib.hid (HB.out.trans (hb.mono HB.out.size)); have X2 := Lib.hid (X1.out.later hb); obtain ⟨c0, c1, c2, c3, c4⟩ := X2.out; clear hb)
    go_ret
    exact ⟨by rw [HF.out]; rfl, HB2.out⟩
  obtain rfl : lp = 0 := by omega
  by_cases h2 : n = 0
  case pos =>
    have HF := Lib.hid (show res = false by
      rw [HR.out, List.eq_nil_of_length_eq_zero (HN.out.symm.trans h2)]; rfl)
    have h2z : (n : Int) = 0 := by omega
    clear HR HN
    subst h2
    go_enter Tryz.func29, Tryz.ntmps29
    go_wp2_with (go_at_call 45; rw [← HW.out]; refine Calls.mono (CN.out _) ?_; rintro e w2 ⟨rfl, hb⟩; have HB2 := Lib.hid (HB.out.trans (hb.mono HB.out.size)); have X2 := Lib.hid (X1.out.later hb); obtain ⟨c0, c1, c2, c3, c4⟩ := X2.out; clear hb)
    go_ret
    exact ⟨by rw [HF.out]; rfl, HB2.out⟩
  have h2z : ¬ (n : Int) = 0 := by omega
  have h2b : ((n : Int) == 0) = false := by rw [beq_eq_false_iff_ne]; exact h2z
  obtain ⟨v0, r0, hv0⟩ : ∃ v r, vs = v :: r := by
    cases h : vs with
    | nil => rw [h] at HN; exact absurd HN.out h2
    | cons v r => exact ⟨v, r, rfl⟩
  have HRE := Lib.hid (show res = (decide (n ≤ 20) && vs.all (valT0 v0.text) && tailB k so.data.toList vs) by
    rw [HR.out, hv0, leafB_eq, HNM.out, HN.out, hv0]; simp)
  by_cases h3 : 20 < n
  case pos =>
    have h3z : (20 : Int) < (n : Int) := by omega
    have HF := Lib.hid (show res = false by rw [HRE.out, decide_eq_false (show ¬ n ≤ 20 by omega)]; rfl)
    go_enter Tryz.func29, Tryz.ntmps29
    go_wp2_with (go_at_call 45; rw [← HW.out]; refine Calls.mono (CN.out _) ?_; rintro e w2 ⟨rfl, hb⟩; have HB2 := Lib.hid (HB.out.trans (hb.mono HB.out.size)); have X2 := Lib.hid (X1.out.later hb); obtain ⟨c0, c1, c2, c3, c4⟩ := X2.out; clear hb)
    go_ret
    exact ⟨by rw [HF.out]; rfl, HB2.out⟩
  have h3z : ¬ (20 : Int) < (n : Int) := by omega
  have h3b : decide ((20 : Int) < (n : Int)) = false := decide_eq_false h3z
  have HRF := Lib.hid (show res = (vs.all (valT0 v0.text) && tailB k so.data.toList vs) by rw [HRE.out, decide_eq_true (show n ≤ 20 by omega)]; rfl)
  have HV0 := Lib.hid (show vs[0]? = some v0 by rw [hv0]; rfl)
  have HFT := Lib.hid (show firstText vs = v0.text by rw [hv0]; rfl)
  obtain ⟨t0, ht0⟩ : ∃ x, x = v0.text := ⟨_, rfl⟩
  rw [← ht0] at HRF HFT
  have HT0 := Lib.hid ht0
  clear HRE HR hv0 ht0
  go_enter Tryz.func29, Tryz.ntmps29
  go_wp2_with (go_at_call 45; rw [← HW.out]; refine Calls.mono (CN.out _) ?_; rintro e w2 ⟨rfl, hb⟩; have HB2 := Lib.hid (HB.out.trans (hb.mono HB.out.size)); have X2 := Lib.hid (X1.out.later hb); obtain ⟨c0, c1, c2, c3, c4⟩ := X2.out; clear hb)
  clear c0 c1 c2 c3 c4
  go_loopw [4] (fun vi wr => LfR (valT0 t0) vs w2 vi wr) (fun vi _ => n - (intOf vi).toNat)
  case atStart => exact ⟨0, Nat.zero_le _, rfl, Lib.hid (by simp), Below.refl _ _⟩
  case round =>
    obtain ⟨j, hk, rfl, hall, hBB⟩ := hrel
    have HK := Lib.hid hk
    have HBB := Lib.hid hBB
    have HBW := Lib.hid (HB2.out.trans (hBB.mono HB2.out.size))
    have X3 := Lib.hid (X2.out.later hBB)
    obtain ⟨p0, p1, p2, p3, p4⟩ := X3.out
    clear hk hBB
    obtain ⟨g, o, hg, hgl, hc⟩ := (HA.out.later HBW.out).2.2 (by have := HN.out; omega)
    obtain ⟨z0, z1, z2, z3⟩ := hc 0 (by have := HN.out; omega)
    have h0v : vs[0]'(by have := HN.out; omega) = v0 := by
      have := HV0.out
      rw [List.getElem?_eq_getElem (by have := HN.out; omega)] at this
      exact Option.some.inj this
    rw [h0v, ← HT0.out] at z1
    simp only [Nat.zero_mul, Nat.add_zero] at z1
    have HGL := Lib.hid (show g < wr.heap.size from Nat.lt_of_lt_of_le hgl HBW.out.size)
    have hgw : g < wr.heap.size := HGL.out
    have hbw : w.heap.size < wr.heap.size := X3.out.lt
    subst hg
    clear z0 z2 z3 h0v hgl
    by_cases hlt : j < n
    · have hlz : (j : Int) < (n : Int) := by omega
      have hku : j < vs.length := by rw [← HN.out]; exact hlt
      obtain ⟨e0, e1, e2, e3⟩ := hc j hku
      obtain ⟨U, hU⟩ : ∃ V, V = vs[j] := ⟨_, rfl⟩
      rw [← hU] at e0 e1 e2 e3
      obtain ⟨s1, q1, f1⟩ := bs_bytes U.name
      obtain ⟨t1, q2, f2⟩ := bs_bytes U.str
      obtain ⟨x1, hx1⟩ : ∃ x, x = U.text := ⟨_, rfl⟩
      obtain ⟨y1, hy1⟩ : ∃ x, x = U.num := ⟨_, rfl⟩
      have htl : t1.size ≤ 9223372036854775807 := by
        have h9 := (HA.out.2.1 U (by rw [hU]; exact List.getElem_mem hku)).2.1
        rw [← f2, ← Lib.size_eq] at h9
        unfold maxLen at h9
        omega
      have CP := Lib.hid (fun W => refPlain_any t1 htl W)
      obtain ⟨pl, hpl⟩ : ∃ x, plainB t1.data.toList = x := ⟨_, rfl⟩
      have HVC := val_cases s1 x1 t0 y1 t1 pl hpl U f1 hx1 hy1 f2
      rw [hpl] at CP
      rw [q1] at e0
      rw [← hx1] at e1
      rw [← hy1] at e2
      rw [q2] at e3
      have HUK := Lib.hid (show vs[j]? = some U by rw [hU]; exact List.getElem?_eq_getElem hku)
      clear hc hU q1 q2 f1 f2 hx1 hy1 hpl
      rcases HVC with ⟨hz, hv⟩ | ⟨rfl, rfl, rfl, hv⟩ | ⟨rfl, rfl, rfl, hv⟩ | ⟨rfl, rfl, rfl, hz, hv⟩ | ⟨rfl, rfl, rfl, rfl, rfl, hv⟩ | ⟨rfl, rfl, rfl, rfl, rfl, hv⟩ | ⟨rfl, rfl, rfl, hz, hv⟩ | ⟨rfl, rfl, rfl, rfl, hv⟩
      · have HF := Lib.hid (show res = false by rw [HRF.out, show vs.all (valT0 _) = false from by rw [List.all_eq_false]; exact ⟨U, List.mem_of_getElem? HUK.out, by simp [hv]⟩]; rfl)
        have hzl := ne_bytes' hz
        have hzb : (s1.toList == []) = false := by rw [beq_eq_false_iff_ne]; exact hzl
        have hzd : decide (s1.toList = []) = false := decide_eq_false hzl
        clear hv
        go_wp2_with (go_at_call 46; refine Calls.mono (CP.out _) ?_; rintro e w3 ⟨rfl, rfl⟩)
        go_big_quiet (fail)
        go_wp2_with fail
        go_ret
        exact ⟨by rw [HF.out]; rfl, below_drewN (HBW.out.alloc HBW.out.size _) _⟩
      · have HF := Lib.hid (show res = false by rw [HRF.out, show vs.all (valT0 _) = false from by rw [List.all_eq_false]; exact ⟨U, List.mem_of_getElem? HUK.out, by simp [hv]⟩]; rfl)
        clear hv
        go_wp2_with (go_at_call 46; refine Calls.mono (CP.out _) ?_; rintro e w3 ⟨rfl, rfl⟩)
        go_big_quiet (fail)
        go_wp2_with fail
        go_ret
        exact ⟨by rw [HF.out]; rfl, below_drewN (HBW.out.alloc HBW.out.size _) _⟩
      · have HF := Lib.hid (show res = false by rw [HRF.out, show vs.all (valT0 _) = false from by rw [List.all_eq_false]; exact ⟨U, List.mem_of_getElem? HUK.out, by simp [hv]⟩]; rfl)
        clear hv
        go_wp2_with (go_at_call 46; refine Calls.mono (CP.out _) ?_; rintro e w3 ⟨rfl, rfl⟩)
        go_big_quiet (fail)
        go_wp2_with fail
        go_ret
        exact ⟨by rw [HF.out]; rfl, below_drewN (HBW.out.alloc HBW.out.size _) _⟩
      · have HF := Lib.hid (show res = false by rw [HRF.out, show vs.all (valT0 _) = false from by rw [List.all_eq_false]; exact ⟨U, List.mem_of_getElem? HUK.out, by simp [hv]⟩]; rfl)
        have hzb : (y1 == 0) = false := by rw [beq_eq_false_iff_ne]; exact hz
        have hzd : decide (y1 = 0) = false := decide_eq_false hz
        have hze : (y1 != 0) = true := by rw [bne, hzb]; rfl
        clear hv
        go_wp2_with (go_at_call 46; refine Calls.mono (CP.out _) ?_; rintro e w3 ⟨rfl, rfl⟩)
        go_big_quiet (fail)
        go_wp2_with fail
        go_ret
        exact ⟨by rw [HF.out]; rfl, below_drewN (HBW.out.alloc HBW.out.size _) _⟩
      · have HF := Lib.hid (show res = false by rw [HRF.out, show vs.all (valT0 _) = false from by rw [List.all_eq_false]; exact ⟨U, List.mem_of_getElem? HUK.out, by simp [hv]⟩]; rfl)
        clear hv
        go_wp2_with (go_at_call 46; refine Calls.mono (CP.out _) ?_; rintro e w3 ⟨rfl, rfl⟩)
        go_big_quiet (fail)
        go_wp2_with fail
        go_ret
        exact ⟨by rw [HF.out]; rfl, below_drewN (HBW.out.alloc HBW.out.size _) _⟩
      · have HF := Lib.hid (take_more' (p := valT0 _) hall.out HUK.out hv)
        clear hv
        go_wp2_with (go_at_call 46; refine Calls.mono (CP.out _) ?_; rintro e w3 ⟨rfl, rfl⟩)
        go_big_quiet (fail)
        all_goals
          go_wp2_with fail
          go_roundw
          case rel => exact ⟨j + 1, by have := HN.out; omega, by go_num, HF, below_drewN (HBB.out.alloc HBB.out.size _) _⟩
          case measure => simp [intOf]; omega
      · have HF := Lib.hid (show res = false by rw [HRF.out, show vs.all (valT0 _) = false from by rw [List.all_eq_false]; exact ⟨U, List.mem_of_getElem? HUK.out, by simp [hv]⟩]; rfl)
        have hzl := ne_bytes' hz
        have hzb : (t1.toList == []) = false := by rw [beq_eq_false_iff_ne]; exact hzl
        have hzd : decide (t1.toList = []) = false := decide_eq_false hzl
        clear hv
        go_wp2_with (go_at_call 46; refine Calls.mono (CP.out _) ?_; rintro e w3 ⟨rfl, rfl⟩)
        go_big_quiet (fail)
        go_wp2_with fail
        go_ret
        exact ⟨by rw [HF.out]; rfl, below_drewN (HBW.out.alloc HBW.out.size _) _⟩
      · have HF := Lib.hid (take_more' (p := valT0 _) hall.out HUK.out hv)
        clear hv
        go_wp2_with (go_at_call 46; refine Calls.mono (CP.out _) ?_; rintro e w3 ⟨rfl, rfl⟩)
        go_big_quiet (fail)
        all_goals
          go_wp2_with fail
          go_roundw
          case rel => exact ⟨j + 1, by have := HN.out; omega, by go_num, HF, below_drewN (HBB.out.alloc HBB.out.size _) _⟩
          case measure => simp [intOf]; omega
    · have hlz : ¬ (j : Int) < (n : Int) := by omega
      have HAL := Lib.hid (show res = tailB k so.data.toList vs by
        rw [HRF.out, show vs.all (valT0 t0) = true from ?_]
        · rfl
        · rw [List.all_eq_true]
          have := hall.out
          rwa [show j = vs.length by have := HN.out; have := HK.out; omega, List.take_length] at this)
      clear hc
      by_cases h6 : k = 6
      · have HF := Lib.hid (show res = (so.toList == []) by rw [HAL.out, tailB, if_pos h6, Lib.toList_data])
        subst h6
        go_wp2_with fail
        go_ret
        exact ⟨by rw [HF.out]; first | rfl | simp, HBW.out⟩
      by_cases h5 : k = 5
      · have HF := Lib.hid (show res = (decide (n = 1) && t0 && (so.toList == [])) by rw [HAL.out, tailB, if_neg h6, if_pos h5, HFT.out, Lib.toList_data, HN.out])
        subst h5
        by_cases hn1 : n = 1
        · have hn1z : (n : Int) = 1 := by omega
          have HF2 := Lib.hid (show res = (t0 && (so.toList == [])) by rw [HF.out, decide_eq_true hn1]; rfl)
          clear HF
          cases t0
          all_goals
            go_wp2_with fail
            go_ret
            exact ⟨by rw [HF2.out]; first | rfl | simp, HBW.out⟩
        · have hn1z : ¬ (n : Int) = 1 := by omega
          have HF2 := Lib.hid (show res = false by rw [HF.out, decide_eq_false hn1]; rfl)
          go_wp2_with fail
          go_ret
          exact ⟨by rw [HF2.out]; first | rfl | simp, HBW.out⟩
      · have HF := Lib.hid (show res = (decide (n = 1) && op) by rw [HAL.out, tailB, if_neg h6, if_neg h5, HOP.out, HN.out])
        by_cases hn1 : n = 1
        · have hn1z : (n : Int) = 1 := by omega
          have HF2 := Lib.hid (show res = op by rw [HF.out, decide_eq_true hn1]; rfl)
          go_wp2_with (go_at_call 47; refine Calls.mono (CO.out _) ?_; rintro e w3 ⟨rfl, rfl⟩)
          go_ret
          exact ⟨by rw [HF2.out]; first | rfl | simp, HBW.out⟩
        · have hn1z : ¬ (n : Int) = 1 := by omega
          have HF2 := Lib.hid (show res = false by rw [HF.out, decide_eq_false hn1]; rfl)
          go_wp2_with fail
          go_ret
          exact ⟨by rw [HF2.out]; first | rfl | simp, HBW.out⟩
end Go.Proofs.YtjffnjiggcfhcaaGreatDoor.Fl
