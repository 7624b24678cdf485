/-
  What a round of pdqsort makes of a row of numbers: plain. No program here.
-/
import Derived.Test.YtkkolodolmppnaaSoKit
import Derived.Sort.LotA
import Derived.Sort.LotB
import Derived.Sort.LotD2
namespace Go.Proofs.Ytkkolodolmppnaa.So
open Go.Sort
set_option linter.unusedVariables false

theorem ltF {x y : Int} : ltInt x y = false ↔ y ≤ x := by simp [ltInt]
theorem ltT {x y : Int} : ltInt x y = true ↔ x < y := by simp [ltInt]
/-- Whatever sorts the part from a on, below b, sorts the whole from A on, below B. -/
def Whole (A B : Nat) (D : Array Int) (a b : Nat) (d : Array Int) : Prop := ∀ R, PermIn a b d R → SortedIn ltInt a b R → PermIn A B D R ∧ SortedIn ltInt A B R
theorem Whole.perm {A B : Nat} {D : Array Int} {a b : Nat} {d e : Array Int} (h : Whole A B D a b d) (hp : PermIn a b d e) : Whole A B D a b e := fun R h1 h2 => h R (permIn_trans _ _ _ a b hp h1) h2

theorem glueE {A B : Nat} {D : Array Int} {a b pv mid : Nat} {d e : Array Int} (hW : Whole A B D a b d) (ha : 0 < a) (hap : a ≤ pv) (hpb : pv < b) (hb : b ≤ d.size) (hB : Below ltInt a b d) (hn : ltInt d[a - 1]! d[pv]! = false)
    (h1 : a < mid) (h2 : mid ≤ b) (hP : PermIn a b d e) (hl : ∀ t, a ≤ t → t < mid → (!ltInt d[pv]! e[t]!) = true) (hr : ∀ t, mid ≤ t → t < b → (!ltInt d[pv]! e[t]!) = false) :
    Below ltInt mid b e ∧ Whole A B D mid b e := by
  have lo : ∀ t, a ≤ t → t < b → d[pv]! ≤ e[t]! := by
    refine permIn_all d e a b (fun x => d[pv]! ≤ x) hb hP fun t h3 h4 => ?_
    rcases hB with h0 | h0
    · omega
    · have := ltF.1 (h0 t h3 h4); have := ltF.1 hn; omega
  have hl2 : ∀ t, a ≤ t → t < mid → e[t]! ≤ d[pv]! := fun t h3 h4 => by have := hl t h3 h4; simp only [Bool.not_eq_true'] at this; exact ltF.1 this
  have hr2 : ∀ t, mid ≤ t → t < b → d[pv]! < e[t]! := fun t h3 h4 => by have := hr t h3 h4; simp only [Bool.not_eq_false'] at this; exact ltT.1 this
  have hbe : b ≤ e.size := by rw [hP.1]; exact hb
  refine ⟨Or.inr fun t h3 h4 => ltF.2 ?_, fun R hR hs => hW R ?_ ?_⟩
  · have := hl2 (mid - 1) (by omega) (by omega); have := hr2 t h3 h4; omega
  · exact permIn_trans _ _ _ a b hP (permIn_mono _ _ mid b a b (by omega) (Nat.le_refl _) hbe hR)
  · have hR2 : ∀ t, mid ≤ t → t < b → d[pv]! < R[t]! := permIn_all e R mid b (fun x => d[pv]! < x) hbe hR hr2
    have he : ∀ t, t < mid → R[t]! = e[t]! := fun t ht => hR.2.1 t (Or.inl ht)
    intro i j h3 h4 h5
    apply ltF.2
    rcases Nat.lt_or_ge j mid with h6 | h6
    · rw [he i (by omega), he j h6]; have := hl2 i h3 (by omega); have := lo j (by omega) h5; omega
    · rcases Nat.lt_or_ge i mid with h7 | h7
      · rw [he i h7]; have := hl2 i h3 h7; have := hR2 j h6 h5; omega
      · exact ltF.1 (hs i j h7 h4 h5)

theorem sorted_mid {a b mid : Nat} {R : Array Int} {p : Int} (hm : R[mid]! = p) (hl : ∀ t, a ≤ t → t < mid → R[t]! < p) (hr : ∀ t, mid < t → t < b → p ≤ R[t]!) (h1 : SortedIn ltInt a mid R) (h2 : SortedIn ltInt (mid + 1) b R) : SortedIn ltInt a b R := by
  intro i j h3 h4 h5
  apply ltF.2
  rcases Nat.lt_trichotomy j mid with h6 | h6 | h6
  · exact ltF.1 (h1 i j h3 h4 h6)
  · subst h6; have := hl i h3 h4; omega
  · rcases Nat.lt_trichotomy i mid with h7 | h7 | h7
    · have := hl i h3 h7; have := hr j h6 h5; omega
    · subst h7; have := hr j h6 h5; omega
    · exact ltF.1 (h2 i j h7 h4 h5)
/-- What a partition leaves. -/
structure Parted (a b mid : Nat) (p : Int) (e : Array Int) : Prop where
  at_mid : e[mid]! = p
  left : ∀ t, a ≤ t → t < mid → e[t]! < p
  right : ∀ t, mid < t → t < b → p ≤ e[t]!
theorem Parted.permL {a b mid : Nat} {p : Int} {e L : Array Int} (h : Parted a b mid p e) (hs : mid ≤ e.size) (hL : PermIn a mid e L) : Parted a b mid p L :=
  ⟨(hL.2.1 mid (Or.inr (Nat.le_refl _))).trans h.at_mid, permIn_all e L a mid (fun x => x < p) hs hL h.left, fun t h1 h2 => by rw [hL.2.1 t (Or.inr (by omega))]; exact h.right t h1 h2⟩
theorem Parted.permR {a b mid : Nat} {p : Int} {e L : Array Int} (h : Parted a b mid p e) (hs : b ≤ e.size) (hL : PermIn (mid + 1) b e L) : Parted a b mid p L :=
  ⟨(hL.2.1 mid (Or.inl (by omega))).trans h.at_mid, fun t h1 h2 => by rw [hL.2.1 t (Or.inl (by omega))]; exact h.left t h1 h2, fun t h1 h2 => permIn_all e L (mid + 1) b (fun x => p ≤ x) hs hL (fun t h1 h2 => h.right t (by omega) h2) t (by omega) h2⟩
theorem Parted.belowR {a b mid : Nat} {p : Int} {e : Array Int} (h : Parted a b mid p e) : Below ltInt (mid + 1) b e :=
  Or.inr fun t h1 h2 => ltF.2 (by rw [Nat.add_sub_cancel, h.at_mid]; exact h.right t (by omega) h2)
/-- The left part is sorted; then the right one. -/
theorem glueL {A B : Nat} {D : Array Int} {a b mid : Nat} {p : Int} {d e L : Array Int} (hW : Whole A B D a b d) (h1 : a ≤ mid) (h2 : mid < b) (hb : b ≤ d.size) (hP : PermIn a b d e) (hQ : Parted a b mid p e)
    (hL : PermIn a mid e L) (hs : SortedIn ltInt a mid L) : Below ltInt (mid + 1) b L ∧ Whole A B D (mid + 1) b L := by
  have hbe : b ≤ e.size := by rw [hP.1]; exact hb
  have hbL : b ≤ L.size := by rw [hL.1]; exact hbe
  have hQL := hQ.permL (by omega) hL
  refine ⟨hQL.belowR, fun R hR hsR => hW R ?_ ?_⟩
  · exact permIn_trans _ _ _ a b hP (permIn_trans _ _ _ a b (permIn_mono _ _ a mid a b (Nat.le_refl _) (by omega) hbe hL) (permIn_mono _ _ (mid + 1) b a b (by omega) (Nat.le_refl _) hbL hR))
  · have hQR := hQL.permR hbL hR
    exact sorted_mid hQR.at_mid hQR.left hQR.right (hs.congr fun t _ h4 => hR.2.1 t (Or.inl (by omega))) hsR
/-- The right part is sorted; then the left one. -/
theorem glueR {A B : Nat} {D : Array Int} {a b mid : Nat} {p : Int} {d e L : Array Int} (hW : Whole A B D a b d) (h1 : a ≤ mid) (h2 : mid < b) (hb : b ≤ d.size) (hB : Below ltInt a b d) (hP : PermIn a b d e) (hQ : Parted a b mid p e)
    (hL : PermIn (mid + 1) b e L) (hs : SortedIn ltInt (mid + 1) b L) : Below ltInt a mid L ∧ Whole A B D a mid L := by
  have hbe : b ≤ e.size := by rw [hP.1]; exact hb
  have hbL : b ≤ L.size := by rw [hL.1]; exact hbe
  have hQL := hQ.permR hbe hL
  have hPL : PermIn a b d L := permIn_trans _ _ _ a b hP (permIn_mono _ _ (mid + 1) b a b (by omega) (Nat.le_refl _) hbe hL)
  refine ⟨(hB.perm hb hPL).mono (by omega), fun R hR hsR => hW R ?_ ?_⟩
  · exact permIn_trans _ _ _ a b hPL (permIn_mono _ _ a mid a b (Nat.le_refl _) (by omega) hbL hR)
  · have hQR := hQL.permL (by omega) hR
    exact sorted_mid hQR.at_mid hQR.left hQR.right hsR (hs.congr fun t h3 _ => hR.2.1 t (Or.inr (by omega)))
end Go.Proofs.Ytkkolodolmppnaa.So
