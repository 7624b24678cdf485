/-
  Plain facts on bytes of numbers, texts, events and messages: what was put is got, what is got was put, and no beginning of it is anything. No program here.
-/
import Derived.Test.YtnnoampmcghnaaaFlParse
namespace Go.Proofs.Ytnnoampmcghnaaa.Wi
open Go.Proofs.Ytnnoampmcghnaaa.Fl
set_option linter.unusedVariables false
set_option linter.unusedSimpArgs false

/-- What reading comes to: an error's number, or something and what is left. -/
inductive Got (α : Type) where
  | bad (n : Nat)
  | got (a : α) (r : List UInt8)
/-- How something is put and got: which things may be, and the laws of both. -/
structure Fmt (α : Type) where
  put : α → List UInt8
  get : List UInt8 → Got α
  ok : α → Prop
  back : ∀ a r, ok a → get (put a ++ r) = .got a r
  forth : ∀ l a r, get l = .got a r → ok a ∧ l = put a ++ r
  cut : ∀ a k, ok a → k < (put a).length → get ((put a).take k) = .bad 6
  bads : ∀ l n, get l = .bad n → n = 6 ∨ n = 7

/-- A number's bytes. -/
def numL (n : Nat) : List UInt8 := if h : n < 128 then [UInt8.ofNat n] else UInt8.ofNat (n % 128 + 128) :: numL (n / 128)
theorem numL_small {n : Nat} (h : n < 128) : numL n = [UInt8.ofNat n] := by rw [numL]; simp [h]
theorem numL_large {n : Nat} (h : ¬ n < 128) : numL n = UInt8.ofNat (n % 128 + 128) :: numL (n / 128) := by rw [numL]; simp [h]
/-- A number is read, with what is behind the first i bytes of it. -/
def rdN (most : Nat) : Nat → Nat → List UInt8 → Got Nat
  | _, _, [] => .bad 6
  | i, u, x :: r =>
    if i = 9 ∧ 1 < x.toNat then .bad 7
    else if 127 < x.toNat then rdN most (i + 1) (u + 128 ^ i * (x.toNat % 128)) r
    else if x.toNat = 0 ∧ 0 < i ∨ most < u + 128 ^ i * (x.toNat % 128) then .bad 7
    else .got (u + 128 ^ i * (x.toNat % 128)) r
theorem toNat_of {n : Nat} (h : n < 256) : (UInt8.ofNat n).toNat = n := by simp [UInt8.toNat_ofNat']; omega
theorem pow_9 : (128 : Nat) ^ 9 = 9223372036854775808 := by decide
theorem pow_pos' (i : Nat) : 0 < 128 ^ i := Nat.pow_pos (by decide)
theorem at_most_9 {i n : Nat} (hn : 0 < n) (h : 128 ^ i * n < 18446744073709551616) : i ≤ 9 := by
  rcases Nat.lt_or_ge 9 i with h9 | h9
  · have h1 : 128 ^ 10 ≤ 128 ^ i := Nat.pow_le_pow_right (by decide) h9
    have h2 : 128 ^ i * 1 ≤ 128 ^ i * n := Nat.mul_le_mul_left _ hn
    have h3 : (128 : Nat) ^ 10 = 1180591620717411303424 := by decide
    omega
  · exact h9
theorem split_128 (i u n : Nat) : u + 128 ^ i * (n % 128) + 128 ^ (i + 1) * (n / 128) = u + 128 ^ i * n := by
  rw [Nat.pow_succ, Nat.mul_assoc, Nat.add_assoc, ← Nat.mul_add, Nat.mod_add_div]
theorem rdN_back (most : Nat) (hm : most < 18446744073709551616) (r : List UInt8) : ∀ (n i u : Nat), (0 < i → 0 < n) → u + 128 ^ i * n ≤ most → rdN most i u (numL n ++ r) = .got (u + 128 ^ i * n) r := by
  intro n
  induction n using Nat.strongRecOn with
  | _ n ih =>
    intro i u h0 hle
    by_cases h : n < 128
    · rw [numL_small h, List.singleton_append, rdN, toNat_of (by omega), Nat.mod_eq_of_lt h]
      have h9 : ¬ (i = 9 ∧ 1 < n) := by
        rintro ⟨rfl, h1⟩
        rw [pow_9] at hle
        omega
      rw [if_neg h9, if_neg (by omega), if_neg (by rintro (⟨h1, h2⟩ | h1); have := h0 h2; omega; omega)]
    · have hi : i < 9 := by
        have h1 : 128 ^ i * 128 ≤ 128 ^ i * n := Nat.mul_le_mul_left _ (by omega)
        have h2 : 128 ^ (i + 1) * 1 < 18446744073709551616 := by rw [Nat.pow_succ]; omega
        have h3 := at_most_9 (i := i + 1) (n := 1) (by decide) h2
        omega
      rw [numL_large h, List.cons_append, rdN, toNat_of (by omega), if_neg (by omega), if_pos (by omega)]
      rw [show (n % 128 + 128) % 128 = n % 128 by omega]
      have h1 := split_128 i u n
      rw [ih (n / 128) (by omega) (i + 1) _ (fun _ => by omega) (by rw [h1]; exact hle), h1]
theorem ofNat_toNat' (x : UInt8) : UInt8.ofNat x.toNat = x := by simp
theorem rdN_forth (most : Nat) : ∀ (l : List UInt8) (i u v : Nat) (r : List UInt8), rdN most i u l = .got v r → v ≤ most ∧ ∃ n, v = u + 128 ^ i * n ∧ l = numL n ++ r ∧ (0 < i → 0 < n)
  | [], i, u, v, r, h => by simp [rdN] at h
  | x :: t, i, u, v, r, h => by
    have hx := x.toNat_lt
    rw [rdN] at h
    split at h
    · cases h
    · split at h
      · next h9 h127 =>
        obtain ⟨hm, n, hv, hl, hn⟩ := rdN_forth most t (i + 1) _ v r h
        have hn0 := hn (by omega)
        have h1 := split_128 i u (x.toNat % 128 + 128 * n)
        rw [show (x.toNat % 128 + 128 * n) % 128 = x.toNat % 128 by omega, show (x.toNat % 128 + 128 * n) / 128 = n by omega] at h1
        refine ⟨hm, x.toNat % 128 + 128 * n, by rw [hv, h1], ?_, fun _ => by omega⟩
        rw [numL_large (by omega), hl, show (x.toNat % 128 + 128 * n) % 128 + 128 = x.toNat by omega, show (x.toNat % 128 + 128 * n) / 128 = n by omega, ofNat_toNat']
        rfl
      · next h9 h127 =>
        split at h
        · cases h
        · next hz =>
          cases h
          refine ⟨by omega, x.toNat, ?_, ?_, fun hi => ?_⟩
          · rw [Nat.mod_eq_of_lt (by omega)]
          · rw [numL_small (by omega), ofNat_toNat']
            rfl
          · rcases Nat.eq_zero_or_pos x.toNat with h0 | h0
            · exact absurd (Or.inl ⟨h0, hi⟩) hz
            · exact h0
theorem rdN_cut (most : Nat) (hm : most < 18446744073709551616) : ∀ (n i u k : Nat), (0 < i → 0 < n) → u + 128 ^ i * n ≤ most → k < (numL n).length → rdN most i u ((numL n).take k) = .bad 6 := by
  intro n
  induction n using Nat.strongRecOn with
  | _ n ih =>
    intro i u k h0 hle hk
    by_cases h : n < 128
    · rw [numL_small h] at hk ⊢
      obtain rfl : k = 0 := by simpa using hk
      rfl
    · have hi : i < 9 := by
        have h1 : 128 ^ i * 128 ≤ 128 ^ i * n := Nat.mul_le_mul_left _ (by omega)
        have h2 : 128 ^ (i + 1) * 1 < 18446744073709551616 := by rw [Nat.pow_succ]; omega
        have h3 := at_most_9 (i := i + 1) (n := 1) (by decide) h2
        omega
      rw [numL_large h] at hk ⊢
      cases k with
      | zero => rfl
      | succ k =>
        rw [List.take_succ_cons, rdN, toNat_of (by omega), if_neg (by omega), if_pos (by omega)]
        rw [show (n % 128 + 128) % 128 = n % 128 by omega]
        exact ih (n / 128) (by omega) (i + 1) _ k (fun _ => by omega) (by rw [split_128]; exact hle) (by simpa using hk)
theorem rdN_bads (most : Nat) : ∀ (l : List UInt8) (i u n : Nat), rdN most i u l = .bad n → n = 6 ∨ n = 7
  | [], i, u, n, h => by cases h; exact Or.inl rfl
  | x :: t, i, u, n, h => by
    rw [rdN] at h
    split at h
    · cases h; exact Or.inr rfl
    · split at h
      · exact rdN_bads most t _ _ n h
      · split at h
        · cases h; exact Or.inr rfl
        · cases h
/-- A number of at most so much. -/
def numF (most : Nat) (hm : most < 18446744073709551616) : Fmt Nat where
  put := numL
  get l := rdN most 0 0 l
  ok n := n ≤ most
  back n r h := by have := rdN_back most hm r n 0 0 (by omega) (by simpa using h); simpa using this
  forth l n r h := by
    obtain ⟨h1, k, h2, h3, -⟩ := rdN_forth most l 0 0 n r h
    obtain rfl : n = k := by simpa using h2
    exact ⟨h1, h3⟩
  cut n k h hk := rdN_cut most hm n 0 0 k (by omega) (by simpa using h) hk
  bads l n h := rdN_bads most l 0 0 n h

/-- One behind the other. -/
def bindG {α β : Type} (x : Got α) (f : α → List UInt8 → Got β) : Got β := match x with | .bad n => .bad n | .got a r => f a r
def bindF {α β : Type} (A : Fmt α) (B : α → Fmt β) : Fmt (α × β) where
  put p := A.put p.1 ++ (B p.1).put p.2
  get l := bindG (A.get l) (fun a r => bindG ((B a).get r) (fun b t => .got (a, b) t))
  ok p := A.ok p.1 ∧ (B p.1).ok p.2
  back p r h := by rw [List.append_assoc, A.back _ _ h.1]; simp only [bindG]; rw [(B p.1).back _ _ h.2]
  forth l p r h := by
    cases ha : A.get l with
    | bad n => rw [ha] at h; cases h
    | got a t =>
      rw [ha] at h
      simp only [bindG] at h
      cases hb : (B a).get t with
      | bad n => rw [hb] at h; cases h
      | got b s =>
        rw [hb] at h
        cases h
        obtain ⟨h1, rfl⟩ := A.forth _ _ _ ha
        obtain ⟨h2, rfl⟩ := (B a).forth _ _ _ hb
        exact ⟨⟨h1, h2⟩, by rw [List.append_assoc]⟩
  cut p k h hk := by
    rcases Nat.lt_or_ge k (A.put p.1).length with h1 | h1
    · rw [List.take_append_of_le_length (by omega), A.cut _ _ h.1 h1]
      rfl
    · rw [List.take_append, List.take_of_length_le h1, A.back _ _ h.1]
      simp only [bindG]
      rw [(B p.1).cut _ _ h.2 (by rw [List.length_append] at hk; omega)]
  bads l n h := by
    cases ha : A.get l with
    | bad m => rw [ha] at h; cases h; exact A.bads _ _ ha
    | got a t =>
      rw [ha] at h
      simp only [bindG] at h
      cases hb : (B a).get t with
      | bad m => rw [hb] at h; cases h; exact (B a).bads _ _ hb
      | got b s => rw [hb] at h; cases h
/-- The same, told otherwise. -/
def mapF {α β : Type} (A : Fmt α) (f : α → β) (g : β → α) (hg : ∀ a, A.ok a → g (f a) = a) : Fmt β where
  put b := A.put (g b)
  get l := bindG (A.get l) (fun a r => .got (f a) r)
  ok b := A.ok (g b) ∧ f (g b) = b
  back b r h := by rw [A.back _ _ h.1]; simp only [bindG]; rw [h.2]
  forth l b r h := by
    cases ha : A.get l with
    | bad n => rw [ha] at h; cases h
    | got a t =>
      rw [ha] at h
      cases h
      obtain ⟨h1, rfl⟩ := A.forth _ _ _ ha
      rw [hg a h1]
      exact ⟨⟨h1, rfl⟩, rfl⟩
  cut b k h hk := by rw [A.cut _ _ h.1 hk]; rfl
  bads l n h := by
    cases ha : A.get l with
    | bad m => rw [ha] at h; cases h; exact A.bads _ _ ha
    | got a t => rw [ha] at h; cases h
/-- Only some of them. -/
def onlyF {α : Type} (A : Fmt α) (p : α → Bool) : Fmt α where
  put := A.put
  get l := bindG (A.get l) (fun a r => if p a then .got a r else .bad 7)
  ok a := A.ok a ∧ p a = true
  back a r h := by rw [A.back _ _ h.1]; simp only [bindG]; rw [if_pos h.2]
  forth l a r h := by
    cases ha : A.get l with
    | bad n => rw [ha] at h; cases h
    | got b t =>
      rw [ha] at h
      simp only [bindG] at h
      split at h
      · cases h
        obtain ⟨h1, rfl⟩ := A.forth _ _ _ ha
        exact ⟨⟨h1, by assumption⟩, rfl⟩
      · cases h
  cut a k h hk := by rw [A.cut _ _ h.1 hk]; rfl
  bads l n h := by
    cases ha : A.get l with
    | bad m => rw [ha] at h; cases h; exact A.bads _ _ ha
    | got a t => rw [ha] at h; simp only [bindG] at h; split at h <;> cases h; exact Or.inr rfl
/-- So many bytes. -/
def rawF (n : Nat) : Fmt (List UInt8) where
  put s := s
  get l := if l.length < n then .bad 6 else .got (l.take n) (l.drop n)
  ok s := s.length = n
  back s r h := by subst h; rw [if_neg (by simp)]; simp
  forth l s r h := by
    split at h
    · cases h
    · cases h
      exact ⟨by simp; omega, by simp⟩
  cut s k h hk := by rw [if_pos (by simp; omega)]
  bads l m h := by split at h <;> cases h; exact Or.inl rfl
/-- So many of a kind. -/
def listG {α : Type} (g : List UInt8 → Got α) : Nat → List UInt8 → Got (List α)
  | 0, l => .got [] l
  | n + 1, l => bindG (g l) (fun a r => bindG (listG g n r) (fun t s => .got (a :: t) s))
def putAll {α : Type} (p : α → List UInt8) : List α → List UInt8
  | [] => []
  | a :: t => p a ++ putAll p t
theorem list_back {α : Type} (A : Fmt α) (r : List UInt8) : ∀ l : List α, (∀ a ∈ l, A.ok a) → listG A.get l.length (putAll A.put l ++ r) = .got l r
  | [], _ => rfl
  | a :: t, h => by
    have h1 := list_back A r t (fun b hb => h b (by simp [hb]))
    simp only [List.length_cons, listG, putAll, List.append_assoc]
    rw [A.back _ _ (h a (by simp))]
    simp only [bindG]
    rw [h1]
theorem list_forth {α : Type} (A : Fmt α) : ∀ (n : Nat) (l : List UInt8) (x : List α) (r : List UInt8), listG A.get n l = .got x r → (x.length = n ∧ ∀ a ∈ x, A.ok a) ∧ l = putAll A.put x ++ r
  | 0, l, x, r, h => by cases h; exact ⟨⟨rfl, by simp⟩, rfl⟩
  | n + 1, l, x, r, h => by
    simp only [listG] at h
    cases ha : A.get l with
    | bad m => rw [ha] at h; cases h
    | got a t =>
      rw [ha] at h
      simp only [bindG] at h
      cases hb : listG A.get n t with
      | bad m => rw [hb] at h; cases h
      | got b s =>
        rw [hb] at h
        cases h
        obtain ⟨h1, rfl⟩ := A.forth _ _ _ ha
        obtain ⟨⟨h2, h3⟩, rfl⟩ := list_forth A n _ _ _ hb
        refine ⟨⟨by simp [h2], ?_⟩, by simp [putAll, List.append_assoc]⟩
        intro c hc
        rcases List.mem_cons.1 hc with rfl | hc
        · exact h1
        · exact h3 c hc
theorem list_cut {α : Type} (A : Fmt α) : ∀ (l : List α) (k : Nat), (∀ a ∈ l, A.ok a) → k < (putAll A.put l).length → listG A.get l.length ((putAll A.put l).take k) = .bad 6
  | [], k, _, h => by simp [putAll] at h
  | a :: t, k, h, hk => by
    simp only [putAll, List.length_cons, listG] at hk ⊢
    rcases Nat.lt_or_ge k (A.put a).length with h1 | h1
    · rw [List.take_append_of_le_length (by omega), A.cut _ _ (h a (by simp)) h1]
      rfl
    · rw [List.take_append, List.take_of_length_le h1, A.back _ _ (h a (by simp))]
      simp only [bindG]
      rw [list_cut A t _ (fun b hb => h b (by simp [hb])) (by rw [List.length_append] at hk; omega)]
theorem list_bads {α : Type} (A : Fmt α) : ∀ (n : Nat) (l : List UInt8) (m : Nat), listG A.get n l = .bad m → m = 6 ∨ m = 7
  | 0, l, m, h => by cases h
  | n + 1, l, m, h => by
    simp only [listG] at h
    cases ha : A.get l with
    | bad q => rw [ha] at h; cases h; exact A.bads _ _ ha
    | got a t =>
      rw [ha] at h
      simp only [bindG] at h
      cases hb : listG A.get n t with
      | bad q => rw [hb] at h; cases h; exact list_bads A n t _ hb
      | got b s => rw [hb] at h; cases h
def timesF {α : Type} (A : Fmt α) (n : Nat) : Fmt (List α) where
  put := putAll A.put
  get := listG A.get n
  ok l := l.length = n ∧ ∀ a ∈ l, A.ok a
  back l r h := by obtain ⟨rfl, h⟩ := h; exact list_back A r l h
  forth l x r h := list_forth A n l x r h
  cut l k h hk := by obtain ⟨rfl, h⟩ := h; exact list_cut A l k h hk
  bads l m h := list_bads A n l m h

/-- Numbers with a sign, as numbers. -/
def zig (n : Int) : Nat := if n < 0 then (2 * (-(n + 1)) + 1).toNat else (2 * n).toNat
def zag (u : Nat) : Int := if u % 2 = 1 then -((u / 2 : Nat) : Int) - 1 else ((u / 2 : Nat) : Int)
theorem zig_zag (u : Nat) : zig (zag u) = u := by unfold zig zag; split <;> split <;> omega
theorem zag_zig (n : Int) : zag (zig n) = n := by unfold zig zag; split <;> split <;> omega
theorem zig_lt {n : Int} (h1 : -9223372036854775808 ≤ n) (h2 : n ≤ 9223372036854775807) : zig n ≤ 18446744073709551615 := by unfold zig; split <;> omega
theorem zag_ge {u : Nat} (h : u ≤ 18446744073709551615) : -9223372036854775808 ≤ zag u ∧ zag u ≤ 9223372036854775807 := by unfold zag; split <;> omega
def signF : Fmt Int := mapF (numF 18446744073709551615 (by decide)) zag zig (fun u _ => zig_zag u)
theorem sign_ok {n : Int} : signF.ok n ↔ -9223372036854775808 ≤ n ∧ n ≤ 9223372036854775807 :=
  ⟨fun h => by have := zag_ge (u := zig n) h.1; rwa [zag_zig] at this, fun h => ⟨zig_lt h.1 h.2, zag_zig n⟩⟩
/-- Numbers of 31 bits. -/
def fewF : Fmt Int := mapF (numF 2147483647 (by decide)) (fun u => (u : Int)) Int.toNat (fun u _ => by simp)
theorem few_ok {n : Int} : fewF.ok n ↔ 0 ≤ n ∧ n ≤ 2147483647 :=
  ⟨fun h => by have h1 : n.toNat ≤ 2147483647 := h.1; have h2 : ((n.toNat : Nat) : Int) = n := h.2; omega, fun h => ⟨show n.toNat ≤ 2147483647 by omega, show ((n.toNat : Nat) : Int) = n by omega⟩⟩
/-- Texts of at most so many bytes. -/
def textF (most : Nat) (hm : most < 18446744073709551616) : Fmt (List UInt8) := mapF (bindF (numF most hm) rawF) Prod.snd (fun s => (s.length, s)) (fun a h => by have h2 : a.2.length = a.1 := h.2; rw [h2])
theorem text_ok {most : Nat} {hm : most < 18446744073709551616} {s : List UInt8} : (textF most hm).ok s ↔ s.length ≤ most :=
  ⟨fun h => h.1.1, fun h => ⟨⟨h, rfl⟩, rfl⟩⟩
/-- At most so many of a kind. -/
def listF {α : Type} (A : Fmt α) (most : Nat) (hm : most < 18446744073709551616) : Fmt (List α) := mapF (bindF (numF most hm) (timesF A)) Prod.snd (fun s => (s.length, s)) (fun a h => by have h2 : a.2.length = a.1 := h.2.1; rw [h2])
theorem list_ok {α : Type} {A : Fmt α} {most : Nat} {hm : most < 18446744073709551616} {s : List α} : (listF A most hm).ok s ↔ s.length ≤ most ∧ ∀ a ∈ s, A.ok a :=
  ⟨fun h => ⟨h.1.1, h.1.2.2⟩, fun h => ⟨⟨h.1, rfl, h.2⟩, rfl⟩⟩
/-- An attribute's value. -/
def valF (k : Nat) : Fmt (Bool × Int × List UInt8) :=
  if k = 1 then mapF (textF 200 (by decide)) (fun s => (true, 0, s)) (fun v => v.2.2) (fun _ _ => rfl)
  else mapF signF (fun n => (false, n, [])) (fun v => v.2.1) (fun _ _ => rfl)
def attF : Fmt Att := mapF (bindF (textF 200 (by decide)) (fun _ => bindF (numF 1 (by decide)) valF)) (fun p => ⟨p.1, p.2.2.1, p.2.2.2.1, p.2.2.2.2⟩) (fun a => (a.name, if a.text then 1 else 0, a.text, a.num, a.str)) (fun p h => by
  obtain ⟨nm, k, tx, n, s⟩ := p
  obtain ⟨-, h1, h2⟩ := h
  have hk : k ≤ 1 := h1
  unfold valF at h2
  simp only at h2 ⊢
  split at h2
  · next h => have h3 : (true, (0 : Int), s) = (tx, n, s) := h2.2; cases h3; rw [h]; rfl
  · next h => have h3 : (false, n, ([] : List UInt8)) = (tx, n, s) := h2.2; cases h3; rw [show k = 0 by omega]; rfl)
def attB (a : Att) : Bool := decide (a.name.length ≤ 200) && decide (a.str.length ≤ 200) && (if a.text then a.num == 0 else a.str == [])
theorem att_ok {a : Att} : attF.ok a ↔ attB a = true ∧ (-9223372036854775808 ≤ a.num ∧ a.num ≤ 9223372036854775807) := by
  obtain ⟨nm, tx, n, s⟩ := a
  have e : attF.ok ⟨nm, tx, n, s⟩ ↔ ((nm.length ≤ 200 ∧ True) ∧ ((if tx then 1 else 0) ≤ 1) ∧ (valF (if tx then 1 else 0)).ok (tx, n, s)) := by
    constructor
    · intro h
      exact ⟨⟨text_ok.1 h.1.1, trivial⟩, h.1.2.1, h.1.2.2⟩
    · intro h
      exact ⟨⟨text_ok.2 h.1.1, h.2.1, h.2.2⟩, rfl⟩
  rw [e]
  cases tx
  · have e2 : (valF 0).ok (false, n, s) ↔ (-9223372036854775808 ≤ n ∧ n ≤ 9223372036854775807) ∧ s = [] := by
      constructor
      · intro h
        have h3 : (false, n, ([] : List UInt8)) = (false, n, s) := h.2
        cases h3
        exact ⟨sign_ok.1 h.1, rfl⟩
      · rintro ⟨h, rfl⟩
        exact ⟨sign_ok.2 h, rfl⟩
    simp only [attB, Bool.false_eq_true, if_false, e2]
    constructor
    · rintro ⟨⟨h1, -⟩, -, h2, rfl⟩
      exact ⟨by simp [h1], h2⟩
    · rintro ⟨h1, h2⟩
      simp only [Bool.and_eq_true, decide_eq_true_eq, beq_iff_eq] at h1
      exact ⟨⟨h1.1.1, trivial⟩, by omega, h2, h1.2⟩
  · have e2 : (valF 1).ok (true, n, s) ↔ s.length ≤ 200 ∧ n = 0 := by
      constructor
      · intro h
        have h3 : (true, (0 : Int), s) = (true, n, s) := h.2
        cases h3
        exact ⟨text_ok.1 h.1, rfl⟩
      · rintro ⟨h, rfl⟩
        exact ⟨text_ok.2 h, rfl⟩
    simp only [attB, if_true, e2]
    constructor
    · rintro ⟨⟨h1, -⟩, -, h2, rfl⟩
      exact ⟨by simp [h1, h2], by omega⟩
    · rintro ⟨h1, h2⟩
      simp only [Bool.and_eq_true, decide_eq_true_eq, beq_iff_eq] at h1
      exact ⟨⟨h1.1.1, trivial⟩, by omega, h1.1.2, h1.2⟩

/-- An event, and a message. -/
structure Ev where
  pub : Int
  seq : Nat
  x : Int
  y : Int
  attrs : List Att
structure Msg where
  kind : Int
  sub : Int
  ver : Int
  home : Int
  x1 : Int
  y1 : Int
  x2 : Int
  y2 : Int
  flt : List UInt8
  ev : Ev
def ev0 : Ev := ⟨0, 0, 0, 0, []⟩
def msg0 : Msg := ⟨0, 0, 0, 0, 0, 0, 0, 0, [], ev0⟩
def seqF : Fmt Nat := numF 4294967295 (by decide)
def evF : Fmt Ev := mapF (bindF fewF (fun _ => bindF seqF (fun _ => bindF signF (fun _ => bindF signF (fun _ => listF attF 16 (by decide)))))) (fun p => ⟨p.1, p.2.1, p.2.2.1, p.2.2.2.1, p.2.2.2.2⟩) (fun e => (e.pub, e.seq, e.x, e.y, e.attrs)) (fun _ _ => rfl)
def insF : Fmt Msg := mapF (bindF fewF (fun _ => bindF fewF (fun _ => bindF fewF (fun _ => bindF signF (fun _ => bindF signF (fun _ => bindF signF (fun _ => bindF signF (fun _ => textF 500 (by decide))))))))) (fun p => ⟨1, p.1, p.2.1, p.2.2.1, p.2.2.2.1, p.2.2.2.2.1, p.2.2.2.2.2.1, p.2.2.2.2.2.2.1, p.2.2.2.2.2.2.2, ev0⟩) (fun m => (m.sub, m.ver, m.home, m.x1, m.y1, m.x2, m.y2, m.flt)) (fun _ _ => rfl)
def retF : Fmt Msg := mapF (bindF fewF (fun _ => fewF)) (fun p => ⟨2, p.1, p.2, 0, 0, 0, 0, 0, [], ev0⟩) (fun m => (m.sub, m.ver)) (fun _ _ => rfl)
def notF : Fmt Msg := mapF (bindF fewF (fun _ => evF)) (fun p => ⟨4, p.1, 0, 0, 0, 0, 0, 0, [], p.2⟩) (fun m => (m.sub, m.ev)) (fun _ _ => rfl)
def eveF : Fmt Msg := mapF evF (fun e => ⟨3, 0, 0, 0, 0, 0, 0, 0, [], e⟩) (fun m => m.ev) (fun _ _ => rfl)
def bodyF (k : Nat) : Fmt Msg := if k = 1 then insF else if k = 2 then retF else if k = 4 then notF else eveF
def kindF : Fmt Nat := onlyF (numF 4 (by decide)) (fun k => !(k == 0))
theorem body_kind {k : Nat} (hk : kindF.ok k) {m : Msg} (h : (bodyF k).ok m) : m.kind = k := by
  have h1 : k ≤ 4 := hk.1
  have h2 : ¬ k = 0 := by have := hk.2; simpa using this
  unfold bodyF at h
  split at h
  · rw [← h.2]; next e => rw [e]; rfl
  · split at h
    · rw [← h.2]; next e => rw [e]; rfl
    · split at h
      · rw [← h.2]; next e => rw [e]; rfl
      · rw [← h.2, show k = 3 by omega]; rfl
def msgF : Fmt Msg := mapF (bindF kindF bodyF) Prod.snd (fun m => (m.kind.toNat, m)) (fun p h => by
  have h1 := body_kind h.1 h.2
  rw [h1]
  rfl)

def coordB (n : Int) : Bool := decide (-1073741824 ≤ n) && decide (n ≤ 1073741824)
def coordR (m : Msg) : Bool := coordB m.x1 && coordB m.y1 && coordB m.x2 && coordB m.y2 && decide (m.x1 ≤ m.x2) && decide (m.y1 ≤ m.y2)
def num31 (n : Int) : Bool := decide (0 ≤ n) && decide (n ≤ 2147483647)
/-- Which events and messages may be. -/
def evB (e : Ev) : Bool := num31 e.pub && coordB e.x && coordB e.y && decide (e.attrs.length ≤ 16) && e.attrs.all attB
def noEv (e : Ev) : Bool := e.pub == 0 && e.seq == 0 && e.x == 0 && e.y == 0 && e.attrs.length == 0
def bareB (m : Msg) : Bool := m.home == 0 && (m.x1 == 0 && m.y1 == 0 && m.x2 == 0 && m.y2 == 0) && m.flt == []
def msgB (m : Msg) : Bool :=
  num31 m.sub && num31 m.ver && num31 m.home && decide (m.flt.length ≤ 500) &&
    (if m.kind = 1 then coordR m && noEv m.ev else if m.kind = 2 then bareB m && noEv m.ev else if m.kind = 3 then bareB m && m.sub == 0 && m.ver == 0 && evB m.ev else if m.kind = 4 then bareB m && m.ver == 0 && evB m.ev else false)
/-- What any value of the type holds. -/
def evR (e : Ev) : Prop := e.seq ≤ 4294967295 ∧ ∀ a ∈ e.attrs, -9223372036854775808 ≤ a.num ∧ a.num ≤ 9223372036854775807
theorem ev_ok {e : Ev} (h : evB e = true) (hr : evR e) : evF.ok e := by
  simp only [evB, num31, coordB, Bool.and_eq_true, decide_eq_true_eq, List.all_eq_true] at h
  refine ⟨⟨few_ok.2 (by show 0 ≤ e.pub ∧ e.pub ≤ 2147483647; omega), ?_, sign_ok.2 (by show -9223372036854775808 ≤ e.x ∧ e.x ≤ 9223372036854775807; omega), sign_ok.2 (by show -9223372036854775808 ≤ e.y ∧ e.y ≤ 9223372036854775807; omega), list_ok.2 ⟨by show e.attrs.length ≤ 16; omega, fun a ha => att_ok.2 ⟨h.2 a ha, hr.2 a ha⟩⟩⟩, rfl⟩
  exact hr.1
theorem no_ev {e : Ev} (h : noEv e = true) : e = ev0 := by
  obtain ⟨p, s, x, y, l⟩ := e
  simp only [noEv, Bool.and_eq_true, beq_iff_eq, List.length_eq_zero_iff] at h
  obtain ⟨⟨⟨⟨rfl, rfl⟩, rfl⟩, rfl⟩, rfl⟩ := h
  rfl
theorem msg_ok {m : Msg} (h : msgB m = true) (hr : evR m.ev) : msgF.ok m := by
  obtain ⟨k, s, v, hm, x1, y1, x2, y2, fl, e⟩ := m
  simp only [msgB, num31, Bool.and_eq_true, decide_eq_true_eq] at h
  obtain ⟨⟨⟨⟨h1, h2⟩, h3⟩, h4⟩, h⟩ := h
  split at h
  · next hk =>
    obtain rfl : k = 1 := hk
    simp only [coordR, coordB, Bool.and_eq_true, decide_eq_true_eq] at h
    obtain ⟨h, he⟩ := h
    obtain rfl := no_ev he
    refine ⟨⟨⟨(by decide : (1 : Nat) ≤ 4), rfl⟩, ?_⟩, rfl⟩
    exact ⟨⟨few_ok.2 h1, few_ok.2 h2, few_ok.2 h3, sign_ok.2 (by show _ ≤ x1 ∧ x1 ≤ _; omega), sign_ok.2 (by show _ ≤ y1 ∧ y1 ≤ _; omega), sign_ok.2 (by show _ ≤ x2 ∧ x2 ≤ _; omega), sign_ok.2 (by show _ ≤ y2 ∧ y2 ≤ _; omega), text_ok.2 h4⟩, rfl⟩
  · split at h
    · next hk =>
      obtain rfl : k = 2 := hk
      simp only [bareB, Bool.and_eq_true, beq_iff_eq] at h
      obtain ⟨⟨⟨rfl, ⟨⟨rfl, rfl⟩, rfl⟩, rfl⟩, rfl⟩, he⟩ := h
      obtain rfl := no_ev he
      exact ⟨⟨⟨(by decide : (2 : Nat) ≤ 4), rfl⟩, ⟨few_ok.2 h1, few_ok.2 h2⟩, rfl⟩, rfl⟩
    · split at h
      · next hk =>
        obtain rfl : k = 3 := hk
        simp only [bareB, Bool.and_eq_true, beq_iff_eq] at h
        obtain ⟨⟨⟨⟨⟨rfl, ⟨⟨rfl, rfl⟩, rfl⟩, rfl⟩, rfl⟩, rfl⟩, rfl⟩, he⟩ := h
        exact ⟨⟨⟨(by decide : (3 : Nat) ≤ 4), rfl⟩, ev_ok he hr, rfl⟩, rfl⟩
      · split at h
        · next hk =>
          obtain rfl : k = 4 := hk
          simp only [bareB, Bool.and_eq_true, beq_iff_eq] at h
          obtain ⟨⟨⟨⟨rfl, ⟨⟨rfl, rfl⟩, rfl⟩, rfl⟩, rfl⟩, rfl⟩, he⟩ := h
          exact ⟨⟨⟨(by decide : (4 : Nat) ≤ 4), rfl⟩, ⟨few_ok.2 h1, ev_ok he hr⟩, rfl⟩, rfl⟩
        · cases h
/-- What bytes are read as: an error's number, or a message. -/
def readM (l : List UInt8) : Nat × Msg := match msgF.get l with
  | .bad n => (n, msg0)
  | .got m r => if r.length = 0 ∧ msgB m = true then (0, m) else (7, msg0)
def putM (m : Msg) : List UInt8 := msgF.put m
theorem read_put {m : Msg} (h : msgB m = true) (hr : evR m.ev) : readM (putM m) = (0, m) := by
  have := msgF.back m [] (msg_ok h hr)
  rw [List.append_nil] at this
  unfold readM putM
  rw [this]
  simp [h]
theorem read_more {m : Msg} (h : msgB m = true) (hr : evR m.ev) (c : UInt8) (t : List UInt8) : readM (putM m ++ c :: t) = (7, msg0) := by
  unfold readM putM
  rw [msgF.back m _ (msg_ok h hr)]
  simp
theorem read_cut {m : Msg} (h : msgB m = true) (hr : evR m.ev) {k : Nat} (hk : k < (putM m).length) : readM ((putM m).take k) = (6, msg0) := by
  unfold readM
  have := msgF.cut m k (msg_ok h hr) hk
  unfold putM
  rw [this]
theorem put_read {l : List UInt8} {m : Msg} (h : readM l = (0, m)) : msgB m = true ∧ putM m = l := by
  unfold readM at h
  split at h
  · next n hb =>
    have h0 : n = 0 := congrArg Prod.fst h
    rcases msgF.bads l n hb with h1 | h1 <;> omega
  · next m' r hg =>
    split at h
    · next hr =>
      cases h
      obtain ⟨h1, h2⟩ := msgF.forth _ _ _ hg
      obtain rfl := List.eq_nil_of_length_eq_zero hr.1
      rw [List.append_nil] at h2
      exact ⟨hr.2, h2.symm⟩
    · cases h
theorem read_code (l : List UInt8) : ((readM l).1 = 0) ∨ (readM l).2 = msg0 ∧ ((readM l).1 = 6 ∨ (readM l).1 = 7) := by
  unfold readM
  split
  · next n hb => exact Or.inr ⟨rfl, msgF.bads l n hb⟩
  · split
    · exact Or.inl rfl
    · exact Or.inr ⟨rfl, Or.inr rfl⟩
theorem put_pos {m : Msg} : 0 < (putM m).length := by
  have e : putM m = numL m.kind.toNat ++ (bodyF m.kind.toNat).put m := rfl
  rw [e, List.length_append]
  rw [numL]
  split <;> simp <;> omega
end Go.Proofs.Ytnnoampmcghnaaa.Wi
