/-
  Plain facts: bits that are spread and gathered by masks are those of a cell's number. No program here.
-/
import Derived.Test.YtkkolodolmppnaaMoPlain
namespace Go.Proofs.Ytkkolodolmppnaa.Mo

theorem bit_high {n k i : Nat} (h : n < 2 ^ k) (hi : k ≤ i) : n.testBit i = false := Nat.testBit_lt_two_pow (Nat.lt_of_lt_of_le h (Nat.pow_le_pow_right (by decide) hi))
/-- A step that spreads, and one that gathers. -/
def upN (g m b : Nat) : Nat := (b ||| b * 2 ^ g % 2 ^ 64) &&& m
def downN (g m b : Nat) : Nat := (b ||| b / 2 ^ g) &&& m
theorem upN_bit (g m b i : Nat) : (upN g m b).testBit i = ((b.testBit i || (decide (i < 64) && (decide (g ≤ i) && b.testBit (i - g)))) && m.testBit i) := by
  unfold upN
  rw [Nat.testBit_and, Nat.testBit_or, Nat.testBit_mod_two_pow, Nat.testBit_mul_two_pow]
theorem downN_bit (g m b i : Nat) : (downN g m b).testBit i = ((b.testBit i || b.testBit (g + i)) && m.testBit i) := by
  unfold downN
  rw [Nat.testBit_and, Nat.testBit_or, Nat.testBit_div_two_pow, Nat.add_comm]

theorem mask16 (i : Nat) : Nat.testBit 281470681808895 i = (decide (i < 64) && decide (i % 32 < 16)) := by
  by_cases h : i < 64
  · have : ∀ i, i < 64 → Nat.testBit 281470681808895 i = decide (i % 32 < 16) := by decide
    rw [this i h, decide_eq_true h, Bool.true_and]
  · rw [decide_eq_false h, Bool.false_and]
    exact bit_high (k := 64) (by decide) (by omega)

theorem mask8 (i : Nat) : Nat.testBit 71777214294589695 i = (decide (i < 64) && decide (i % 16 < 8)) := by
  by_cases h : i < 64
  · have : ∀ i, i < 64 → Nat.testBit 71777214294589695 i = decide (i % 16 < 8) := by decide
    rw [this i h, decide_eq_true h, Bool.true_and]
  · rw [decide_eq_false h, Bool.false_and]
    exact bit_high (k := 64) (by decide) (by omega)

theorem mask4 (i : Nat) : Nat.testBit 1085102592571150095 i = (decide (i < 64) && decide (i % 8 < 4)) := by
  by_cases h : i < 64
  · have : ∀ i, i < 64 → Nat.testBit 1085102592571150095 i = decide (i % 8 < 4) := by decide
    rw [this i h, decide_eq_true h, Bool.true_and]
  · rw [decide_eq_false h, Bool.false_and]
    exact bit_high (k := 64) (by decide) (by omega)

theorem mask2 (i : Nat) : Nat.testBit 3689348814741910323 i = (decide (i < 64) && decide (i % 4 < 2)) := by
  by_cases h : i < 64
  · have : ∀ i, i < 64 → Nat.testBit 3689348814741910323 i = decide (i % 4 < 2) := by decide
    rw [this i h, decide_eq_true h, Bool.true_and]
  · rw [decide_eq_false h, Bool.false_and]
    exact bit_high (k := 64) (by decide) (by omega)

theorem mask1 (i : Nat) : Nat.testBit 6148914691236517205 i = (decide (i < 64) && decide (i % 2 < 1)) := by
  by_cases h : i < 64
  · have : ∀ i, i < 64 → Nat.testBit 6148914691236517205 i = decide (i % 2 < 1) := by decide
    rw [this i h, decide_eq_true h, Bool.true_and]
  · rw [decide_eq_false h, Bool.false_and]
    exact bit_high (k := 64) (by decide) (by omega)

theorem up16 {f : Nat → Bool} {b : Nat} (h : ∀ i, b.testBit i = (decide (i < 64) && decide (i % 64 < 32) && f (i / 64 * 32 + i % 64))) :
    ∀ i, (upN 16 281470681808895 b).testBit i = (decide (i < 64) && decide (i % 32 < 16) && f (i / 32 * 16 + i % 32)) := by
  intro i
  rw [upN_bit, mask16, h i, h (i - 16)]
  by_cases h1 : i < 64
  · by_cases h2 : i % 32 < 16
    · by_cases h3 : i % 64 < 32
      · rw [show i / 32 * 16 + i % 32 = i / 64 * 32 + i % 64 by omega]
        by_cases h4 : 16 ≤ i
        · have h5 : ¬ (i - 16) % 64 < 32 := by omega
          simp [h1, h2, h3, h5]
        · simp [h1, h2, h3, h4]
      · have h4 : 16 ≤ i := by omega
        have h5 : (i - 16) % 64 < 32 := by omega
        have h6 : i - 16 < 64 := by omega
        rw [show (i - 16) / 64 * 32 + (i - 16) % 64 = i / 32 * 16 + i % 32 by omega]
        simp [h1, h2, h3, h4, h5, h6]
    · simp [h2]
  · simp [h1]
theorem down32 {f : Nat → Bool} {b : Nat} (h : ∀ i, b.testBit i = (decide (i < 64) && decide (i % 32 < 16) && f (i / 32 * 16 + i % 32))) {m : Nat}
    (hm : ∀ i, m.testBit i = (decide (i < 64) && decide (i % 64 < 32))) :
    ∀ i, (downN 16 m b).testBit i = (decide (i < 64) && decide (i % 64 < 32) && f (i / 64 * 32 + i % 64)) := by
  intro i
  rw [downN_bit, hm, h i, h (16 + i)]
  by_cases h1 : i < 64
  · by_cases h2 : i % 64 < 32
    · by_cases h3 : i % 64 < 16
      · rw [show i / 32 * 16 + i % 32 = i / 64 * 32 + i % 64 by omega]
        have h4 : i % 32 < 16 := by omega
        have h5 : ¬ (16 + i) % 32 < 16 := by omega
        simp [h1, h2, h4, h5]
      · rw [show (16 + i) / 32 * 16 + (16 + i) % 32 = i / 64 * 32 + i % 64 by omega]
        have h4 : ¬ i % 32 < 16 := by omega
        have h5 : (16 + i) % 32 < 16 := by omega
        have h6 : 16 + i < 64 := by omega
        simp [h1, h2, h4, h5, h6]
    · simp [h2]
  · simp [h1]

theorem up8 {f : Nat → Bool} {b : Nat} (h : ∀ i, b.testBit i = (decide (i < 64) && decide (i % 32 < 16) && f (i / 32 * 16 + i % 32))) :
    ∀ i, (upN 8 71777214294589695 b).testBit i = (decide (i < 64) && decide (i % 16 < 8) && f (i / 16 * 8 + i % 16)) := by
  intro i
  rw [upN_bit, mask8, h i, h (i - 8)]
  by_cases h1 : i < 64
  · by_cases h2 : i % 16 < 8
    · by_cases h3 : i % 32 < 16
      · rw [show i / 16 * 8 + i % 16 = i / 32 * 16 + i % 32 by omega]
        by_cases h4 : 8 ≤ i
        · have h5 : ¬ (i - 8) % 32 < 16 := by omega
          simp [h1, h2, h3, h5]
        · simp [h1, h2, h3, h4]
      · have h4 : 8 ≤ i := by omega
        have h5 : (i - 8) % 32 < 16 := by omega
        have h6 : i - 8 < 64 := by omega
        rw [show (i - 8) / 32 * 16 + (i - 8) % 32 = i / 16 * 8 + i % 16 by omega]
        simp [h1, h2, h3, h4, h5, h6]
    · simp [h2]
  · simp [h1]
theorem down16 {f : Nat → Bool} {b : Nat} (h : ∀ i, b.testBit i = (decide (i < 64) && decide (i % 16 < 8) && f (i / 16 * 8 + i % 16))) {m : Nat}
    (hm : ∀ i, m.testBit i = (decide (i < 64) && decide (i % 32 < 16))) :
    ∀ i, (downN 8 m b).testBit i = (decide (i < 64) && decide (i % 32 < 16) && f (i / 32 * 16 + i % 32)) := by
  intro i
  rw [downN_bit, hm, h i, h (8 + i)]
  by_cases h1 : i < 64
  · by_cases h2 : i % 32 < 16
    · by_cases h3 : i % 32 < 8
      · rw [show i / 16 * 8 + i % 16 = i / 32 * 16 + i % 32 by omega]
        have h4 : i % 16 < 8 := by omega
        have h5 : ¬ (8 + i) % 16 < 8 := by omega
        simp [h1, h2, h4, h5]
      · rw [show (8 + i) / 16 * 8 + (8 + i) % 16 = i / 32 * 16 + i % 32 by omega]
        have h4 : ¬ i % 16 < 8 := by omega
        have h5 : (8 + i) % 16 < 8 := by omega
        have h6 : 8 + i < 64 := by omega
        simp [h1, h2, h4, h5, h6]
    · simp [h2]
  · simp [h1]

theorem up4 {f : Nat → Bool} {b : Nat} (h : ∀ i, b.testBit i = (decide (i < 64) && decide (i % 16 < 8) && f (i / 16 * 8 + i % 16))) :
    ∀ i, (upN 4 1085102592571150095 b).testBit i = (decide (i < 64) && decide (i % 8 < 4) && f (i / 8 * 4 + i % 8)) := by
  intro i
  rw [upN_bit, mask4, h i, h (i - 4)]
  by_cases h1 : i < 64
  · by_cases h2 : i % 8 < 4
    · by_cases h3 : i % 16 < 8
      · rw [show i / 8 * 4 + i % 8 = i / 16 * 8 + i % 16 by omega]
        by_cases h4 : 4 ≤ i
        · have h5 : ¬ (i - 4) % 16 < 8 := by omega
          simp [h1, h2, h3, h5]
        · simp [h1, h2, h3, h4]
      · have h4 : 4 ≤ i := by omega
        have h5 : (i - 4) % 16 < 8 := by omega
        have h6 : i - 4 < 64 := by omega
        rw [show (i - 4) / 16 * 8 + (i - 4) % 16 = i / 8 * 4 + i % 8 by omega]
        simp [h1, h2, h3, h4, h5, h6]
    · simp [h2]
  · simp [h1]
theorem down8 {f : Nat → Bool} {b : Nat} (h : ∀ i, b.testBit i = (decide (i < 64) && decide (i % 8 < 4) && f (i / 8 * 4 + i % 8))) {m : Nat}
    (hm : ∀ i, m.testBit i = (decide (i < 64) && decide (i % 16 < 8))) :
    ∀ i, (downN 4 m b).testBit i = (decide (i < 64) && decide (i % 16 < 8) && f (i / 16 * 8 + i % 16)) := by
  intro i
  rw [downN_bit, hm, h i, h (4 + i)]
  by_cases h1 : i < 64
  · by_cases h2 : i % 16 < 8
    · by_cases h3 : i % 16 < 4
      · rw [show i / 8 * 4 + i % 8 = i / 16 * 8 + i % 16 by omega]
        have h4 : i % 8 < 4 := by omega
        have h5 : ¬ (4 + i) % 8 < 4 := by omega
        simp [h1, h2, h4, h5]
      · rw [show (4 + i) / 8 * 4 + (4 + i) % 8 = i / 16 * 8 + i % 16 by omega]
        have h4 : ¬ i % 8 < 4 := by omega
        have h5 : (4 + i) % 8 < 4 := by omega
        have h6 : 4 + i < 64 := by omega
        simp [h1, h2, h4, h5, h6]
    · simp [h2]
  · simp [h1]

theorem up2 {f : Nat → Bool} {b : Nat} (h : ∀ i, b.testBit i = (decide (i < 64) && decide (i % 8 < 4) && f (i / 8 * 4 + i % 8))) :
    ∀ i, (upN 2 3689348814741910323 b).testBit i = (decide (i < 64) && decide (i % 4 < 2) && f (i / 4 * 2 + i % 4)) := by
  intro i
  rw [upN_bit, mask2, h i, h (i - 2)]
  by_cases h1 : i < 64
  · by_cases h2 : i % 4 < 2
    · by_cases h3 : i % 8 < 4
      · rw [show i / 4 * 2 + i % 4 = i / 8 * 4 + i % 8 by omega]
        by_cases h4 : 2 ≤ i
        · have h5 : ¬ (i - 2) % 8 < 4 := by omega
          simp [h1, h2, h3, h5]
        · simp [h1, h2, h3, h4]
      · have h4 : 2 ≤ i := by omega
        have h5 : (i - 2) % 8 < 4 := by omega
        have h6 : i - 2 < 64 := by omega
        rw [show (i - 2) / 8 * 4 + (i - 2) % 8 = i / 4 * 2 + i % 4 by omega]
        simp [h1, h2, h3, h4, h5, h6]
    · simp [h2]
  · simp [h1]
theorem down4 {f : Nat → Bool} {b : Nat} (h : ∀ i, b.testBit i = (decide (i < 64) && decide (i % 4 < 2) && f (i / 4 * 2 + i % 4))) {m : Nat}
    (hm : ∀ i, m.testBit i = (decide (i < 64) && decide (i % 8 < 4))) :
    ∀ i, (downN 2 m b).testBit i = (decide (i < 64) && decide (i % 8 < 4) && f (i / 8 * 4 + i % 8)) := by
  intro i
  rw [downN_bit, hm, h i, h (2 + i)]
  by_cases h1 : i < 64
  · by_cases h2 : i % 8 < 4
    · by_cases h3 : i % 8 < 2
      · rw [show i / 4 * 2 + i % 4 = i / 8 * 4 + i % 8 by omega]
        have h4 : i % 4 < 2 := by omega
        have h5 : ¬ (2 + i) % 4 < 2 := by omega
        simp [h1, h2, h4, h5]
      · rw [show (2 + i) / 4 * 2 + (2 + i) % 4 = i / 8 * 4 + i % 8 by omega]
        have h4 : ¬ i % 4 < 2 := by omega
        have h5 : (2 + i) % 4 < 2 := by omega
        have h6 : 2 + i < 64 := by omega
        simp [h1, h2, h4, h5, h6]
    · simp [h2]
  · simp [h1]

theorem up1 {f : Nat → Bool} {b : Nat} (h : ∀ i, b.testBit i = (decide (i < 64) && decide (i % 4 < 2) && f (i / 4 * 2 + i % 4))) :
    ∀ i, (upN 1 6148914691236517205 b).testBit i = (decide (i < 64) && decide (i % 2 < 1) && f (i / 2 * 1 + i % 2)) := by
  intro i
  rw [upN_bit, mask1, h i, h (i - 1)]
  by_cases h1 : i < 64
  · by_cases h2 : i % 2 < 1
    · by_cases h3 : i % 4 < 2
      · rw [show i / 2 * 1 + i % 2 = i / 4 * 2 + i % 4 by omega]
        by_cases h4 : 1 ≤ i
        · have h5 : ¬ (i - 1) % 4 < 2 := by omega
          simp [h1, h2, h3, h5]
        · simp [h1, h2, h3, h4]
      · have h4 : 1 ≤ i := by omega
        have h5 : (i - 1) % 4 < 2 := by omega
        have h6 : i - 1 < 64 := by omega
        rw [show (i - 1) / 4 * 2 + (i - 1) % 4 = i / 2 * 1 + i % 2 by omega]
        simp [h1, h2, h3, h4, h5, h6]
    · simp [h2]
  · simp [h1]
theorem down2 {f : Nat → Bool} {b : Nat} (h : ∀ i, b.testBit i = (decide (i < 64) && decide (i % 2 < 1) && f (i / 2 * 1 + i % 2))) {m : Nat}
    (hm : ∀ i, m.testBit i = (decide (i < 64) && decide (i % 4 < 2))) :
    ∀ i, (downN 1 m b).testBit i = (decide (i < 64) && decide (i % 4 < 2) && f (i / 4 * 2 + i % 4)) := by
  intro i
  rw [downN_bit, hm, h i, h (1 + i)]
  by_cases h1 : i < 64
  · by_cases h2 : i % 4 < 2
    · by_cases h3 : i % 4 < 1
      · rw [show i / 2 * 1 + i % 2 = i / 4 * 2 + i % 4 by omega]
        have h4 : i % 2 < 1 := by omega
        have h5 : ¬ (1 + i) % 2 < 1 := by omega
        simp [h1, h2, h4, h5]
      · rw [show (1 + i) / 2 * 1 + (1 + i) % 2 = i / 4 * 2 + i % 4 by omega]
        have h4 : ¬ i % 2 < 1 := by omega
        have h5 : (1 + i) % 2 < 1 := by omega
        have h6 : 1 + i < 64 := by omega
        simp [h1, h2, h4, h5, h6]
    · simp [h2]
  · simp [h1]

/-- The code's spread and gather. -/
def spreadN (n : Nat) : Nat := upN 1 6148914691236517205 (upN 2 3689348814741910323 (upN 4 1085102592571150095 (upN 8 71777214294589695 (upN 16 281470681808895 n))))
def gatherN (c : Nat) : Nat := downN 16 2147483647 (downN 8 281470681808895 (downN 4 71777214294589695 (downN 2 1085102592571150095 (downN 1 3689348814741910323 (c &&& 6148914691236517205)))))
theorem spreadN_bit {n : Nat} (h : n < 2 ^ 32) (i : Nat) : (spreadN n).testBit i = (decide (i < 64) && decide (i % 2 < 1) && n.testBit (i / 2)) := by
  have h0 : ∀ i, n.testBit i = (decide (i < 64) && decide (i % 64 < 32) && n.testBit (i / 64 * 32 + i % 64)) := by
    intro i
    by_cases h1 : i < 32
    · rw [show i / 64 * 32 + i % 64 = i by omega, decide_eq_true (show i < 64 by omega), decide_eq_true (show i % 64 < 32 by omega)]; rfl
    · rw [bit_high h (by omega)]
      by_cases h2 : i < 64
      · rw [decide_eq_false (show ¬ i % 64 < 32 by omega)]; simp
      · simp [h2]
  have h5 := up1 (up2 (up4 (up8 (up16 h0)))) i
  unfold spreadN
  rw [h5]
  by_cases h6 : i % 2 < 1
  · rw [show i / 2 * 1 + i % 2 = i / 2 by omega]
  · simp [h6]
theorem gatherN_bit (c i : Nat) : (gatherN c).testBit i = (decide (i < 31) && c.testBit (2 * i)) := by
  obtain ⟨f, hf⟩ : ∃ f : Nat → Bool, ∀ j, f j = c.testBit (2 * j) := ⟨_, fun _ => rfl⟩
  have h0 : ∀ i, (c &&& 6148914691236517205).testBit i = (decide (i < 64) && decide (i % 2 < 1) && f (i / 2 * 1 + i % 2)) := by
    intro i
    rw [Nat.testBit_and, mask1]
    by_cases h6 : i % 2 < 1
    · rw [show i / 2 * 1 + i % 2 = i / 2 by omega, hf, show 2 * (i / 2) = i by omega, Bool.and_comm]
    · simp [h6]
  have h4 := down16 (down8 (down4 (down2 h0 mask2) mask4) mask8) mask16
  unfold gatherN
  rw [downN_bit, h4 i, h4 (16 + i)]
  have hm : Nat.testBit 2147483647 i = decide (i < 31) := Nat.testBit_two_pow_sub_one 31 i
  rw [hm, ← hf]
  by_cases h1 : i < 31
  · by_cases h2 : i < 16
    · have h3 : ¬ (16 + i) % 32 < 16 := by omega
      have h5 : i % 32 < 16 := by omega
      have h6 : i < 64 := by omega
      rw [show i / 32 * 16 + i % 32 = i by omega]
      simp [h1, h3, h5, h6]
    · have h3 : (16 + i) % 32 < 16 := by omega
      have h5 : ¬ i % 32 < 16 := by omega
      have h6 : 16 + i < 64 := by omega
      rw [show (16 + i) / 32 * 16 + (16 + i) % 32 = i by omega]
      simp [h1, h3, h5, h6]
  · simp [h1]
theorem evenF_bit : ∀ (k n i : Nat), (evenF k n).testBit i = (decide (i < k) && n.testBit (2 * i))
  | 0, n, i => by simp [evenF]
  | k + 1, n, 0 => by
    rw [evenF_succ, Nat.mul_zero, Nat.testBit_zero, Nat.testBit_zero]
    simp
  | k + 1, n, i + 1 => by
    rw [show 2 * (i + 1) = 2 * i + 1 + 1 by omega, Nat.testBit_succ, Nat.testBit_succ, Nat.testBit_succ, evenF_succ, show (2 * evenF k (n / 4) + n % 2) / 2 = evenF k (n / 4) by omega, evenF_bit k, Nat.div_div_eq_div_mul]
    simp
theorem oddF_eq : ∀ (k n : Nat), oddF k n = evenF k (n / 2)
  | 0, n => rfl
  | k + 1, n => by rw [oddF_succ, evenF_succ, oddF_eq k, Nat.div_div_eq_div_mul, Nat.div_div_eq_div_mul]
theorem gatherN_eq (c : Nat) : gatherN c = evenF 31 c := Nat.eq_of_testBit_eq fun i => by rw [gatherN_bit, evenF_bit]
theorem spreadN_eq {n : Nat} (h : n < 2 ^ 31) : spreadN n = codeF 31 n 0 := by
  refine Nat.eq_of_testBit_eq fun i => ?_
  rw [spreadN_bit (by omega)]
  obtain ⟨j, hj⟩ : ∃ j, i = 2 * j ∨ i = 2 * j + 1 := ⟨i / 2, by omega⟩
  rcases hj with rfl | rfl
  · rw [codeF_even, show 2 * j / 2 = j by omega]
    by_cases h1 : j < 31
    · simp [h1]; omega
    · rw [bit_high h (by omega)]; simp
  · rw [codeF_odd]
    simp
theorem codeF_or (c r : Nat) : codeF 31 c 0 ||| codeF 31 r 0 * 2 = codeF 31 c r := by
  refine Nat.eq_of_testBit_eq fun i => ?_
  rw [Nat.testBit_or, show codeF 31 r 0 * 2 = codeF 31 r 0 * 2 ^ 1 from rfl, Nat.testBit_mul_two_pow]
  obtain ⟨j, hj⟩ : ∃ j, i = 2 * j ∨ i = 2 * j + 1 := ⟨i / 2, by omega⟩
  rcases hj with rfl | rfl
  · rw [codeF_even, codeF_even]
    cases j with
    | zero => simp
    | succ j => rw [show 2 * (j + 1) - 1 = 2 * j + 1 by omega, codeF_odd]; simp
  · rw [codeF_odd, codeF_odd, show 2 * j + 1 - 1 = 2 * j by omega, codeF_even]
    simp
theorem codeF_low : ∀ (k c : Nat), codeF k c 0 < 4 ^ k := fun k c => codeF_lt k c 0
end Go.Proofs.Ytkkolodolmppnaa.Mo
