/-
  The plain arithmetic behind layer 4 (morton): a cell's number out of its column's and row's bits, and back; a coordinate's column. No program here.
-/
namespace Go.Proofs.Ytkkolodolmppnaa.Mo

/-- The number of a cell, of k bits each. -/
def codeF : Nat → Nat → Nat → Nat
  | 0, _, _ => 0
  | k + 1, c, r => 4 * codeF k (c / 2) (r / 2) + c % 2 + 2 * (r % 2)
/-- The column and the row of a number. -/
def evenF : Nat → Nat → Nat
  | 0, _ => 0
  | k + 1, n => 2 * evenF k (n / 4) + n % 2
def oddF : Nat → Nat → Nat
  | 0, _ => 0
  | k + 1, n => 2 * oddF k (n / 4) + n / 2 % 2
theorem codeF_succ (k c r : Nat) : codeF (k + 1) c r = 4 * codeF k (c / 2) (r / 2) + c % 2 + 2 * (r % 2) := rfl
theorem evenF_succ (k n : Nat) : evenF (k + 1) n = 2 * evenF k (n / 4) + n % 2 := rfl
theorem oddF_succ (k n : Nat) : oddF (k + 1) n = 2 * oddF k (n / 4) + n / 2 % 2 := rfl
theorem codeF_zero : ∀ k : Nat, codeF k 0 0 = 0
  | 0 => rfl
  | k + 1 => by rw [codeF_succ, Nat.zero_div, codeF_zero k]
theorem codeF_lt : ∀ (k c r : Nat), codeF k c r < 4 ^ k
  | 0, _, _ => by simp [codeF]
  | k + 1, c, r => by
    have := codeF_lt k (c / 2) (r / 2)
    rw [codeF_succ, Nat.pow_succ]
    omega
theorem evenF_lt : ∀ (k n : Nat), evenF k n < 2 ^ k
  | 0, _ => by simp [evenF]
  | k + 1, n => by
    have := evenF_lt k (n / 4)
    unfold evenF
    rw [Nat.pow_succ]
    omega
theorem oddF_lt : ∀ (k n : Nat), oddF k n < 2 ^ k
  | 0, _ => by simp [oddF]
  | k + 1, n => by
    have := oddF_lt k (n / 4)
    unfold oddF
    rw [Nat.pow_succ]
    omega
theorem half_lt {c k : Nat} (h : c < 2 ^ (k + 1)) : c / 2 < 2 ^ k := by rw [Nat.pow_succ] at h; omega
/-- A number is split into what it was made of. -/
theorem evenF_codeF : ∀ (k c r : Nat), c < 2 ^ k → evenF k (codeF k c r) = c
  | 0, c, r, h => by simp at h; simp [evenF, h]
  | k + 1, c, r, h => by
    unfold evenF
    rw [codeF_succ, show (4 * codeF k (c / 2) (r / 2) + c % 2 + 2 * (r % 2)) / 4 = codeF k (c / 2) (r / 2) by omega, evenF_codeF k _ _ (half_lt h)]
    omega
theorem oddF_codeF : ∀ (k c r : Nat), r < 2 ^ k → oddF k (codeF k c r) = r
  | 0, c, r, h => by simp at h; simp [oddF, h]
  | k + 1, c, r, h => by
    unfold oddF
    rw [codeF_succ, show (4 * codeF k (c / 2) (r / 2) + c % 2 + 2 * (r % 2)) / 4 = codeF k (c / 2) (r / 2) by omega, oddF_codeF k _ _ (half_lt h)]
    omega
/-- What it is split into makes the number, but for the bits above. -/
theorem codeF_split : ∀ (k n : Nat), codeF k (evenF k n) (oddF k n) = n % 4 ^ k
  | 0, n => by simp [codeF, Nat.mod_one]
  | k + 1, n => by
    have h := codeF_split k (n / 4)
    rw [codeF_succ]
    have e1 : evenF (k + 1) n / 2 = evenF k (n / 4) := by rw [evenF_succ]; omega
    have e2 : oddF (k + 1) n / 2 = oddF k (n / 4) := by rw [oddF_succ]; omega
    have e3 : evenF (k + 1) n % 2 = n % 2 := by rw [evenF_succ]; omega
    have e4 : oddF (k + 1) n % 2 = n / 2 % 2 := by rw [oddF_succ]; omega
    rw [e1, e2, e3, e4, h, Nat.pow_succ, Nat.mul_comm (4 ^ k) 4, Nat.mod_mul]
    omega
/-- More bits make no difference. -/
theorem codeF_more : ∀ (k j c r : Nat), c < 2 ^ k → r < 2 ^ k → codeF (k + j) c r = codeF k c r
  | 0, j, c, r, hc, hr => by
    simp at hc hr
    subst hc hr
    rw [codeF_zero, codeF_zero]
  | k + 1, j, c, r, hc, hr => by
    rw [show k + 1 + j = k + j + 1 by omega, codeF_succ, codeF_succ, codeF_more k j _ _ (half_lt hc) (half_lt hr)]
/-- Without its lowest pairs it is the number of the greater cell. -/
theorem codeF_shift : ∀ (b k c r : Nat), codeF (b + k) c r / 4 ^ b = codeF k (c / 2 ^ b) (r / 2 ^ b)
  | 0, k, c, r => by simp
  | b + 1, k, c, r => by
    rw [show b + 1 + k = b + k + 1 by omega, codeF_succ, Nat.pow_succ, Nat.mul_comm (4 ^ b) 4, ← Nat.div_div_eq_div_mul,
      show (4 * codeF (b + k) (c / 2) (r / 2) + c % 2 + 2 * (r % 2)) / 4 = codeF (b + k) (c / 2) (r / 2) by omega, codeF_shift b k, Nat.div_div_eq_div_mul, Nat.div_div_eq_div_mul, Nat.pow_succ, Nat.mul_comm (2 ^ b) 2]
theorem codeF_inj {k a b c d : Nat} (ha : a < 2 ^ k) (hb : b < 2 ^ k) (hc : c < 2 ^ k) (hd : d < 2 ^ k) : codeF k a b = codeF k c d ↔ a = c ∧ b = d := by
  constructor
  · intro h
    have h1 := congrArg (evenF k) h
    have h2 := congrArg (oddF k) h
    rw [evenF_codeF k _ _ ha, evenF_codeF k _ _ hc] at h1
    rw [oddF_codeF k _ _ hb, oddF_codeF k _ _ hd] at h2
    exact ⟨h1, h2⟩
  · rintro ⟨rfl, rfl⟩
    rfl
/-- Of cells in one quarter no number lies between those of another one. -/
theorem codeF_quarter {b k a c e d : Nat} (ha : a < 2 ^ (b + k)) (hc : c < 2 ^ (b + k)) (he : e < 2 ^ (b + k)) (hd : d < 2 ^ (b + k)) :
    codeF (b + k) a c / 4 ^ b = codeF (b + k) e d / 4 ^ b ↔ a / 2 ^ b = e / 2 ^ b ∧ c / 2 ^ b = d / 2 ^ b := by
  have q : ∀ x, x < 2 ^ (b + k) → x / 2 ^ b < 2 ^ k := fun x hx => Nat.div_lt_of_lt_mul (by rw [← Nat.pow_add]; exact hx)
  rw [codeF_shift, codeF_shift, codeF_inj (q a ha) (q c hc) (q e he) (q d hd)]
/-- Its bits, one by one. -/
theorem codeF_even : ∀ (k i c r : Nat), (codeF k c r).testBit (2 * i) = (decide (i < k) && c.testBit i)
  | 0, i, c, r => by simp [codeF]
  | k + 1, 0, c, r => by
    rw [codeF_succ, Nat.mul_zero, Nat.testBit_zero, Nat.testBit_zero]
    simp
    omega
  | k + 1, i + 1, c, r => by
    rw [show 2 * (i + 1) = 2 * i + 1 + 1 by omega, Nat.testBit_succ, Nat.testBit_succ, codeF_succ, show (4 * codeF k (c / 2) (r / 2) + c % 2 + 2 * (r % 2)) / 2 / 2 = codeF k (c / 2) (r / 2) by omega, codeF_even k i, Nat.testBit_succ]
    simp
theorem codeF_odd : ∀ (k i c r : Nat), (codeF k c r).testBit (2 * i + 1) = (decide (i < k) && r.testBit i)
  | 0, i, c, r => by simp [codeF]
  | k + 1, 0, c, r => by
    rw [codeF_succ, Nat.mul_zero, Nat.zero_add, Nat.testBit_succ, Nat.testBit_zero, Nat.testBit_zero]
    simp
    omega
  | k + 1, i + 1, c, r => by
    rw [show 2 * (i + 1) + 1 = 2 * i + 1 + 1 + 1 by omega, Nat.testBit_succ, Nat.testBit_succ, codeF_succ, show (4 * codeF k (c / 2) (r / 2) + c % 2 + 2 * (r % 2)) / 2 / 2 = codeF k (c / 2) (r / 2) by omega, codeF_odd k i, Nat.testBit_succ]
    simp

/-- A coordinate's column, of cells of 2^s; how many columns there are. -/
def colI (s : Nat) (n : Int) : Int := (n + 1073741824) / 2 ^ s
def sideI (s : Nat) : Int := 2 ^ (31 - s) + 1
theorem two_pos (s : Nat) : (0 : Int) < 2 ^ s := Int.pow_pos (by decide)
theorem colI_lo (s : Nat) (n : Int) : colI s n * 2 ^ s ≤ n + 1073741824 := by unfold colI; exact Int.ediv_mul_le _ (by have := two_pos s; omega)
theorem colI_hi (s : Nat) (n : Int) : n + 1073741824 < (colI s n + 1) * 2 ^ s := by unfold colI; exact Int.lt_ediv_add_one_mul_self _ (two_pos s)
theorem colI_nonneg {s : Nat} {n : Int} (h : -1073741824 ≤ n) : 0 ≤ colI s n := Int.ediv_nonneg (by omega) (by have := two_pos s; omega)
/-- A point's column is one of them. -/
theorem colI_lt {s : Nat} {n : Int} (hs : s ≤ 31) (h : n ≤ 1073741824) : colI s n < sideI s := by
  unfold sideI
  have h1 := colI_lo s n
  have e : (2 : Int) ^ (31 - s) * 2 ^ s = 2147483648 := by rw [← Int.pow_add, Nat.sub_add_cancel hs]; rfl
  have h2 : colI s n * 2 ^ s ≤ 2 ^ (31 - s) * 2 ^ s := by rw [e]; omega
  have := Int.le_of_mul_le_mul_right h2 (two_pos s)
  omega
end Go.Proofs.Ytkkolodolmppnaa.Mo
