/- The sum of bytes, plainly: a register of 32 bits; by bits, by bytes, and by long division. -/
import Derived.Laws.Bits64
namespace Go.Proofs.Ytmafnghokmcijaa

/-- One bit is taken in; p: the polynomial without its first term. -/
def cst (p r : Nat) (b : Bool) : Nat := if (r.testBit 31 != b) then (2 * r % 4294967296) ^^^ p else 2 * r % 4294967296
def crcB (p r : Nat) (l : List Bool) : Nat := l.foldl (cst p) r
def bitsOf (x : UInt8) : List Bool := [x.toNat.testBit 7, x.toNat.testBit 6, x.toNat.testBit 5, x.toNat.testBit 4, x.toNat.testBit 3, x.toNat.testBit 2, x.toNat.testBit 1, x.toNat.testBit 0]
def allBits (l : List UInt8) : List Bool := l.flatMap bitsOf
/-- The sum (or seal) of bytes. -/
def crc (p : Nat) (l : List UInt8) : Nat := crcB p 4294967295 (allBits l) ^^^ 4294967295
def pSum : Nat := 79764919
def pSeal : Nat := 517762881

theorem cst_lt {p r : Nat} {b : Bool} (hp : p < 4294967296) : cst p r b < 4294967296 := by
  unfold cst
  split
  · exact Nat.xor_lt_two_pow (n := 32) (by omega) hp
  · omega
theorem crcB_lt {p : Nat} (hp : p < 4294967296) : ∀ (l : List Bool) {r : Nat}, r < 4294967296 → crcB p r l < 4294967296
  | [], _, h => h
  | _ :: l, _, _ => crcB_lt hp l (cst_lt hp)
theorem crc_lt {p : Nat} (hp : p < 4294967296) (l : List UInt8) : crc p l < 4294967296 := Nat.xor_lt_two_pow (n := 32) (crcB_lt hp _ (by omega)) (by omega)
theorem crcB_append (p r : Nat) (a b : List Bool) : crcB p r (a ++ b) = crcB p (crcB p r a) b := by simp [crcB]

theorem allBits_append (a b : List UInt8) : allBits (a ++ b) = allBits a ++ allBits b := by simp [allBits]
theorem allBits_one (x : UInt8) : allBits [x] = bitsOf x := by simp [allBits]
theorem allBits_length (l : List UInt8) : (allBits l).length = 8 * l.length := by
  induction l with
  | nil => rfl
  | cons x l ih => rw [show x :: l = [x] ++ l from rfl, allBits_append, allBits_one]; simp [ih, bitsOf]; omega

/-- The program's way: the register is shifted; if it runs over, the polynomial (with its first term) is laid upon it. -/
def div1 (p r : Nat) : Nat := if 4294967295 < 2 * r then (2 * r) ^^^ (p + 4294967296) else 2 * r

/-- Bits from the bit 31 down. -/
def high : List Bool → Nat
  | [] => 0
  | b :: l => (if b then 2147483648 else 0) + high l / 2

theorem high_lt : ∀ l, high l < 4294967296
  | [] => by simp [high]
  | b :: l => by have := high_lt l; simp only [high]; split <;> omega

theorem bit_high_top (b : Bool) (l : List Bool) : (high (b :: l)).testBit 31 = b := by
  have := high_lt l
  cases b
  · simp only [high]; exact Nat.testBit_lt_two_pow (by simp; omega)
  · simp only [high, if_true]
    rw [show (2147483648 : Nat) = 2 ^ 31 by decide, Nat.testBit_two_pow_add_eq]
    rw [Nat.testBit_lt_two_pow (by omega)]; rfl

/-- As long as what lies behind has even values: 'high l' ends in a nought for l shorter than 32. -/
theorem high_even : ∀ (l : List Bool) (k : Nat), l.length ≤ k → k ≤ 32 → high l % 2 ^ (32 - k) = 0
  | [], k, _, _ => by simp [high]
  | b :: l, k, h, hk => by
    have hl := high_even l (k - 1) (by simp at h; omega) (by omega)
    simp only [List.length_cons] at h
    have e : 32 - (k - 1) = (32 - k) + 1 := by omega
    rw [e, Nat.pow_succ] at hl
    have h1 : 2 ^ (32 - k) * 2 ∣ high l := Nat.dvd_of_mod_eq_zero hl
    obtain ⟨c, hc⟩ := h1
    simp only [high]
    have h2 : high l / 2 = 2 ^ (32 - k) * c := by rw [hc, Nat.mul_assoc, Nat.mul_comm 2 c, ← Nat.mul_assoc]; exact Nat.mul_div_cancel _ (by omega)
    have h3 : 2 ^ (32 - k) ∣ 2147483648 := by
      rw [show (2147483648 : Nat) = 2 ^ 31 by decide]
      exact Nat.pow_dvd_pow 2 (by omega)
    rw [h2]
    apply Nat.mod_eq_zero_of_dvd
    refine Nat.dvd_add ?_ (Nat.dvd_mul_right _ _)
    split
    · exact h3
    · exact Nat.dvd_zero _

theorem high_shift (b : Bool) (l : List Bool) (h : l.length ≤ 31) : 2 * high (b :: l) % 4294967296 = high l := by
  have he := high_even l 31 h (by omega)
  have := high_lt l
  simp only [high]
  simp at he
  split <;> omega

theorem xor_two_mul (a b : Nat) : 2 * (a ^^^ b) = (2 * a) ^^^ (2 * b) := by
  apply Nat.eq_of_testBit_eq
  intro i
  cases i with
  | zero => simp
  | succ i =>
    rw [Nat.testBit_xor, Nat.testBit_succ, Nat.testBit_succ, Nat.testBit_succ, Nat.mul_div_cancel_left _ (by omega), Nat.mul_div_cancel_left _ (by omega), Nat.mul_div_cancel_left _ (by omega), Nat.testBit_xor]

theorem xor_mod (a b : Nat) : (a ^^^ b) % 4294967296 = (a % 4294967296) ^^^ (b % 4294967296) := Nat.xor_mod_two_pow (n := 32)

theorem div1_step (p r : Nat) (b : Bool) (l : List Bool) (hp : p < 4294967296) (hr : r < 4294967296) (hl : l.length ≤ 31) : div1 p (r ^^^ high (b :: l)) = cst p r b ^^^ high l := by
  have hs : r ^^^ high (b :: l) < 4294967296 := Nat.xor_lt_two_pow (n := 32) hr (high_lt _)
  have htop : (r ^^^ high (b :: l)).testBit 31 = (r.testBit 31 != b) := by
    rw [Nat.testBit_xor, bit_high_top]
  have hmod : 2 * (r ^^^ high (b :: l)) % 4294967296 = (2 * r % 4294967296) ^^^ high l := by
    rw [xor_two_mul, xor_mod, high_shift b l hl]
  generalize r ^^^ high (b :: l) = s at hs htop hmod
  have hgt : (4294967295 < 2 * s) ↔ s.testBit 31 = true := by
    constructor
    · intro h
      rw [show s = 2 ^ 31 + (s - 2 ^ 31) by omega, Nat.testBit_two_pow_add_eq, Nat.testBit_lt_two_pow (by omega)]; rfl
    · intro h
      have := Nat.ge_two_pow_of_testBit h
      omega
  unfold div1 cst
  rw [← htop]
  by_cases h : s.testBit 31 = true
  · rw [if_pos (hgt.2 h), if_pos h]
    have h2 : 2 * s = 2 * s % 4294967296 + 4294967296 := by have := hgt.2 h; omega
    have e : (2 * s % 4294967296 + 4294967296) ^^^ (p + 4294967296) = (2 * s % 4294967296) ^^^ p := by
      have h1 : 2 * s % 4294967296 < 2 ^ 32 := by omega
      apply Nat.eq_of_testBit_eq
      intro i
      rw [Nat.add_comm _ 4294967296, Nat.add_comm p 4294967296, show (4294967296 : Nat) = 2 ^ 32 by decide]
      rcases Nat.lt_trichotomy i 32 with hi | hi | hi
      · rw [Nat.testBit_xor, Nat.testBit_xor, Nat.testBit_two_pow_add_gt hi, Nat.testBit_two_pow_add_gt hi]
      · subst hi
        rw [Nat.testBit_xor, Nat.testBit_xor, Nat.testBit_two_pow_add_eq, Nat.testBit_two_pow_add_eq, Nat.testBit_lt_two_pow h1, Nat.testBit_lt_two_pow (by omega : p < 2 ^ 32)]; rfl
      · have ha : 2 ^ 32 + 2 * s % 2 ^ 32 < 2 ^ i := Nat.lt_of_lt_of_le (by omega : _ < 2 ^ 33) (Nat.pow_le_pow_right (by omega) (by omega))
        have hb : 2 ^ 32 + p < 2 ^ i := Nat.lt_of_lt_of_le (by omega : _ < 2 ^ 33) (Nat.pow_le_pow_right (by omega) (by omega))
        rw [Nat.testBit_xor, Nat.testBit_xor, Nat.testBit_lt_two_pow ha, Nat.testBit_lt_two_pow hb, Nat.testBit_lt_two_pow (by omega : 2 * s % 2 ^ 32 < 2 ^ i), Nat.testBit_lt_two_pow (by omega : p < 2 ^ i)]
    rw [← h2] at e
    rw [e, hmod, Nat.xor_assoc, Nat.xor_assoc, Nat.xor_comm (high l)]
  · rw [if_neg (fun hh => h (hgt.1 hh)), if_neg h, ← hmod]
    have : ¬ 4294967295 < 2 * s := fun hh => h (hgt.1 hh)
    omega

/-- So many shifts. -/
def divN (p : Nat) : Nat → Nat → Nat
  | 0, r => r
  | k + 1, r => divN p k (div1 p r)

theorem divN_high (p : Nat) (hp : p < 4294967296) (b : List Bool) : ∀ (a : List Bool) (r : Nat), r < 4294967296 → (a ++ b).length ≤ 32 → divN p a.length (r ^^^ high (a ++ b)) = crcB p r a ^^^ high b
  | [], r, _, _ => by simp [divN, crcB]
  | x :: a, r, hr, hl => by
    simp only [List.cons_append, List.length_cons] at hl ⊢
    rw [divN, div1_step p r x (a ++ b) hp hr (by omega), divN_high p hp b a _ (cst_lt hp) (by omega)]
    rfl

theorem byte_high (x : UInt8) : x.toNat * 16777216 = high (bitsOf x) := by
  have hx := x.toNat_lt
  have e : ∀ n : Nat, n < 256 → n * 16777216 = high [n.testBit 7, n.testBit 6, n.testBit 5, n.testBit 4, n.testBit 3, n.testBit 2, n.testBit 1, n.testBit 0] := by decide +kernel
  exact e _ (by simpa using hx)

theorem divN_byte (p : Nat) (hp : p < 4294967296) (x : UInt8) (r : Nat) (hr : r < 4294967296) : divN p 8 (r ^^^ (x.toNat * 16777216)) = crcB p r (bitsOf x) := by
  rw [byte_high]
  have := divN_high p hp [] (bitsOf x) r hr (by simp [bitsOf])
  rw [List.append_nil] at this
  rw [show (8 : Nat) = (bitsOf x).length from rfl, this]
  simp [high]

theorem bits_xor_i64 (a b : Nat) (ha : a < 9223372036854775808) (hb : b < 9223372036854775808) : bits .xor .i64 (a : Int) (b : Int) = ((a ^^^ b : Nat) : Int) := by
  have hx : a ^^^ b < 2 ^ 63 := Nat.xor_lt_two_pow (by omega) (by omega)
  have h1 : (BitVec.ofInt 64 (a : Int)).toNat = a := by
    rw [BitVec.ofInt_natCast, BitVec.toNat_ofNat]; exact Nat.mod_eq_of_lt (by omega)
  have h2 : (BitVec.ofInt 64 (b : Int)).toNat = b := by
    rw [BitVec.ofInt_natCast, BitVec.toNat_ofNat]; exact Nat.mod_eq_of_lt (by omega)
  show IntKind.i64.wrap ((BitVec.ofInt 64 (a : Int) ^^^ BitVec.ofInt 64 (b : Int)).toNat : Int) = _
  rw [BitVec.toNat_xor, h1, h2]
  simp [IntKind.wrap, IntKind.bits, IntKind.signed]
  omega

theorem bits_and_one (a : Nat) (ha : a < 9223372036854775808) : bits .and .i64 (a : Int) 1 = ((a % 2 : Nat) : Int) := by
  have h1 : (BitVec.ofInt 64 (a : Int)).toNat = a := by
    rw [BitVec.ofInt_natCast, BitVec.toNat_ofNat]; exact Nat.mod_eq_of_lt (by omega)
  show IntKind.i64.wrap ((BitVec.ofInt 64 (a : Int) &&& BitVec.ofInt 64 1).toNat : Int) = _
  have h2 : (BitVec.ofInt 64 (1 : Int)).toNat = 1 := by decide
  rw [BitVec.toNat_and, h1, h2, Nat.and_one_is_mod]
  simp [IntKind.wrap, IntKind.bits, IntKind.signed]
  omega

theorem bit_test (a k : Nat) (ha : a < 9223372036854775808) : (bits .and .i64 ((a : Int) / 2 ^ k) 1 == 1) = a.testBit k := by
  have e : ((a : Int) / 2 ^ k) = ((a / 2 ^ k : Nat) : Int) := by
    rw [Int.natCast_ediv, Int.natCast_pow]; rfl
  rw [e, bits_and_one _ (Nat.lt_of_le_of_lt (Nat.div_le_self _ _) ha), Nat.testBit_eq_decide_div_mod_eq]
  by_cases h : a / 2 ^ k % 2 = 1
  · simp [h]
  · have h0 : a / 2 ^ k % 2 = 0 := by omega
    simp [h0]

theorem bitsOf_at (x : UInt8) (j : Nat) (h : j < 8) : (bitsOf x)[j]? = some (x.toNat.testBit (7 - j)) := by
  have : j = 0 ∨ j = 1 ∨ j = 2 ∨ j = 3 ∨ j = 4 ∨ j = 5 ∨ j = 6 ∨ j = 7 := by omega
  rcases this with rfl | rfl | rfl | rfl | rfl | rfl | rfl | rfl <;> rfl
theorem bitsOf_take (x : UInt8) (j : Nat) (h : j < 8) : (bitsOf x).take (j + 1) = (bitsOf x).take j ++ [x.toNat.testBit (7 - j)] := by
  have hl : j < (bitsOf x).length := h
  rw [List.take_succ_eq_append_getElem hl]
  have := bitsOf_at x j h
  rw [List.getElem?_eq_getElem hl] at this
  simp at this
  rw [this]
end Go.Proofs.Ytmafnghokmcijaa
