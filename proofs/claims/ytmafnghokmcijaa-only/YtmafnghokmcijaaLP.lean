/- Long division of bits comes to the register: the plain mathematics. -/
import Derived.Test.YtmafnghokmcijaaL
namespace Go.Proofs.Ytmafnghokmcijaa

/-- Bit j of the register, the highest first; behind the 32nd nothing. -/
def reg (c j : Nat) : Bool := decide (j < 32) && c.testBit (31 - j)
/-- Bit t of the bytes; noughts behind. -/
def msg (m : List Bool) (t : Nat) : Bool := m.getD t false
/-- What long division holds at t behind i steps. -/
def lfun (p : Nat) (m : List Bool) (i t : Nat) : Bool := reg (crcB p 4294967295 (m.take i)) (t - i) != msg m t
/-- .. and k places into the i-th step, where the divisor is laid upon it. -/
def gfun (p : Nat) (m : List Bool) (i k t : Nat) : Bool := lfun p m i t != (decide (i + 32 < t + k ∧ t ≤ i + 32) && p.testBit (i + 32 - t))

theorem reg_ones (j : Nat) : reg 4294967295 j = decide (j < 32) := by
  unfold reg
  by_cases h : j < 32
  · have : (4294967295 : Nat).testBit (31 - j) = true := by
      rw [show (4294967295 : Nat) = 2 ^ 32 - 1 by decide, Nat.testBit_two_pow_sub_one]; simp; omega
    simp [h, this]
  · simp [h]

theorem lfun_start (p : Nat) (m : List Bool) (t : Nat) : lfun p m 0 t = (decide (t < 32) != msg m t) := by
  unfold lfun; simp [crcB, reg_ones]

theorem crcB_take (p : Nat) (m : List Bool) (i : Nat) (h : i < m.length) : crcB p 4294967295 (m.take (i + 1)) = cst p (crcB p 4294967295 (m.take i)) m[i] := by
  rw [List.take_succ_eq_append_getElem h, crcB_append]; rfl

theorem lfun_top (p : Nat) (m : List Bool) (i : Nat) (h : i < m.length) : lfun p m i i = ((crcB p 4294967295 (m.take i)).testBit 31 != m[i]) := by
  unfold lfun reg msg
  simp [List.getD, List.getElem?_eq_getElem h]

theorem shl_bit (c j : Nat) (hj : j < 32) : (2 * c % 4294967296).testBit (31 - j) = reg c (j + 1) := by
  rw [show (4294967296 : Nat) = 2 ^ 32 by decide, Nat.testBit_mod_two_pow]
  unfold reg
  by_cases h : j + 1 < 32
  · have e : 31 - j = (31 - (j + 1)) + 1 := by omega
    rw [e, Nat.testBit_succ, Nat.mul_div_cancel_left _ (by omega)]
    simp [h]
    intro _
    omega
  · have e : 31 - j = 0 := by omega
    rw [e]
    simp [h]

/-- A step at which the first bit is not set. -/
theorem lfun_no (p : Nat) (m : List Bool) (i t : Nat) (h : i < m.length) (ht : i < t) (h0 : lfun p m i i = false) : lfun p m (i + 1) t = lfun p m i t := by
  rw [lfun_top p m i h] at h0
  unfold lfun
  rw [crcB_take p m i h]
  unfold cst
  rw [h0, if_neg (by simp)]
  have e : t - i = (t - (i + 1)) + 1 := by omega
  rw [e]
  congr 1
  by_cases hj : t - (i + 1) < 32
  · rw [← shl_bit _ _ hj]; unfold reg; simp [hj]
  · unfold reg; simp [hj]; omega

/-- A step at which it is. -/
theorem lfun_yes (p : Nat) (m : List Bool) (i t : Nat) (h : i < m.length) (ht : i < t) (h0 : lfun p m i i = true) : lfun p m (i + 1) t = gfun p m i 32 t := by
  rw [lfun_top p m i h] at h0
  unfold gfun lfun
  rw [crcB_take p m i h]
  unfold cst
  rw [h0, if_pos rfl]
  have e : t - i = (t - (i + 1)) + 1 := by omega
  rw [e]
  by_cases hj : t - (i + 1) < 32
  · have e2 : i + 32 - t = 31 - (t - (i + 1)) := by omega
    have e3 : (decide (i + 32 < t + 32 ∧ t ≤ i + 32)) = true := by simp; omega
    rw [e2, e3, ← shl_bit _ _ hj]
    unfold reg
    rw [Nat.testBit_xor]
    simp only [hj, decide_true, Bool.true_and]
    generalize (2 * _ % 4294967296).testBit _ = a
    generalize p.testBit _ = b
    generalize msg m t = c
    cases a <;> cases b <;> cases c <;> rfl
  · have e3 : (decide (i + 32 < t + 32 ∧ t ≤ i + 32)) = false := by simp; omega
    rw [e3]
    unfold reg
    have h1 : ¬ t - (i + 1) + 1 < 32 := by omega
    simp [hj, h1]

theorem gfun_start (p : Nat) (m : List Bool) (i t : Nat) : gfun p m i 0 t = lfun p m i t := by
  unfold gfun
  have : (decide (i + 32 < t + 0 ∧ t ≤ i + 32)) = false := by simp
  rw [this]; simp

theorem gfun_step (p : Nat) (m : List Bool) (i k t : Nat) (hk : k < 32) : gfun p m i (k + 1) t = if t = i + 32 - k ∧ p.testBit k = true then !gfun p m i k t else gfun p m i k t := by
  unfold gfun
  by_cases ht : t = i + 32 - k
  · have e1 : (decide (i + 32 < t + (k + 1) ∧ t ≤ i + 32)) = true := by simp; omega
    have e2 : (decide (i + 32 < t + k ∧ t ≤ i + 32)) = false := by simp; omega
    have e3 : i + 32 - t = k := by omega
    rw [e1, e2, e3]
    cases hb : p.testBit k
    · simp
    · simp [ht]
  · have e1 : (decide (i + 32 < t + (k + 1) ∧ t ≤ i + 32)) = (decide (i + 32 < t + k ∧ t ≤ i + 32)) := by
      rw [Bool.eq_iff_iff]; simp; omega
    rw [e1, if_neg (fun h => ht h.1)]

/-- What is read at the end. -/
theorem lfun_end (p : Nat) (m : List Bool) (k : Nat) (hk : k < 32) : lfun p m m.length (m.length + k) = (crcB p 4294967295 m).testBit (31 - k) := by
  unfold lfun reg msg
  have e1 : m.length + k - m.length = k := by omega
  rw [e1, List.take_of_length_le (Nat.le_refl _)]
  simp [hk, List.getD]

theorem gather (x k : Nat) (hk : k < 32) : x / 2 ^ (32 - (k + 1)) = 2 * (x / 2 ^ (32 - k)) + (x.testBit (31 - k)).toNat := by
  have e : 32 - k = (31 - k) + 1 := by omega
  have e2 : 32 - (k + 1) = 31 - k := by omega
  rw [e, e2, Nat.pow_succ, ← Nat.div_div_eq_div_mul, Nat.testBit_eq_decide_div_mod_eq]
  generalize x / 2 ^ (31 - k) = y
  by_cases h : y % 2 = 1
  · simp [h]; omega
  · simp [h]; omega

theorem not_bit (c k : Nat) (hk : k < 32) : (c ^^^ 4294967295).testBit (31 - k) = !c.testBit (31 - k) := by
  rw [Nat.testBit_xor]
  have : (4294967295 : Nat).testBit (31 - k) = true := by
    rw [show (4294967295 : Nat) = 2 ^ 32 - 1 by decide, Nat.testBit_two_pow_sub_one]; simp; omega
  rw [this]; simp
end Go.Proofs.Ytmafnghokmcijaa
