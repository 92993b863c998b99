/- Texts of the proof, one behind the other; what each holds is said at its head. -/
import Derived.Test.YtdjpkgaicmklmaaGreatPartExtendsupto0
import Derived.Laws.Bits64
/- The replica that has seen some first writes, with any edits that may be, is sound; edits of both: without the program. -/
namespace Go.Proofs.YtdjpkgaicmklmaaGreat
open Go.RowKit

theorem state_chk (S : Seen) (i0 : Nat) (hi0 : i0 ≤ 40) (E : List Ed) (hE : E.length ≤ 16) (hE2 : ∀ x ∈ E, (1 ≤ x.id ∧ x.id ≤ 4611686018427387904) ∧ x.text.size ≤ 60) : (repOf (clocksTo (runS S i0).1 8) (runS S i0).2 E).chk = 0 := by
  obtain ⟨h1, h2, h3⟩ := runS_good S i0
  have hl := runS_length S i0
  have hcr := runS_cards S i0
  have hcb := runS_counts S i0
  generalize runS S i0 = st at *
  have hk8 := clocksTo_length st.1 8
  have hks := clocksTo_sorted st.1 8 (by omega)
  have out : ∀ n m : Int, 1 ≤ n → n ≤ m → outB n m = false := by intro n m a b; unfold outB; simp; omega
  have g1 : (repOf (clocksTo st.1 8) st.2 E).manyB = false := by
    unfold Rep.manyB; simp [repOf]; omega
  have hclk : ∀ i, i < (clocksTo st.1 8).length → ∃ j, j < 8 ∧ (clocksTo st.1 8).getD i ck0 = ⟨siteL.getD j 0, st.1.getD j 0⟩ ∧ 0 < st.1.getD j 0 := fun i hi => clocksTo_mem (getD_mem hi)
  have hcd : ∀ i, i < st.2.length → GoodC st.1 (st.2.getD i cd0) := fun i hi => h1 _ (getD_mem hi)
  have hed : ∀ i, i < E.length → (1 ≤ (E.getD i ed0).id ∧ (E.getD i ed0).id ≤ 4611686018427387904) ∧ (E.getD i ed0).text.size ≤ 60 := fun i hi => hE2 _ (getD_mem hi)
  have g2 : (repOf (clocksTo st.1 8) st.2 E).numB = false := by
    unfold Rep.numB
    rw [anyTo_none, anyTo_none, anyTo_none]
    · rfl
    · intro i hi
      have hx := hed i hi
      show outB (E.getD i ed0).id _ = false
      exact out _ _ hx.1.1 hx.1.2
    · intro i hi
      obtain ⟨⟨j, hj, hs, hlo, hhi⟩, hid, _, _⟩ := hcd i hi
      have := siteL_lt j hj
      have := hcb j
      show (scB (st.2.getD i cd0).site (st.2.getD i cd0).count || outB (st.2.getD i cd0).id _) = false
      unfold scB
      rw [out _ _ (by omega) (by omega), out _ _ hlo (by omega), out _ _ hid.1 hid.2]; rfl
    · intro i hi
      obtain ⟨j, hj, hx, hp⟩ := hclk i hi
      have := siteL_lt j hj
      have := hcb j
      show scB ((clocksTo st.1 8).getD i ck0).site ((clocksTo st.1 8).getD i ck0).count = false
      rw [hx]
      show scB (siteL.getD j 0) (st.1.getD j 0) = false
      unfold scB
      rw [out _ _ (by omega) (by omega), out _ _ (by omega) (by omega)]; rfl
  have g3 : (repOf (clocksTo st.1 8) st.2 E).txtB = false := by
    unfold Rep.txtB
    rw [anyTo_none, anyTo_none]
    · rfl
    · intro i hi
      have hx := hed i hi
      show longB (E.getD i ed0).text = false
      unfold longB; exact decide_eq_false (by omega)
    · intro i hi
      obtain ⟨_, _, ht, hg⟩ := hcd i hi
      show (longB (st.2.getD i cd0).text || ((st.2.getD i cd0).gone && !(st.2.getD i cd0).text.toList.isEmpty)) = false
      rw [Bool.or_eq_false_iff]
      constructor
      · unfold longB; exact decide_eq_false (by omega)
      · cases hgo : (st.2.getD i cd0).gone
        · rfl
        · rw [hg hgo]; rfl
  have g4 : (repOf (clocksTo st.1 8) st.2 E).risB = false := by
    unfold Rep.risB
    rw [anyTo_none, anyTo_none]
    · rfl
    · intro i hi
      have hi : i < st.2.length - 1 := hi
      have := pairwise_getD (d := cd0) h2 (show i < i + 1 by omega) (by omega)
      show decide ((st.2.getD (i + 1) cd0).id ≤ (st.2.getD i cd0).id) = false
      exact decide_eq_false (by omega)
    · intro i hi
      have hi : i < (clocksTo st.1 8).length - 1 := hi
      have := pairwise_getD (d := ck0) hks (show i < i + 1 by omega) (by omega)
      show decide (((clocksTo st.1 8).getD (i + 1) ck0).site ≤ ((clocksTo st.1 8).getD i ck0).site) = false
      exact decide_eq_false (by omega)
  have g5 : (repOf (clocksTo st.1 8) st.2 E).uncB = false := by
    unfold Rep.uncB
    refine anyTo_none fun i hi => ?_
    obtain ⟨⟨j, hj, hs, hlo, hhi⟩, _, _, _⟩ := hcd i hi
    have hm := clocksTo_has (cn := st.1) (j := j) (by omega) hj
    have hf := clockTo_found hks hm
    show decide ((clockTo (fun i => (clocksTo st.1 8).getD i ck0) (st.2.getD i cd0).site (clocksTo st.1 8).length).getD 0 < (st.2.getD i cd0).count) = false
    rw [hs, hf]
    show decide (st.1.getD j 0 < (st.2.getD i cd0).count) = false
    exact decide_eq_false (by omega)
  have g6 : (repOf (clocksTo st.1 8) st.2 E).clashB = false := by
    unfold Rep.clashB
    refine anyTo_none fun i hi => anyTo_none fun k hk => ?_
    have ha : Apart (st.2.getD k cd0) (st.2.getD i cd0) := pairwise_getD (d := cd0) h3 hk hi
    show stampB (st.2.getD i cd0) (st.2.getD k cd0) = false
    unfold stampB
    unfold Apart at ha
    cases hb : ((st.2.getD i cd0).site == (st.2.getD k cd0).site && (st.2.getD i cd0).count == (st.2.getD k cd0).count)
    · rfl
    · simp only [Bool.and_eq_true, beq_iff_eq] at hb
      exact absurd ⟨hb.1.symm, hb.2.symm⟩ ha
  unfold Rep.chk
  rw [g1, g2, g3, g4, g5, g6]; rfl

instance decEd : DecidableEq Ed := fun a b => match a, b with
  | ⟨i, s⟩, ⟨j, t⟩ => if h : i = j ∧ s = t then isTrue (by rw [h.1, h.2]) else isFalse (fun e => by injection e with e1 e2; exact h ⟨e1, e2⟩)
/-- Edits, and behind them those others that are not there. -/
def bothE (a b : List Ed) : List Ed := b.foldl (fun l e => if e ∈ l then l else l ++ [e]) a
theorem both_old : ∀ {b a : List Ed} {x : Ed}, x ∈ a → x ∈ bothE a b
  | [], _, _, h => h
  | e :: b, a, x, h => by
    show x ∈ bothE (if e ∈ a then a else a ++ [e]) b
    refine both_old ?_
    split
    · exact h
    · simp [h]
theorem both_new : ∀ {b a : List Ed} {x : Ed}, x ∈ b → x ∈ bothE a b
  | [], _, _, h => by simp at h
  | e :: b, a, x, h => by
    show x ∈ bothE (if e ∈ a then a else a ++ [e]) b
    rcases List.mem_cons.mp h with rfl | h
    · refine both_old ?_
      split
      · assumption
      · simp
    · exact both_new h
theorem both_mem : ∀ {b a : List Ed} {x : Ed}, x ∈ bothE a b → x ∈ a ∨ x ∈ b
  | [], _, _, h => Or.inl h
  | e :: b, a, x, h => by
    have h : x ∈ bothE (if e ∈ a then a else a ++ [e]) b := h
    rcases both_mem h with h | h
    · split at h
      · exact Or.inl h
      · rcases List.mem_append.mp h with h | h
        · exact Or.inl h
        · right; simp at h; simp [h]
    · right; simp [h]
theorem both_len : ∀ (b a : List Ed), (bothE a b).length ≤ a.length + b.length
  | [], a => by simp [bothE]
  | e :: b, a => by
    have := both_len b (if e ∈ a then a else a ++ [e])
    show (bothE (if e ∈ a then a else a ++ [e]) b).length ≤ _
    have h2 : (if e ∈ a then a else a ++ [e]).length ≤ a.length + 1 := by split <;> simp
    simp only [List.length_cons]; omega
theorem both_there : ∀ {b a : List Ed}, (∀ x ∈ b, x ∈ a) → bothE a b = a
  | [], _, _ => rfl
  | e :: b, a, h => by
    show bothE (if e ∈ a then a else a ++ [e]) b = a
    rw [if_pos (h e (by simp))]; exact both_there (fun x hx => h x (by simp [hx]))
theorem both_again (a b : List Ed) : bothE (bothE a b) b = bothE a b := both_there (fun _ hx => both_new hx)
end Go.Proofs.YtdjpkgaicmklmaaGreat

/- The sum of bytes, plainly: a register of 32 bits; by bits, by bytes, and by long division. -/
namespace Go.Proofs.YtdjpkgaicmklmaaGreat

/-- One bit is taken in; p: the polynomial without its first term. -/
def cst (p r : Nat) (b : Bool) : Nat := if (r.testBit 31 != b) then (2 * r % 4294967296) ^^^ p else 2 * r % 4294967296
def crcB (p r : Nat) (l : List Bool) : Nat := l.foldl (cst p) r
def bitsOf (x : UInt8) : List Bool := [x.toNat.testBit 7, x.toNat.testBit 6, x.toNat.testBit 5, x.toNat.testBit 4, x.toNat.testBit 3, x.toNat.testBit 2, x.toNat.testBit 1, x.toNat.testBit 0]
def allBits (l : List UInt8) : List Bool := l.flatMap bitsOf
/-- The sum (or seal) of bytes. -/
def crc (p : Nat) (l : List UInt8) : Nat := crcB p 4294967295 (allBits l) ^^^ 4294967295
def pSum : Nat := 79764919
def pSeal : Nat := 517762881

theorem cst_lt {p r : Nat} {b : Bool} (hp : p < 4294967296) : cst p r b < 4294967296 := by
  unfold cst
  split
  · exact Nat.xor_lt_two_pow (n := 32) (by omega) hp
  · omega
theorem crcB_lt {p : Nat} (hp : p < 4294967296) : ∀ (l : List Bool) {r : Nat}, r < 4294967296 → crcB p r l < 4294967296
  | [], _, h => h
  | _ :: l, _, _ => crcB_lt hp l (cst_lt hp)
theorem crc_lt {p : Nat} (hp : p < 4294967296) (l : List UInt8) : crc p l < 4294967296 := Nat.xor_lt_two_pow (n := 32) (crcB_lt hp _ (by omega)) (by omega)
theorem crcB_append (p r : Nat) (a b : List Bool) : crcB p r (a ++ b) = crcB p (crcB p r a) b := by simp [crcB]

theorem allBits_append (a b : List UInt8) : allBits (a ++ b) = allBits a ++ allBits b := by simp [allBits]
theorem allBits_one (x : UInt8) : allBits [x] = bitsOf x := by simp [allBits]
theorem allBits_length (l : List UInt8) : (allBits l).length = 8 * l.length := by
  induction l with
  | nil => rfl
  | cons x l ih => rw [show x :: l = [x] ++ l from rfl, allBits_append, allBits_one]; simp [ih, bitsOf]; omega

/-- The program's way: the register is shifted; if it runs over, the polynomial (with its first term) is laid upon it. -/
def div1 (p r : Nat) : Nat := if 4294967295 < 2 * r then (2 * r) ^^^ (p + 4294967296) else 2 * r

/-- Bits from the bit 31 down. -/
def high : List Bool → Nat
  | [] => 0
  | b :: l => (if b then 2147483648 else 0) + high l / 2

theorem high_lt : ∀ l, high l < 4294967296
  | [] => by simp [high]
  | b :: l => by have := high_lt l; simp only [high]; split <;> omega

theorem bit_high_top (b : Bool) (l : List Bool) : (high (b :: l)).testBit 31 = b := by
  have := high_lt l
  cases b
  · simp only [high]; exact Nat.testBit_lt_two_pow (by simp; omega)
  · simp only [high, if_true]
    rw [show (2147483648 : Nat) = 2 ^ 31 by decide, Nat.testBit_two_pow_add_eq]
    rw [Nat.testBit_lt_two_pow (by omega)]; rfl

/-- As long as what lies behind has even values: 'high l' ends in a nought for l shorter than 32. -/
theorem high_even : ∀ (l : List Bool) (k : Nat), l.length ≤ k → k ≤ 32 → high l % 2 ^ (32 - k) = 0
  | [], k, _, _ => by simp [high]
  | b :: l, k, h, hk => by
    have hl := high_even l (k - 1) (by simp at h; omega) (by omega)
    simp only [List.length_cons] at h
    have e : 32 - (k - 1) = (32 - k) + 1 := by omega
    rw [e, Nat.pow_succ] at hl
    have h1 : 2 ^ (32 - k) * 2 ∣ high l := Nat.dvd_of_mod_eq_zero hl
    obtain ⟨c, hc⟩ := h1
    simp only [high]
    have h2 : high l / 2 = 2 ^ (32 - k) * c := by rw [hc, Nat.mul_assoc, Nat.mul_comm 2 c, ← Nat.mul_assoc]; exact Nat.mul_div_cancel _ (by omega)
    have h3 : 2 ^ (32 - k) ∣ 2147483648 := by
      rw [show (2147483648 : Nat) = 2 ^ 31 by decide]
      exact Nat.pow_dvd_pow 2 (by omega)
    rw [h2]
    apply Nat.mod_eq_zero_of_dvd
    refine Nat.dvd_add ?_ (Nat.dvd_mul_right _ _)
    split
    · exact h3
    · exact Nat.dvd_zero _

theorem high_shift (b : Bool) (l : List Bool) (h : l.length ≤ 31) : 2 * high (b :: l) % 4294967296 = high l := by
  have he := high_even l 31 h (by omega)
  have := high_lt l
  simp only [high]
  simp at he
  split <;> omega

theorem xor_two_mul (a b : Nat) : 2 * (a ^^^ b) = (2 * a) ^^^ (2 * b) := by
  apply Nat.eq_of_testBit_eq
  intro i
  cases i with
  | zero => simp
  | succ i =>
    rw [Nat.testBit_xor, Nat.testBit_succ, Nat.testBit_succ, Nat.testBit_succ, Nat.mul_div_cancel_left _ (by omega), Nat.mul_div_cancel_left _ (by omega), Nat.mul_div_cancel_left _ (by omega), Nat.testBit_xor]

theorem xor_mod (a b : Nat) : (a ^^^ b) % 4294967296 = (a % 4294967296) ^^^ (b % 4294967296) := Nat.xor_mod_two_pow (n := 32)

theorem div1_step (p r : Nat) (b : Bool) (l : List Bool) (hp : p < 4294967296) (hr : r < 4294967296) (hl : l.length ≤ 31) : div1 p (r ^^^ high (b :: l)) = cst p r b ^^^ high l := by
  have hs : r ^^^ high (b :: l) < 4294967296 := Nat.xor_lt_two_pow (n := 32) hr (high_lt _)
  have htop : (r ^^^ high (b :: l)).testBit 31 = (r.testBit 31 != b) := by
    rw [Nat.testBit_xor, bit_high_top]
  have hmod : 2 * (r ^^^ high (b :: l)) % 4294967296 = (2 * r % 4294967296) ^^^ high l := by
    rw [xor_two_mul, xor_mod, high_shift b l hl]
  generalize r ^^^ high (b :: l) = s at hs htop hmod
  have hgt : (4294967295 < 2 * s) ↔ s.testBit 31 = true := by
    constructor
    · intro h
      rw [show s = 2 ^ 31 + (s - 2 ^ 31) by omega, Nat.testBit_two_pow_add_eq, Nat.testBit_lt_two_pow (by omega)]; rfl
    · intro h
      have := Nat.ge_two_pow_of_testBit h
      omega
  unfold div1 cst
  rw [← htop]
  by_cases h : s.testBit 31 = true
  · rw [if_pos (hgt.2 h), if_pos h]
    have h2 : 2 * s = 2 * s % 4294967296 + 4294967296 := by have := hgt.2 h; omega
    have e : (2 * s % 4294967296 + 4294967296) ^^^ (p + 4294967296) = (2 * s % 4294967296) ^^^ p := by
      have h1 : 2 * s % 4294967296 < 2 ^ 32 := by omega
      apply Nat.eq_of_testBit_eq
      intro i
      rw [Nat.add_comm _ 4294967296, Nat.add_comm p 4294967296, show (4294967296 : Nat) = 2 ^ 32 by decide]
      rcases Nat.lt_trichotomy i 32 with hi | hi | hi
      · rw [Nat.testBit_xor, Nat.testBit_xor, Nat.testBit_two_pow_add_gt hi, Nat.testBit_two_pow_add_gt hi]
      · subst hi
        rw [Nat.testBit_xor, Nat.testBit_xor, Nat.testBit_two_pow_add_eq, Nat.testBit_two_pow_add_eq, Nat.testBit_lt_two_pow h1, Nat.testBit_lt_two_pow (by omega : p < 2 ^ 32)]; rfl
      · have ha : 2 ^ 32 + 2 * s % 2 ^ 32 < 2 ^ i := Nat.lt_of_lt_of_le (by omega : _ < 2 ^ 33) (Nat.pow_le_pow_right (by omega) (by omega))
        have hb : 2 ^ 32 + p < 2 ^ i := Nat.lt_of_lt_of_le (by omega : _ < 2 ^ 33) (Nat.pow_le_pow_right (by omega) (by omega))
        rw [Nat.testBit_xor, Nat.testBit_xor, Nat.testBit_lt_two_pow ha, Nat.testBit_lt_two_pow hb, Nat.testBit_lt_two_pow (by omega : 2 * s % 2 ^ 32 < 2 ^ i), Nat.testBit_lt_two_pow (by omega : p < 2 ^ i)]
    rw [← h2] at e
    rw [e, hmod, Nat.xor_assoc, Nat.xor_assoc, Nat.xor_comm (high l)]
  · rw [if_neg (fun hh => h (hgt.1 hh)), if_neg h, ← hmod]
    have : ¬ 4294967295 < 2 * s := fun hh => h (hgt.1 hh)
    omega

/-- So many shifts. -/
def divN (p : Nat) : Nat → Nat → Nat
  | 0, r => r
  | k + 1, r => divN p k (div1 p r)

theorem divN_high (p : Nat) (hp : p < 4294967296) (b : List Bool) : ∀ (a : List Bool) (r : Nat), r < 4294967296 → (a ++ b).length ≤ 32 → divN p a.length (r ^^^ high (a ++ b)) = crcB p r a ^^^ high b
  | [], r, _, _ => by simp [divN, crcB]
  | x :: a, r, hr, hl => by
    simp only [List.cons_append, List.length_cons] at hl ⊢
    rw [divN, div1_step p r x (a ++ b) hp hr (by omega), divN_high p hp b a _ (cst_lt hp) (by omega)]
    rfl

theorem byte_high (x : UInt8) : x.toNat * 16777216 = high (bitsOf x) := by
  have hx := x.toNat_lt
  have e : ∀ n : Nat, n < 256 → n * 16777216 = high [n.testBit 7, n.testBit 6, n.testBit 5, n.testBit 4, n.testBit 3, n.testBit 2, n.testBit 1, n.testBit 0] := by decide +kernel
  exact e _ (by simpa using hx)

theorem divN_byte (p : Nat) (hp : p < 4294967296) (x : UInt8) (r : Nat) (hr : r < 4294967296) : divN p 8 (r ^^^ (x.toNat * 16777216)) = crcB p r (bitsOf x) := by
  rw [byte_high]
  have := divN_high p hp [] (bitsOf x) r hr (by simp [bitsOf])
  rw [List.append_nil] at this
  rw [show (8 : Nat) = (bitsOf x).length from rfl, this]
  simp [high]

theorem bits_xor_i64 (a b : Nat) (ha : a < 9223372036854775808) (hb : b < 9223372036854775808) : bits .xor .i64 (a : Int) (b : Int) = ((a ^^^ b : Nat) : Int) := by
  have hx : a ^^^ b < 2 ^ 63 := Nat.xor_lt_two_pow (by omega) (by omega)
  have h1 : (BitVec.ofInt 64 (a : Int)).toNat = a := by
    rw [BitVec.ofInt_natCast, BitVec.toNat_ofNat]; exact Nat.mod_eq_of_lt (by omega)
  have h2 : (BitVec.ofInt 64 (b : Int)).toNat = b := by
    rw [BitVec.ofInt_natCast, BitVec.toNat_ofNat]; exact Nat.mod_eq_of_lt (by omega)
  show IntKind.i64.wrap ((BitVec.ofInt 64 (a : Int) ^^^ BitVec.ofInt 64 (b : Int)).toNat : Int) = _
  rw [BitVec.toNat_xor, h1, h2]
  simp [IntKind.wrap, IntKind.bits, IntKind.signed]
  omega

theorem bits_and_one (a : Nat) (ha : a < 9223372036854775808) : bits .and .i64 (a : Int) 1 = ((a % 2 : Nat) : Int) := by
  have h1 : (BitVec.ofInt 64 (a : Int)).toNat = a := by
    rw [BitVec.ofInt_natCast, BitVec.toNat_ofNat]; exact Nat.mod_eq_of_lt (by omega)
  show IntKind.i64.wrap ((BitVec.ofInt 64 (a : Int) &&& BitVec.ofInt 64 1).toNat : Int) = _
  have h2 : (BitVec.ofInt 64 (1 : Int)).toNat = 1 := by decide
  rw [BitVec.toNat_and, h1, h2, Nat.and_one_is_mod]
  simp [IntKind.wrap, IntKind.bits, IntKind.signed]
  omega

theorem bit_test (a k : Nat) (ha : a < 9223372036854775808) : (bits .and .i64 ((a : Int) / 2 ^ k) 1 == 1) = a.testBit k := by
  have e : ((a : Int) / 2 ^ k) = ((a / 2 ^ k : Nat) : Int) := by
    rw [Int.natCast_ediv, Int.natCast_pow]; rfl
  rw [e, bits_and_one _ (Nat.lt_of_le_of_lt (Nat.div_le_self _ _) ha), Nat.testBit_eq_decide_div_mod_eq]
  by_cases h : a / 2 ^ k % 2 = 1
  · simp [h]
  · have h0 : a / 2 ^ k % 2 = 0 := by omega
    simp [h0]

theorem bitsOf_at (x : UInt8) (j : Nat) (h : j < 8) : (bitsOf x)[j]? = some (x.toNat.testBit (7 - j)) := by
  have : j = 0 ∨ j = 1 ∨ j = 2 ∨ j = 3 ∨ j = 4 ∨ j = 5 ∨ j = 6 ∨ j = 7 := by omega
  rcases this with rfl | rfl | rfl | rfl | rfl | rfl | rfl | rfl <;> rfl
theorem bitsOf_take (x : UInt8) (j : Nat) (h : j < 8) : (bitsOf x).take (j + 1) = (bitsOf x).take j ++ [x.toNat.testBit (7 - j)] := by
  have hl : j < (bitsOf x).length := h
  rw [List.take_succ_eq_append_getElem hl]
  have := bitsOf_at x j h
  rw [List.getElem?_eq_getElem hl] at this
  simp at this
  rw [this]
end Go.Proofs.YtdjpkgaicmklmaaGreat

/- The program's bytes: oneByte, FourBytes, goneByte, Number, walked. -/
namespace Go.Proofs.YtdjpkgaicmklmaaGreat
open Go.RowKit

theorem ret_str {a b : List UInt8} (h : a = b) : Ending.returned (.string (str a)) = .returned (.string (str b)) := by rw [h]

set_option maxRecDepth 100000 in
set_option maxHeartbeats 1000000 in
theorem oneByte_any (n : Int) (w : World) (h0 : 0 ≤ n) (h1 : n ≤ 255) :
    Calls Tryz.prog 79 #[.int .i64 n] w fun e w' => e = .returned (.string (str [byt n])) ∧ Below w.heap.size w w' := by
  go_enter Tryz.func79, Tryz.ntmps79
  go_wp2_with (refine wpList_toString (by rfl) 90 9 5 _ (by rfl) Tryz.underlying90 Tryz.underlying5 Tryz.underlying9 _ _ _ (by rfl) [n] rfl ?_ ?_; exact new_cells _ _ _)
  go_ret
  exact ⟨rfl, (Below.refl _ _).alloc (Nat.le_refl _) _⟩

/-- A sum as bytes. -/
def fourI (n : Int) : List UInt8 := [byt (n / 16777216), byt (n / 65536 % 256), byt (n / 256 % 256), byt (n % 256)]

set_option maxRecDepth 100000 in
set_option maxHeartbeats 1000000 in
theorem fourBytes_any (n : Int) (w : World) (h0 : 0 ≤ n) (h1 : n ≤ 4294967295) :
    Calls Tryz.prog 58 #[.int .i64 n] w fun e w' => e = .returned (.string (str (fourI n))) ∧ Below w.heap.size w w' := by
  go_enter Tryz.func58, Tryz.ntmps58
  go_wp2_with (refine wpList_toString (by rfl) 90 9 5 _ (by rfl) Tryz.underlying90 Tryz.underlying5 Tryz.underlying9 _ _ _ (by rfl) [n / 16777216, n / 65536 % 256, n / 256 % 256, n % 256] rfl ?_ ?_; exact new_cells _ _ _)
  go_ret
  exact ⟨rfl, (Below.refl _ _).alloc (Nat.le_refl _) _⟩

set_option maxRecDepth 100000 in
set_option maxHeartbeats 1000000 in
theorem rfour_any (n : Int) (w : World) (h0 : 0 ≤ n) (h1 : n ≤ 4294967295) :
    Calls Tryz.prog 33 #[.int .i64 n] w fun e w' => e = .returned (.string (str (fourI n))) ∧ Below w.heap.size w w' := by
  go_enter Tryz.func33, Tryz.ntmps33
  go_wp2_with (refine wpList_toString (by rfl) 90 9 5 _ (by rfl) Tryz.underlying90 Tryz.underlying5 Tryz.underlying9 _ _ _ (by rfl) [n / 16777216, n / 65536 % 256, n / 256 % 256, n % 256] rfl ?_ ?_; exact new_cells _ _ _)
  go_ret
  exact ⟨rfl, (Below.refl _ _).alloc (Nat.le_refl _) _⟩

theorem goneByte_any (b : Bool) (w : World) :
    Calls Tryz.prog 93 #[.bool b] w fun e w' => e = .returned (.string (str [if b then 1 else 0])) ∧ Below w.heap.size w w' := by
  cases b
  · go_enter Tryz.func93, Tryz.ntmps93
    go_wp2_with (go_at_call 79; refine (oneByte_any _ _ (by decide) (by decide)).mono ?_; rintro e w' ⟨rfl, hb⟩)
    go_ret
    exact ⟨rfl, hb⟩
  · go_enter Tryz.func93, Tryz.ntmps93
    go_wp2_with (go_at_call 79; refine (oneByte_any _ _ (by decide) (by decide)).mono ?_; rintro e w' ⟨rfl, hb⟩)
    go_ret
    exact ⟨rfl, hb⟩

/-- A number's bytes, by at most so many steps. -/
def numI : Nat → Int → List Int
  | 0, n => [n]
  | k + 1, n => if n < 128 then [n] else (n % 128 + 128) :: numI k (n / 128)
def numB (n : Int) : List UInt8 := (numI 9 n).map byt

theorem numI_small (k : Nat) (n : Int) (h : n < 128) : numI k n = [n] := by
  cases k with
  | zero => rfl
  | succ k => simp [numI, h]
theorem numI_length : ∀ (k : Nat) (n : Int), (numI k n).length ≤ k + 1
  | 0, n => by simp [numI]
  | k + 1, n => by
    simp only [numI]; split
    · simp
    · have := numI_length k (n / 128); simp; omega

set_option maxRecDepth 100000 in
set_option maxHeartbeats 2000000 in
theorem number_any (n : Int) (w : World) (h0 : 0 ≤ n) (h1 : n ≤ 9223372036854775807) :
    Calls Tryz.prog 92 #[.int .i64 n] w fun e w' => e = .returned (.string (str (numB n))) ∧ Below w.heap.size w w' := by
  go_enter Tryz.func92, Tryz.ntmps92
  go_wp2
  go_loopw [0, 3] (fun v u wr => ∃ (k : Nat) (y : Int) (ad : Option Addr) (cap : Nat) (ns : List Int) (N : Nat), v = .int .i64 y ∧ u = .slice ad N cap ∧ 0 ≤ y ∧ y ≤ 9223372036854775807 ∧ y < 128 ^ (k + 1) ∧ ns ++ numI k y = numI 9 n ∧ N + k = 9 ∧
      Vec wr w.heap.size 5 1 ad N cap (ns.map (Value.int .u8)) ∧ Below w.heap.size w wr) (fun v _ _ => (intOf v).toNat)
  case atStart => exact ⟨9, n, _, 0, [], 0, rfl, rfl, h0, h1, by omega, rfl, rfl, Vec.lit w _ _ _ 0 [] (Nat.le_refl _) (by omega) (by simp), (Below.refl _ _).alloc (Nat.le_refl _) _⟩
  case round =>
    obtain ⟨k, y, ad, cap, ns, N, rfl, rfl, y0, y1, hy, hns, hk, hv, hb⟩ := hrel
    have HY : Hid (y < 128 ^ (k + 1)) := hy
    have HN : Hid (ns ++ numI k y = numI 9 n) := hns
    have HK : Hid (N + k = 9) := hk
    have hN : N ≤ 9 := by omega
    have hz := hb.size
    clear hy hns hk
    by_cases hlt : 128 ≤ y
    · go_wp2_with (at_builtin; refine wpList_push (by rfl) _ _ 90 (by rfl) w.heap.size 5 1 1 (.int .u8 0) Tryz.underlying90 (by kernel_rfl) rfl (by decide) ad N cap _ (by rfl) (hv.keep ((Below.refl _ _).alloc (Nat.le_refl _) _)) _ _ [.int .u8 (y % 128 + 128)] (by rfl) rfl ?_ ?_ ?_ ?_ ?_ ?_; exact new_cells _ _ _; (simp [Value.oneCell']); (omega); (omega); (simp; omega); intro ad' cap' w' hv' hb' hs')
      have hb2 : Below w.heap.size w w' := hb.trans (((Below.refl _ wr).alloc (Nat.le_refl _) _).mono hz |>.trans hb')
      have hk1 : ∃ j, k = j + 1 := by
        rcases k with _ | j
        · have := HY.out; simp at this; omega
        · exact ⟨j, rfl⟩
      obtain ⟨j, rfl⟩ := hk1
      have e1 : numI (j + 1) y = (y % 128 + 128) :: numI j (y / 128) := by simp only [numI]; rw [if_neg (by omega)]
      have e2 : ns ++ [y % 128 + 128] ++ numI j (y / 128) = numI 9 n := by rw [← HN.out, e1]; simp
      have e3 : y / 128 < 128 ^ (j + 1) := by
        have h := HY.out
        rw [Int.pow_succ] at h
        exact Int.ediv_lt_of_lt_mul (by omega) h
      have e4 : N + 1 + j = 9 := by have := HK.out; omega
      go_roundw
      case rel => exact ⟨j, y / 128, ad', cap', ns ++ [y % 128 + 128], N + 1, rfl, rfl, by omega, by omega, e3, e2, e4, by simpa using hv', hb2⟩
      case measure => simp [intOf]; omega
    · go_wp2_with (first
        | (at_builtin; refine wpList_push (by rfl) _ _ 90 (by rfl) w.heap.size 5 1 1 (.int .u8 0) Tryz.underlying90 (by kernel_rfl) rfl (by decide) ad N cap _ (by rfl) (hv.keep ((Below.refl _ _).alloc (Nat.le_refl _) _)) _ _ [.int .u8 y] (by rfl) rfl ?_ ?_ ?_ ?_ ?_ ?_; exact new_cells _ _ _; (simp [Value.oneCell']); (omega); (omega); (simp; omega); intro ad' cap' w' hv' hb' hs'; have hv2 : Vec w' w.heap.size 5 1 ad' (N + 1) cap' ((ns ++ [y]).map (Value.int .u8)) := (by simpa using hv'); clear hv')
        | (refine wpList_toString_vec (by rfl) 90 9 5 _ (by rfl) Tryz.underlying90 Tryz.underlying5 Tryz.underlying9 w.heap.size (N + 1) cap' ad' (by rfl) (ns ++ [y]) hv2 ?_ ?_; (omega)))
      have hb2 : Below w.heap.size w w' := hb.trans (((Below.refl _ wr).alloc (Nat.le_refl _) _).mono hz |>.trans hb')
      have e1 : ns ++ [y] = numI 9 n := by rw [← HN.out, numI_small k y (by omega)]
      go_ret
      exact ⟨ret_str (by unfold numB; rw [← e1]; simp), hb2⟩
end Go.Proofs.YtdjpkgaicmklmaaGreat

/- Bits turned over within 32 consecutive ones turn the sum: without the program. -/
namespace Go.Proofs.YtdjpkgaicmklmaaGreat

theorem div1_inj {p x y : Nat} (hp : p % 2 = 1) (h : div1 p x = div1 p y) : x = y := by
  have par : ∀ z : Nat, ((2 * z) ^^^ (p + 4294967296)) % 2 = 1 := by
    intro z
    have := Nat.xor_mod_two_pow (a := 2 * z) (b := p + 4294967296) (n := 1)
    rw [Nat.pow_one] at this
    rw [this, show 2 * z % 2 = 0 by omega, show (p + 4294967296) % 2 = 1 by omega]
    rfl
  unfold div1 at h
  split at h <;> split at h
  · have h2 := congrArg (fun z => z ^^^ (p + 4294967296)) h
    simp only [Nat.xor_assoc, Nat.xor_self, Nat.xor_zero] at h2
    omega
  · have := par x; rw [h] at this; omega
  · have := par y; rw [← h] at this; omega
  · omega
theorem divN_inj {p : Nat} (hp : p % 2 = 1) : ∀ (k : Nat) {x y : Nat}, divN p k x = divN p k y → x = y
  | 0, _, _, h => h
  | k + 1, _, _, h => div1_inj hp (divN_inj hp k h)
theorem high_inj : ∀ (l m : List Bool), l.length = m.length → l.length ≤ 32 → high l = high m → l = m
  | [], [], _, _, _ => rfl
  | [], _ :: _, h, _, _ => by simp at h
  | _ :: _, [], h, _, _ => by simp at h
  | b :: l, c :: m, hl, h32, h => by
    have hb : b = c := by rw [← bit_high_top b l, ← bit_high_top c m, h]
    subst hb
    simp only [List.length_cons] at hl h32
    have e1 := high_even l 31 (by omega) (by omega)
    have e2 := high_even m 31 (by omega) (by omega)
    simp only [high] at h
    rw [high_inj l m (by omega) (by omega) (by omega)]
theorem crcB_short {p : Nat} (hp : p < 4294967296) (r : Nat) (hr : r < 4294967296) (e : List Bool) (he : e.length ≤ 32) : crcB p r e = divN p e.length (r ^^^ high e) := by
  have := divN_high p hp [] e r hr (by simpa using he)
  rw [List.append_nil] at this
  rw [this]; simp [high]
theorem cst_inj {p x y : Nat} {b : Bool} (hp : p < 4294967296) (ho : p % 2 = 1) (hx : x < 4294967296) (hy : y < 4294967296) (h : cst p x b = cst p y b) : x = y := by
  have ex := crcB_short hp x hx [b] (by simp)
  have ey := crcB_short hp y hy [b] (by simp)
  have : divN p 1 (x ^^^ high [b]) = divN p 1 (y ^^^ high [b]) := by
    rw [← List.length_singleton (a := b), ← ex, ← ey]; exact h
  have h2 := divN_inj ho 1 this
  have h3 := congrArg (fun z => z ^^^ high [b]) h2
  simpa [Nat.xor_assoc] using h3
theorem crcB_inj {p : Nat} (hp : p < 4294967296) (ho : p % 2 = 1) : ∀ (c : List Bool) {x y : Nat}, x < 4294967296 → y < 4294967296 → crcB p x c = crcB p y c → x = y
  | [], _, _, _, _, h => h
  | _ :: c, _, _, hx, hy, h => cst_inj hp ho hx hy (crcB_inj hp ho c (cst_lt hp) (cst_lt hp) h)
/-- Bits that part within 32 consecutive ones part the registers. -/
theorem burst {p : Nat} (hp : p < 4294967296) (ho : p % 2 = 1) (r : Nat) (hr : r < 4294967296) (a e e' c : List Bool) (hl : e.length = e'.length) (h32 : e.length ≤ 32) (h : crcB p r (a ++ e ++ c) = crcB p r (a ++ e' ++ c)) : e = e' := by
  have ha := crcB_lt hp a hr
  rw [crcB_append, crcB_append, crcB_append p r (a ++ e') c, crcB_append p r a e'] at h
  have h1 := crcB_inj hp ho c (crcB_lt hp e ha) (crcB_lt hp e' ha) h
  rw [crcB_short hp _ ha e h32, crcB_short hp _ ha e' (by omega), hl] at h1
  have h2 := divN_inj ho _ h1
  have h3 := congrArg (fun z => crcB p r a ^^^ z) h2
  simp only [← Nat.xor_assoc, Nat.xor_self, Nat.zero_xor] at h3
  exact high_inj e e' hl h32 h3

theorem high_append : ∀ (l m : List Bool), l.length + m.length ≤ 32 → high (l ++ m) = high l + high m / 2 ^ l.length
  | [], m, _ => by simp [high]
  | b :: l, m, h => by
    simp only [List.length_cons] at h
    have e := high_even l 31 (by omega) (by omega)
    simp only [List.cons_append, high, high_append l m (by omega), List.length_cons]
    rw [Nat.pow_succ, ← Nat.div_div_eq_div_mul]
    omega
theorem high_bytes (a b c d : UInt8) : high (allBits [a, b, c, d]) = a.toNat * 16777216 + b.toNat * 65536 + c.toNat * 256 + d.toNat := by
  have e : allBits [a, b, c, d] = bitsOf a ++ (bitsOf b ++ (bitsOf c ++ bitsOf d)) := by simp [allBits]
  rw [e, high_append _ _ (by simp [bitsOf]), high_append _ _ (by simp [bitsOf]), high_append _ _ (by simp [bitsOf])]
  rw [← byte_high, ← byte_high, ← byte_high, ← byte_high]
  simp only [show (bitsOf a).length = 8 from rfl, show (bitsOf b).length = 8 from rfl, show (bitsOf c).length = 8 from rfl]
  omega
theorem bytN (n : Int) (h0 : 0 ≤ n) (h1 : n < 256) : ((byt n).toNat : Int) = n := by
  simp [byt]; omega
theorem high_four (x : Nat) (h : x < 4294967296) : high (allBits (fourI x)) = x := by
  have a := bytN ((x : Int) / 16777216) (by omega) (by omega)
  have b := bytN ((x : Int) / 65536 % 256) (by omega) (by omega)
  have c := bytN ((x : Int) / 256 % 256) (by omega) (by omega)
  have d := bytN ((x : Int) % 256) (by omega) (by omega)
  unfold fourI
  rw [high_bytes]
  omega
/-- Bytes that end in their own sum leave all registers alike. -/
theorem resid {p : Nat} (hp : p < 4294967296) (s : List UInt8) : crcB p 4294967295 (allBits (s ++ fourI (crc p s))) = divN p 32 4294967295 := by
  have hr := crcB_lt hp (allBits s) (r := 4294967295) (by omega)
  have hc := crc_lt hp s
  rw [allBits_append, crcB_append, crcB_short hp _ hr _ (by rw [allBits_length]; simp [fourI]), high_four _ hc, allBits_length]
  simp only [crc, ← Nat.xor_assoc, Nat.xor_self, Nat.zero_xor]
  rfl
/-- Of two strings that end in their own sums and part within 32 consecutive bits alone both are the same. -/
theorem torn {p : Nat} (hp : p < 4294967296) (ho : p % 2 = 1) (s t : List UInt8) (a e e' c : List Bool) (hs : allBits (s ++ fourI (crc p s)) = a ++ e ++ c) (ht : allBits (t ++ fourI (crc p t)) = a ++ e' ++ c) (hl : e.length = e'.length) (h32 : e.length ≤ 32) : e = e' := by
  have h1 := resid hp s
  have h2 := resid hp t
  rw [hs] at h1
  rw [ht] at h2
  exact burst hp ho _ (by omega) a e e' c hl h32 (h1.trans h2.symm)
/-- Bits turned over within 32 consecutive ones turn the sum. -/
theorem crc_turn {p : Nat} (hp : p < 4294967296) (ho : p % 2 = 1) (s t : List UInt8) (a e e' c : List Bool) (hs : allBits s = a ++ e ++ c) (ht : allBits t = a ++ e' ++ c) (hl : e.length = e'.length) (h32 : e.length ≤ 32) (h : crc p s = crc p t) : e = e' := by
  unfold crc at h
  rw [hs, ht] at h
  have h2 := congrArg (fun z => z ^^^ 4294967295) h
  simp only [Nat.xor_assoc, Nat.xor_self, Nat.xor_zero] at h2
  exact burst hp ho _ (by omega) a e e' c hl h32 h2

/-- The register is linear in itself and in the bits. -/
theorem cst_lin (p r r' : Nat) (b b' : Bool) : cst p (r ^^^ r') (b != b') = cst p r b ^^^ cst p r' b' := by
  unfold cst
  rw [Nat.testBit_xor, xor_two_mul, xor_mod]
  generalize 2 * r % 4294967296 = u
  generalize 2 * r' % 4294967296 = v
  have e1 : (u ^^^ p) ^^^ (v ^^^ p) = u ^^^ v := by
    rw [Nat.xor_comm v p, ← Nat.xor_assoc, Nat.xor_assoc u p p, Nat.xor_self, Nat.xor_zero]
  have e2 : (u ^^^ p) ^^^ v = (u ^^^ v) ^^^ p := by rw [Nat.xor_assoc, Nat.xor_comm p v, ← Nat.xor_assoc]
  have e3 : u ^^^ (v ^^^ p) = (u ^^^ v) ^^^ p := by rw [Nat.xor_assoc]
  cases r.testBit 31 <;> cases r'.testBit 31 <;> cases b <;> cases b' <;> simp [e1, e2, e3]
theorem crcB_lin (p : Nat) : ∀ (l m : List Bool) (r r' : Nat), l.length = m.length → crcB p (r ^^^ r') (List.zipWith (· != ·) l m) = crcB p r l ^^^ crcB p r' m
  | [], [], _, _, _ => rfl
  | [], _ :: _, _, _, h => by simp at h
  | _ :: _, [], _, _, h => by simp at h
  | b :: l, c :: m, r, r', h => by
    simp only [List.zipWith_cons_cons, crcB, List.foldl_cons]
    rw [cst_lin]
    exact crcB_lin p l m _ _ (by simpa using h)
/-- What two strings' sums part by hangs on what the strings part by alone. -/
theorem crc_part (p : Nat) (s t : List UInt8) (h : s.length = t.length) : crc p s ^^^ crc p t = crcB p 0 (List.zipWith (· != ·) (allBits s) (allBits t)) := by
  have := crcB_lin p (allBits s) (allBits t) 4294967295 4294967295 (by rw [allBits_length, allBits_length, h])
  rw [Nat.xor_self] at this
  rw [this]
  unfold crc
  rw [Nat.xor_comm (crcB p 4294967295 (allBits t)) 4294967295, ← Nat.xor_assoc, Nat.xor_assoc (crcB p 4294967295 (allBits s)), Nat.xor_self, Nat.xor_zero]
theorem crcB_zeros (p : Nat) : ∀ n, crcB p 0 (List.replicate n false) = 0
  | 0 => rfl
  | n + 1 => by
    simp only [List.replicate_succ, crcB, List.foldl_cons]
    have : cst p 0 false = 0 := by simp [cst]
    rw [this]; exact crcB_zeros p n
/-- What two frames part by whose records part in the last byte, a against b. -/
def d40 : List Bool := bitsOf 3 ++ allBits (fourI (crcB pSum 0 (bitsOf 3)))
theorem strange_seal : crcB pSeal 0 d40 ≠ 0 := by decide +kernel
theorem strange_sum : crcB pSum 0 (d40 ++ allBits (fourI (crcB pSeal 0 d40))) ≠ 0 := by decide +kernel
end Go.Proofs.YtdjpkgaicmklmaaGreat

/- Volumes: Split and Join without the program. -/
namespace Go.Proofs.YtdjpkgaicmklmaaGreat
open Go.RowKit

/-- The head and the bytes of a volume, ahead of its own sum. -/
def volH (i n : Int) (s : Nat) (part : List UInt8) : List UInt8 := [86, 79, 76, 49, byt i, byt n] ++ fourI s ++ part
def volB (i n : Int) (s : Nat) (part : List UInt8) : List UInt8 := volH i n s part ++ fourI (crc pSum (volH i n s part))
/-- How many volumes of m bytes each. -/
def cntB (m k : Nat) : Nat := if k ≤ m then 1 else (k + m - 1) / m
def partB (m i : Nat) (b : List UInt8) : List UInt8 := (b.drop (i * m)).take m
def volsB (m : Nat) (b : List UInt8) : List (List UInt8) :=
  (List.range (cntB m b.length)).map fun (i : Nat) => volB (i : Int) (cntB m b.length) (crc pSum b) (partB m i b)

def numV (v : List UInt8) : Nat := (v.getD 4 0).toNat
def cntV (v : List UInt8) : Nat := (v.getD 5 0).toNat
def idV (v : List UInt8) : List UInt8 := (v.drop 5).take 5
def sumV (v : List UInt8) : List UInt8 := (v.drop 6).take 4
def bodyV (v : List UInt8) : List UInt8 := (v.drop 10).take (v.length - 14)
def volOk (v : List UInt8) : Bool := decide (14 ≤ v.length) && v.take 4 == [86, 79, 76, 49] && decide (numV v < cntV v) && fourI (crc pSum (v.take (v.length - 4))) == v.drop (v.length - 4)

def firstOf (f : Nat → Bool) (n : Nat) : Option Nat := (List.range n).find? f
theorem firstOf_some {f : Nat → Bool} {n i : Nat} : firstOf f n = some i ↔ f i = true ∧ i < n ∧ ∀ j, j < i → f j = false := by
  unfold firstOf; rw [List.find?_range_eq_some]; simp
theorem firstOf_none {f : Nat → Bool} {n : Nat} : firstOf f n = none ↔ ∀ i, i < n → f i = false := by
  unfold firstOf; rw [List.find?_eq_none]; simp

def atV (l : List (List UInt8)) (n : Nat) : Nat := l.findIdx (fun v => numV v == n)
def bad1 (l : List (List UInt8)) (i : Nat) : Bool := !volOk (l.getD i [])
def bad2 (l : List (List UInt8)) (i : Nat) : Bool := idV (l.getD i []) != idV (l.getD 0 [])
def bad3 (l : List (List UInt8)) (i : Nat) : Bool := (l.take i).any fun v => numV v == numV (l.getD i [])
def allV (l : List (List UInt8)) (k : Nat) : List UInt8 := (List.range k).flatMap fun n => bodyV (l.getD (atV l n) [])
structure Jn where
  b : List UInt8
  err : Int
  at_ : Nat
def joinRd (l : List (List UInt8)) : Jn :=
  match firstOf (bad1 l) l.length with
  | some i => ⟨[], 13, i⟩
  | none => match firstOf (bad2 l) l.length with
    | some i => ⟨[], 14, i⟩
    | none => match firstOf (bad3 l) l.length with
      | some i => ⟨[], 15, i⟩
      | none => if l.length = 0 ∨ l.length ≠ cntV (l.getD 0 []) then ⟨[], 16, 0⟩
        else if fourI (crc pSum (allV l l.length)) ≠ sumV (l.getD 0 []) then ⟨[], 8, 0⟩ else ⟨allV l l.length, 0, 0⟩

/-- Numbers below n, none twice, are at most n; n of them are all. -/
theorem below_length : ∀ (n : Nat) (l : List Nat), l.Nodup → (∀ x ∈ l, x < n) → l.length ≤ n
  | 0, [], _, _ => Nat.le_refl 0
  | 0, x :: _, _, h => absurd (h x (by simp)) (by omega)
  | n + 1, l, hd, h => by
    have := below_length n (l.erase n) (hd.erase n) (fun x hx => by
      rw [hd.mem_erase_iff] at hx; have := h x hx.2; omega)
    rw [List.length_erase] at this; split at this <;> omega
theorem below_all {n : Nat} {l : List Nat} (hd : l.Nodup) (h : ∀ x ∈ l, x < n) (hl : l.length = n) {k : Nat} (hk : k < n) : k ∈ l := by
  by_cases hm : k ∈ l
  · exact hm
  · have := below_length n (k :: l) (List.nodup_cons.mpr ⟨hm, hd⟩) (by intro x hx; rcases List.mem_cons.mp hx with rfl | hx; exact hk; exact h x hx)
    simp at this; omega

theorem bad3_none {l : List (List UInt8)} (h : ∀ i, i < l.length → bad3 l i = false) : (l.map numV).Nodup := by
  rw [List.nodup_iff_pairwise_ne, List.pairwise_iff_getElem]
  intro i j hi hj hij he
  simp only [List.length_map] at hi hj
  have := h j hj
  simp only [bad3, List.any_eq_false, beq_iff_eq] at this
  simp only [List.getElem_map] at he
  refine this l[i] ?_ ?_
  · rw [List.mem_take_iff_getElem]; exact ⟨i, by omega, rfl⟩
  · rw [he, List.getD_eq_getElem?_getD, List.getElem?_eq_getElem hj]; rfl
theorem nodup_bad3 {l : List (List UInt8)} (h : (l.map numV).Nodup) (i : Nat) (hi : i < l.length) : bad3 l i = false := by
  rw [List.nodup_iff_pairwise_ne, List.pairwise_iff_getElem] at h
  simp only [bad3, List.any_eq_false, beq_iff_eq]
  intro v hv he
  rw [List.mem_take_iff_getElem] at hv
  obtain ⟨j, hj, rfl⟩ := hv
  refine h j i (by simp; omega) (by simpa using hi) (by omega) ?_
  simp only [List.getElem_map]
  rw [he, List.getD_eq_getElem?_getD, List.getElem?_eq_getElem hi]; rfl

/-- Behind the first three searches each number below the count is there. -/
theorem at_lt {l : List (List UInt8)} (h1 : ∀ i, i < l.length → bad1 l i = false) (h2 : ∀ i, i < l.length → bad2 l i = false) (h3 : ∀ i, i < l.length → bad3 l i = false)
    (hl : l.length = cntV (l.getD 0 [])) {n : Nat} (hn : n < l.length) : atV l n < l.length := by
  have hc : ∀ i, i < l.length → cntV (l.getD i []) = cntV (l.getD 0 []) := by
    intro i hi
    have a := h2 i hi
    simp only [bad2, bne_eq_false_iff_eq] at a
    have hz : ∀ v : List UInt8, cntV v = ((idV v).getD 0 0).toNat := by intro v; unfold cntV idV; simp [List.getElem?_drop]
    rw [hz, hz, a]
  have hm : n ∈ l.map numV := by
    refine below_all (n := l.length) (bad3_none h3) ?_ (by simp) hn
    intro x hx
    rw [List.mem_map] at hx
    obtain ⟨v, hv, rfl⟩ := hx
    obtain ⟨i, hi, rfl⟩ := List.mem_iff_getElem.mp hv
    have a := h1 i hi
    have b := hc i hi
    simp only [bad1, Bool.not_eq_false', List.getD_eq_getElem?_getD, List.getElem?_eq_getElem hi, Option.getD_some] at a
    simp only [List.getD_eq_getElem?_getD, List.getElem?_eq_getElem hi, Option.getD_some] at b hl
    simp only [volOk, Bool.and_eq_true, decide_eq_true_eq] at a
    omega
  unfold atV
  rw [List.findIdx_lt_length]
  rw [List.mem_map] at hm
  obtain ⟨v, hv, he⟩ := hm
  exact ⟨v, hv, by simp [he]⟩
end Go.Proofs.YtdjpkgaicmklmaaGreat

/- Volumes: what Join makes of the volumes of some bytes, without the program. -/
namespace Go.Proofs.YtdjpkgaicmklmaaGreat
open Go.RowKit

theorem fourI_len (s : Int) : (fourI s).length = 4 := rfl
theorem fourI_inj {s t : Nat} (hs : s < 4294967296) (ht : t < 4294967296) (h : fourI s = fourI t) : s = t := by
  rw [← high_four s hs, ← high_four t ht, h]
theorem pSum_lt : pSum < 4294967296 := by decide
theorem pSum_odd : pSum % 2 = 1 := by decide

theorem volH_len (i n : Int) (s : Nat) (p : List UInt8) : (volH i n s p).length = p.length + 10 := by
  simp [volH, fourI]
theorem volB_len (i n : Int) (s : Nat) (p : List UInt8) : (volB i n s p).length = p.length + 14 := by
  simp [volB, volH_len, fourI_len]
theorem byt_nat (i : Nat) (h : i < 256) : (byt i).toNat = i := by
  have := bytN i (by omega) (by omega); omega
theorem volB_num (i n : Nat) (s : Nat) (p : List UInt8) (h : i < 256) : numV (volB i n s p) = i := by
  simp [numV, volB, volH, byt_nat i h]
theorem volB_cnt (i n : Nat) (s : Nat) (p : List UInt8) (h : n < 256) : cntV (volB i n s p) = n := by
  simp [cntV, volB, volH, byt_nat n h]
theorem volB_id (i n : Int) (s : Nat) (p : List UInt8) : idV (volB i n s p) = byt n :: fourI s := by
  simp [idV, volB, volH, fourI]
theorem volB_sum (i n : Int) (s : Nat) (p : List UInt8) : sumV (volB i n s p) = fourI s := by
  simp [sumV, volB, volH, fourI]
theorem volB_body (i n : Int) (s : Nat) (p : List UInt8) : bodyV (volB i n s p) = p := by
  unfold bodyV; rw [volB_len]; simp [volB, volH, fourI]
theorem volB_ok (i n : Nat) (s : Nat) (p : List UInt8) (h : i < n) (hn : n < 256) : volOk (volB i n s p) = true := by
  have e : (volB i n s p).length - 4 = (volH i n s p).length := by rw [volB_len, volH_len]; omega
  unfold volOk
  rw [volB_num i n s p (by omega), volB_cnt i n s p hn, e]
  have a : (volB i n s p).take (volH i n s p).length = volH i n s p := by simp [volB]
  have b : (volB i n s p).drop (volH i n s p).length = fourI (crc pSum (volH i n s p)) := by simp [volB]
  rw [a, b, volB_len]
  simp [h, volB, volH]

theorem cnt_pos (m k : Nat) (hm : 0 < m) : 0 < cntB m k := by
  unfold cntB; split
  · omega
  · exact Nat.div_pos (by omega) hm
theorem cnt_ge (m k : Nat) (hm : 0 < m) : k ≤ cntB m k * m := by
  unfold cntB; split
  · omega
  · have := Nat.div_add_mod (k + m - 1) m; have := Nat.mod_lt (k + m - 1) hm; rw [Nat.mul_comm]; omega
theorem cnt_least (m k : Nat) (hm : 0 < m) : 1 < cntB m k → (cntB m k - 1) * m < k := by
  unfold cntB; split
  · omega
  · intro _
    have := Nat.div_add_mod (k + m - 1) m
    rw [Nat.sub_mul, Nat.mul_comm]; omega
theorem cnt_small (m k : Nat) (hm : 26 ≤ m) (hk : k ≤ 6000) : cntB m k < 256 := by
  by_cases h : 1 < cntB m k
  · have := cnt_least m k (by omega) h
    have : (cntB m k - 1) * 26 ≤ (cntB m k - 1) * m := Nat.mul_le_mul_left _ hm
    omega
  · omega

theorem parts_take (m : Nat) (b : List UInt8) : ∀ k, ((List.range k).flatMap fun i => partB m i b) = b.take (k * m)
  | 0 => by simp
  | k + 1 => by
    rw [List.range_succ, List.flatMap_append, parts_take m b k]
    simp only [List.flatMap_cons, List.flatMap_nil, List.append_nil, partB]
    rw [Nat.add_mul, Nat.one_mul, List.take_add]
theorem parts_all (m : Nat) (b : List UInt8) (hm : 0 < m) : ((List.range (cntB m b.length)).flatMap fun i => partB m i b) = b := by
  rw [parts_take, List.take_of_length_le (cnt_ge m b.length hm)]

theorem vols_len (m : Nat) (b : List UInt8) : (volsB m b).length = cntB m b.length := by simp [volsB]
theorem vols_get (m : Nat) (b : List UInt8) (i : Nat) (h : i < cntB m b.length) : (volsB m b).getD i [] = volB i (cntB m b.length) (crc pSum b) (partB m i b) := by
  simp [volsB, h]
theorem vols_mem {m : Nat} {b v : List UInt8} (h : v ∈ volsB m b) : ∃ i, i < cntB m b.length ∧ v = volB (i : Nat) (cntB m b.length) (crc pSum b) (partB m i b) := by
  simp only [volsB, List.mem_map, List.mem_range] at h
  obtain ⟨i, hi, rfl⟩ := h; exact ⟨i, hi, rfl⟩
theorem vols_nums (m : Nat) (b : List UInt8) (hs : cntB m b.length < 256) : (volsB m b).map numV = List.range (cntB m b.length) := by
  unfold volsB; rw [List.map_map]
  conv => rhs; rw [← List.map_id (List.range _)]
  apply List.map_congr_left; intro i hi
  simp only [List.mem_range] at hi
  simp only [Function.comp_apply, id_eq]
  exact volB_num i _ _ _ (by omega)

theorem volAt_mem {l : List (List UInt8)} {i : Nat} (h : i < l.length) : l.getD i [] ∈ l := by
  rw [List.getD_eq_getElem?_getD, List.getElem?_eq_getElem h]; exact List.getElem_mem h

/-- What lists of volumes of some bytes have in common. -/
structure Of (m : Nat) (b : List UInt8) (l : List (List UInt8)) : Prop where
  all : ∀ v ∈ l, v ∈ volsB m b
  hm : 26 ≤ m
  hb : b.length ≤ 6000
theorem Of.bad1 {m : Nat} {b : List UInt8} {l : List (List UInt8)} (h : Of m b l) (i : Nat) (hi : i < l.length) : bad1 l i = false := by
  obtain ⟨k, hk, e⟩ := vols_mem (h.all _ (volAt_mem hi))
  unfold YtdjpkgaicmklmaaGreat.bad1; rw [e, volB_ok k _ _ _ hk (cnt_small m _ h.hm h.hb)]; rfl
theorem Of.id {m : Nat} {b : List UInt8} {l : List (List UInt8)} (h : Of m b l) (i : Nat) (hi : i < l.length) : idV (l.getD i []) = byt (cntB m b.length : Nat) :: fourI (crc pSum b) := by
  obtain ⟨k, hk, e⟩ := vols_mem (h.all _ (volAt_mem hi))
  rw [e, volB_id]
theorem Of.bad2 {m : Nat} {b : List UInt8} {l : List (List UInt8)} (h : Of m b l) (i : Nat) (hi : i < l.length) : bad2 l i = false := by
  unfold YtdjpkgaicmklmaaGreat.bad2; rw [h.id i hi, h.id 0 (by omega)]; simp
theorem Of.cnt {m : Nat} {b : List UInt8} {l : List (List UInt8)} (h : Of m b l) (i : Nat) (hi : i < l.length) : cntV (l.getD i []) = cntB m b.length := by
  obtain ⟨k, hk, e⟩ := vols_mem (h.all _ (volAt_mem hi))
  rw [e, volB_cnt k _ _ _ (cnt_small m _ h.hm h.hb)]
theorem Of.sum {m : Nat} {b : List UInt8} {l : List (List UInt8)} (h : Of m b l) (i : Nat) (hi : i < l.length) : sumV (l.getD i []) = fourI (crc pSum b) := by
  obtain ⟨k, hk, e⟩ := vols_mem (h.all _ (volAt_mem hi))
  rw [e, volB_sum]

/-- The volumes of some bytes, in any order, make these bytes again. -/
theorem join_perm {m : Nat} {b : List UInt8} {l : List (List UInt8)} (hm : 26 ≤ m) (hb : b.length ≤ 6000) (hp : l.Perm (volsB m b)) : joinRd l = ⟨b, 0, 0⟩ := by
  have hs := cnt_small m _ hm hb
  have h : Of m b l := ⟨fun v hv => hp.mem_iff.mp hv, hm, hb⟩
  have hl : l.length = cntB m b.length := by rw [hp.length_eq, vols_len]
  have h0 : 0 < l.length := by rw [hl]; exact cnt_pos m _ (by omega)
  have hn : (l.map numV).Nodup := (hp.map numV).nodup_iff.mpr (by rw [vols_nums m b hs]; exact List.nodup_range)
  have h1 := h.bad1
  have h2 := h.bad2
  have h3 := nodup_bad3 hn
  have hat : ∀ n, n < l.length → bodyV (l.getD (atV l n) []) = partB m n b := by
    intro n hn'
    have ha := at_lt h1 h2 h3 (by rw [h.cnt 0 h0, hl]) hn'
    obtain ⟨k, hk, e⟩ := vols_mem (h.all _ (volAt_mem ha))
    have hq : numV (l.getD (atV l n) []) = n := by
      have := List.findIdx_getElem (w := ha) (p := fun v => numV v == n)
      rw [List.getD_eq_getElem?_getD, List.getElem?_eq_getElem ha]
      have e2 := of_decide_eq_true (p := numV (l[l.findIdx (fun v => numV v == n)]'ha) = n) (by simpa using this)
      exact e2
    rw [e, volB_num k _ _ _ (by omega)] at hq
    rw [e, volB_body, hq]
  have hA : allV l l.length = b := by
    have : allV l l.length = (List.range l.length).flatMap fun i => partB m i b := by
      unfold allV
      rw [List.flatMap_def, List.flatMap_def]
      congr 1
      apply List.map_congr_left; intro n hn'; exact hat n (List.mem_range.mp hn')
    rw [this, hl, parts_all m b (by omega)]
  unfold joinRd
  rw [firstOf_none.mpr h1, firstOf_none.mpr h2, firstOf_none.mpr h3]
  simp only
  rw [if_neg (by rw [h.cnt 0 h0]; omega), hA, h.sum 0 h0, if_neg (by simp)]

/-- Without one of them they are refused. -/
theorem join_less {m : Nat} {b : List UInt8} {l : List (List UInt8)} (hm : 26 ≤ m) (hb : b.length ≤ 6000) (hp : l.Sublist (volsB m b)) (hl : l.length ≠ cntB m b.length) : joinRd l = ⟨[], 16, 0⟩ := by
  have hs := cnt_small m _ hm hb
  have h : Of m b l := ⟨fun v hv => hp.subset hv, hm, hb⟩
  have hn : (l.map numV).Nodup := List.Nodup.sublist (hp.map numV) (by rw [vols_nums m b hs]; exact List.nodup_range)
  unfold joinRd
  rw [firstOf_none.mpr h.bad1, firstOf_none.mpr h.bad2, firstOf_none.mpr (nodup_bad3 hn)]
  simp only
  rw [if_pos]
  by_cases h0 : l.length = 0
  · exact Or.inl h0
  · right; rw [h.cnt 0 (by omega)]; exact hl

/-- With one twice they are refused, at the second one. -/
theorem join_more {m : Nat} {b v : List UInt8} (hm : 26 ≤ m) (hb : b.length ≤ 6000) (hv : v ∈ volsB m b) : joinRd (volsB m b ++ [v]) = ⟨[], 15, cntB m b.length⟩ := by
  have hs := cnt_small m _ hm hb
  have h : Of m b (volsB m b ++ [v]) := ⟨fun u hu => by rcases List.mem_append.mp hu with hu | hu; exact hu; rw [List.mem_singleton.mp hu]; exact hv, hm, hb⟩
  have hn : ((volsB m b).map numV).Nodup := by rw [vols_nums m b hs]; exact List.nodup_range
  unfold joinRd
  rw [firstOf_none.mpr h.bad1, firstOf_none.mpr h.bad2, (firstOf_some (i := cntB m b.length)).mpr]
  refine ⟨?_, by simp [vols_len], ?_⟩
  · simp only [YtdjpkgaicmklmaaGreat.bad3, ← vols_len, List.take_left', List.any_eq_true, beq_iff_eq]
    exact ⟨v, hv, by simp⟩
  · intro j hj
    have hj' : j < (volsB m b).length := by rw [vols_len]; exact hj
    have := nodup_bad3 hn j hj'
    rw [← this]
    unfold YtdjpkgaicmklmaaGreat.bad3
    rw [List.take_append_of_le_length (by omega), List.getD_eq_getElem?_getD, List.getElem?_append_left hj', ← List.getD_eq_getElem?_getD]

/-- One of them that is no volume any more is told. -/
theorem join_torn {m : Nat} {b v : List UInt8} {i : Nat} (hm : 26 ≤ m) (hb : b.length ≤ 6000) (hi : i < cntB m b.length) (hv : volOk v = false) : joinRd ((volsB m b).set i v) = ⟨[], 13, i⟩ := by
  have h : Of m b (volsB m b) := ⟨fun _ h => h, hm, hb⟩
  unfold joinRd
  rw [(firstOf_some (i := i)).mpr]
  refine ⟨?_, by simp [vols_len, hi], ?_⟩
  · simp [YtdjpkgaicmklmaaGreat.bad1, vols_len, hi, hv]
  · intro j hj
    rw [← h.bad1 j (by rw [vols_len]; omega)]
    simp only [YtdjpkgaicmklmaaGreat.bad1, List.getD_eq_getElem?_getD]
    rw [List.getElem?_set_ne (by omega)]

/-- One of bytes with another sum among them is told; in the first place the one behind it is. -/
theorem join_mixed {m : Nat} {b c : List UInt8} {i : Nat} (hm : 26 ≤ m) (hb : b.length ≤ 6000) (hc : c.length = b.length) (hs : crc pSum b ≠ crc pSum c) (h2 : 1 < cntB m b.length) (hi : i < cntB m b.length) :
    joinRd ((volsB m b).set i ((volsB m c).getD i [])) = ⟨[], 14, if i = 0 then 1 else i⟩ := by
  have hk := cnt_small m _ hm hb
  have hne : fourI (crc pSum b) ≠ fourI (crc pSum c) := fun e => hs (fourI_inj (crc_lt pSum_lt b) (crc_lt pSum_lt c) e)
  have h : Of m b (volsB m b) := ⟨fun _ h => h, hm, hb⟩
  have hcv := vols_get m c i (by rw [hc]; exact hi)
  rw [hc] at hcv
  have hlen : ((volsB m b).set i ((volsB m c).getD i [])).length = cntB m b.length := by simp [vols_len]
  have g0 : ((volsB m b).set i ((volsB m c).getD i [])).getD i [] = volB i (cntB m b.length) (crc pSum c) (partB m i c) := by
    rw [hcv]; simp [vols_len, hi]
  have g1 : ∀ j, j ≠ i → ((volsB m b).set i ((volsB m c).getD i [])).getD j [] = (volsB m b).getD j [] := by
    intro j hj; simp only [List.getD_eq_getElem?_getD]; rw [List.getElem?_set_ne (by omega)]
  have hid : ∀ j, j < cntB m b.length → j ≠ i → idV (((volsB m b).set i ((volsB m c).getD i [])).getD j []) = byt (cntB m b.length : Nat) :: fourI (crc pSum b) := by
    intro j hj hji; rw [g1 j hji, h.id j (by rw [vols_len]; exact hj)]
  have hidi : idV (((volsB m b).set i ((volsB m c).getD i [])).getD i []) = byt (cntB m b.length : Nat) :: fourI (crc pSum c) := by
    rw [g0, volB_id]
  have n1 : ∀ j, j < ((volsB m b).set i ((volsB m c).getD i [])).length → YtdjpkgaicmklmaaGreat.bad1 ((volsB m b).set i ((volsB m c).getD i [])) j = false := by
    intro j hj
    rw [hlen] at hj
    unfold YtdjpkgaicmklmaaGreat.bad1
    by_cases hji : j = i
    · rw [hji, g0, volB_ok i _ _ _ hi hk]; rfl
    · rw [g1 j hji]; exact h.bad1 j (by rw [vols_len]; exact hj)
  unfold joinRd
  rw [firstOf_none.mpr n1, (firstOf_some (i := if i = 0 then 1 else i)).mpr]
  rw [hlen]
  by_cases h0 : i = 0
  · rw [if_pos h0]
    refine ⟨?_, h2, ?_⟩
    · unfold YtdjpkgaicmklmaaGreat.bad2; rw [hid 1 h2 (by omega)]
      have := hidi; rw [h0] at this; rw [h0, this]; simp [hne]
    · intro j hj; unfold YtdjpkgaicmklmaaGreat.bad2; rw [show j = 0 by omega]; simp
  · rw [if_neg h0]
    refine ⟨?_, hi, ?_⟩
    · unfold YtdjpkgaicmklmaaGreat.bad2; rw [hidi, hid 0 (by omega) (fun e => h0 e.symm)]; simp [hne.symm]
    · intro j hj; unfold YtdjpkgaicmklmaaGreat.bad2; rw [hid j (by omega) (by omega), hid 0 (by omega) (fun e => h0 e.symm)]; simp

/-- Some bits turned over within 32 consecutive ones: no volume any more. -/
theorem vol_torn {i n : Nat} {s : Nat} {p v : List UInt8} (a e e' c : List Bool) (hs : allBits (volB i n s p) = a ++ e ++ c) (ht : allBits v = a ++ e' ++ c)
    (hl : e.length = e'.length) (h32 : e.length ≤ 32) (hne : e ≠ e') : volOk v = false := by
  cases hv : volOk v with
  | false => rfl
  | true =>
    exfalso
    simp only [volOk, Bool.and_eq_true, decide_eq_true_eq, beq_iff_eq] at hv
    obtain ⟨⟨⟨h14, _⟩, _⟩, hsum⟩ := hv
    have hv2 : v = v.take (v.length - 4) ++ fourI (crc pSum (v.take (v.length - 4))) := by
      rw [hsum, List.take_append_drop]
    rw [hv2] at ht
    exact hne (torn pSum_lt pSum_odd _ _ a e e' c hs ht hl h32)
end Go.Proofs.YtdjpkgaicmklmaaGreat

/- A list in another order (shuffled): without the program. -/
namespace Go.Proofs.YtdjpkgaicmklmaaGreat
open Go.RowKit

def swapL (l : List (List UInt8)) (a b : Nat) : List (List UInt8) := (l.set a (l.getD b [])).set b (l.getD a [])
theorem swap_len (l : List (List UInt8)) (a b : Nat) : (swapL l a b).length = l.length := by simp [swapL]
theorem swap_perm (l : List (List UInt8)) (a b : Nat) (ha : a < l.length) (hb : b < l.length) : (swapL l a b).Perm l := by
  have ea : l.getD a [] = l[a] := by simp [ha]
  have eb : l.getD b [] = l[b] := by simp [hb]
  have pa : ∀ x, l[a] = x → 0 < l.count x := fun x h => List.count_pos_iff.mpr (h ▸ List.getElem_mem ha)
  rw [List.perm_iff_count]
  intro x
  unfold swapL
  rw [ea, eb, List.count_set (by simpa using hb), List.count_set ha]
  have hg : (l.set a l[b])[b]'(by simpa using hb) = l[b] := by
    rw [List.getElem_set]; split
    · rfl
    · rfl
  rw [hg]
  have := pa x
  by_cases h1 : l[a] = x
  · by_cases h2 : l[b] = x
    · simp [h1, h2]; have := this h1; omega
    · simp [h1, h2]; have := this h1; omega
  · by_cases h2 : l[b] = x
    · simp [h1, h2]
    · simp [h1, h2]
/-- As 'shuffled' does it: the i-th turn changes a chosen place (below the length) with place i mod length. -/
def shufL (f : Nat → Nat) (l : List (List UInt8)) : Nat → List (List UInt8)
  | 0 => l
  | k + 1 => swapL (shufL f l k) (f k) (k % l.length)
theorem shuf_len (f : Nat → Nat) (l : List (List UInt8)) : ∀ k, (shufL f l k).length = l.length
  | 0 => rfl
  | k + 1 => by simp only [shufL]; rw [swap_len, shuf_len f l k]
theorem shuf_perm (f : Nat → Nat) (l : List (List UInt8)) (hf : ∀ k, f k < l.length) : ∀ k, (shufL f l k).Perm l
  | 0 => List.Perm.refl _
  | k + 1 => by
    have h0 : 0 < l.length := Nat.lt_of_le_of_lt (Nat.zero_le _) (hf 0)
    exact (swap_perm _ _ _ (by rw [shuf_len]; exact hf k) (by rw [shuf_len]; exact Nat.mod_lt _ h0)).trans (shuf_perm f l hf k)
end Go.Proofs.YtdjpkgaicmklmaaGreat

/- Records as bytes: the program's Head, Clock, Card, Edit; the reference's Number; walked. -/
namespace Go.Proofs.YtdjpkgaicmklmaaGreat
open Go.RowKit

theorem mk_append_str (l b : List UInt8) : (ByteArray.mk l.toArray) ++ str b = str (l ++ b) := str_append l b
theorem str_append_mk (l b : List UInt8) : str b ++ (ByteArray.mk l.toArray) = str (b ++ l) := str_append b l
attribute [local go_sem] str_size str_append mk_append_str str_append_mk

theorem numB_length (n : Int) : (numB n).length ≤ 10 := by
  unfold numB; rw [List.length_map]; exact numI_length 9 n

set_option maxRecDepth 100000 in
set_option maxHeartbeats 1000000 in
theorem rnumber_k : ∀ (k : Nat), k ≤ 9 → ∀ (n : Int) (w : World), 0 ≤ n → n ≤ 9223372036854775807 → n < 128 ^ (k + 1) →
    Calls Tryz.prog 84 #[.int .i64 n] w fun e w' => e = .returned (.string (str ((numI k n).map byt))) ∧ Below w.heap.size w w' := by
  intro k
  induction k with
  | zero =>
    intro _ n w h0 h1 hk
    have h2 : n < 128 := by simpa using hk
    clear hk
    go_enter Tryz.func84, Tryz.ntmps84
    go_wp2_with (refine wpList_toString (by rfl) 90 9 5 _ (by rfl) Tryz.underlying90 Tryz.underlying5 Tryz.underlying9 _ _ _ (by rfl) [n] rfl ?_ ?_; exact new_cells _ _ _)
    go_ret
    exact ⟨rfl, (Below.refl _ _).alloc (Nat.le_refl _) _⟩
  | succ k ih =>
    intro hk9 n w h0 h1 hk
    have IH : Hid (∀ (n : Int) (w : World), 0 ≤ n → n ≤ 9223372036854775807 → n < 128 ^ (k + 1) →
      Calls Tryz.prog 84 #[.int .i64 n] w fun e w' => e = .returned (.string (str ((numI k n).map byt))) ∧ Below w.heap.size w w') := ih (by omega)
    clear ih
    by_cases h2 : n < 128
    · rw [numI_small _ _ h2]
      clear hk
      go_enter Tryz.func84, Tryz.ntmps84
      go_wp2_with (refine wpList_toString (by rfl) 90 9 5 _ (by rfl) Tryz.underlying90 Tryz.underlying5 Tryz.underlying9 _ _ _ (by rfl) [n] rfl ?_ ?_; exact new_cells _ _ _)
      go_ret
      exact ⟨rfl, (Below.refl _ _).alloc (Nat.le_refl _) _⟩
    · have hd : n / 128 < 128 ^ (k + 1) := by
        rw [Int.pow_succ] at hk
        exact Int.ediv_lt_of_lt_mul (by omega) hk
      have HD : Hid (n / 128 < 128 ^ (k + 1)) := hd
      have hl : ((numI k (n / 128)).map byt).length ≤ k + 1 := by rw [List.length_map]; exact numI_length _ _
      clear hk hd
      have hfin : numI (k + 1) n = (n % 128 + 128) :: numI k (n / 128) := by simp only [numI]; rw [if_neg h2]
      have HF : Hid (numI (k + 1) n = (n % 128 + 128) :: numI k (n / 128)) := hfin
      clear hfin
      go_enter Tryz.func84, Tryz.ntmps84
      go_wp2_with fail
      refine (IH.out (n / 128) _ (by omega) (by omega) HD.out).mono ?_
      rintro e w1 ⟨rfl, hb⟩
      have HL : Hid (numI k (n / 128) = numI k (n / 128)) := rfl
      generalize hT : (numI k (n / 128)).map byt = tl at *
      have HT : Hid ((numI k (n / 128)).map byt = tl) := hT
      clear hT HL
      go_wp2_with (refine wpList_toString (by rfl) 90 9 5 _ (by rfl) Tryz.underlying90 Tryz.underlying5 Tryz.underlying9 _ _ _ (by rfl) [n % 128 + 128] rfl ?_ ?_; exact new_cells _ _ _)
      go_ret
      exact ⟨ret_str (by rw [HF.out]; simp only [List.map_cons]; rw [HT.out]), hb.alloc hb.size _⟩

theorem rnumber_any (n : Int) (w : World) (h0 : 0 ≤ n) (h1 : n ≤ 9223372036854775807) :
    Calls Tryz.prog 84 #[.int .i64 n] w fun e w' => e = .returned (.string (str (numB n))) ∧ Below w.heap.size w w' :=
  rnumber_k 9 (Nat.le_refl _) n w h0 h1 (by omega)

/-- A box, behind whatever was laid since. -/
theorem boxN {w wr : World} {cs : Array Value} {t : TypeId} (hb : Below (w.heap.size + 1) (w.alloc (.cells cs t)) wr) (j : Nat) : wr.cell? ⟨w.heap.size, j, none⟩ = cs[j]? := by
  rw [hb.cell (p := ⟨w.heap.size, j, none⟩) (by simp), World.cell?_alloc_new]
theorem box_old {w wr : World} {o : Obj} (hb : Below (w.heap.size + 1) (w.alloc o) wr) : Below w.heap.size w wr :=
  ((Below.refl _ _).alloc (Nat.le_refl _) o).trans (hb.mono (by omega))
theorem box_step {w wr w1 : World} {o : Obj} (hb : Below (w.heap.size + 1) (w.alloc o) wr) (h : Below wr.heap.size wr w1) : Below (w.heap.size + 1) (w.alloc o) w1 :=
  hb.trans (h.mono (by have := hb.size; simpa using this))

def recHead (seq base : Int) : List UInt8 := 4 :: (numB seq ++ if seq = 0 then [] else fourI base)
def recClock (c : Ck) : List UInt8 := 1 :: (numB c.site ++ numB c.count)
def recCard (c : Cd) : List UInt8 := 2 :: (numB c.id ++ (numB c.site ++ (numB c.count ++ ((if c.gone then 1 else 0) :: c.text.data.toList))))
def recEdit (c : Ed) : List UInt8 := 3 :: (numB c.id ++ c.text.data.toList)

/-- A number that may be written. -/
def Num (n : Int) : Prop := 0 ≤ n ∧ n ≤ 9223372036854775807

set_option maxRecDepth 100000 in
set_option maxHeartbeats 1000000 in
theorem clock_any (c : Ck) (w : World) (h1 : Num c.site) (h2 : Num c.count) :
    Calls Tryz.prog 76 #[.agg #[.int .i64 c.site, .int .i64 c.count]] w fun e w' => e = .returned (.string (str (recClock c))) ∧ Below w.heap.size w w' := by
  have hb0 : Below (w.heap.size + 1) (w.alloc (.cells #[.int .i64 c.site, .int .i64 c.count] 37)) (w.alloc (.cells #[.int .i64 c.site, .int .i64 c.count] 37)) := Below.refl _ _
  have l1 := numB_length c.site
  have l2 := numB_length c.count
  go_enter Tryz.func76, Tryz.ntmps76
  go_wp2_with fail
  refine (oneByte_any 1 _ (by decide) (by decide)).mono ?_
  rintro e w1 ⟨rfl, hh⟩
  have hb1 := box_step hb0 hh
  clear hh hb0
  have x0 : w1.cell? ⟨w.heap.size, 0, none⟩ = some (.int .i64 c.site) := boxN hb1 0
  go_wp2_with fail
  refine (number_any c.site _ h1.1 h1.2).mono ?_
  rintro e w2 ⟨rfl, hh⟩
  have hb2 := box_step hb1 hh
  clear hh hb1 x0
  have x1 : w2.cell? ⟨w.heap.size, 1, none⟩ = some (.int .i64 c.count) := boxN hb2 1
  go_wp2_with fail
  refine (number_any c.count _ h2.1 h2.2).mono ?_
  rintro e w3 ⟨rfl, hh⟩
  have hb3 := box_step hb2 hh
  clear hh hb2 x1
  have E : Hid ([byt 1] ++ (numB c.site ++ numB c.count) = recClock c) := rfl
  generalize numB c.site = n1 at *
  generalize numB c.count = n2 at *
  go_wp2_with fail
  go_ret
  exact ⟨ret_str (by rw [← E.out]; simp), box_old hb3⟩

set_option maxRecDepth 100000 in
set_option maxHeartbeats 1000000 in
theorem edit_any (c : Ed) (w : World) (h1 : Num c.id) (ht : c.text.size ≤ 1000000) :
    Calls Tryz.prog 78 #[.agg #[.int .i64 c.id, .string c.text]] w fun e w' => e = .returned (.string (str (recEdit c))) ∧ Below w.heap.size w w' := by
  obtain ⟨t, htt⟩ : ∃ t, c.text = str t := ⟨c.text.data.toList, (str_data _).symm⟩
  rw [htt] at ht ⊢
  rw [str_size] at ht
  have E0 : Hid ([byt 3] ++ (numB c.id ++ t) = recEdit c) := by show _ = _; unfold recEdit; rw [htt]; rfl
  clear htt
  have hb0 : Below (w.heap.size + 1) (w.alloc (.cells #[.int .i64 c.id, .string (str t)] 41)) (w.alloc (.cells #[.int .i64 c.id, .string (str t)] 41)) := Below.refl _ _
  have l1 := numB_length c.id
  go_enter Tryz.func78, Tryz.ntmps78
  go_wp2_with fail
  refine (oneByte_any 3 _ (by decide) (by decide)).mono ?_
  rintro e w1 ⟨rfl, hh⟩
  have hb1 := box_step hb0 hh
  clear hh hb0
  have x0 : w1.cell? ⟨w.heap.size, 0, none⟩ = some (.int .i64 c.id) := boxN hb1 0
  go_wp2_with fail
  refine (number_any c.id _ h1.1 h1.2).mono ?_
  rintro e w2 ⟨rfl, hh⟩
  have hb2 := box_step hb1 hh
  clear hh hb1 x0
  have x1 : w2.cell? ⟨w.heap.size, 1, none⟩ = some (.string (str t)) := boxN hb2 1
  generalize numB c.id = n1 at *
  go_wp2_with fail
  go_ret
  exact ⟨ret_str (by rw [← E0.out]; simp), box_old hb2⟩

set_option maxRecDepth 100000 in
set_option maxHeartbeats 1000000 in
theorem card_any (c : Cd) (w : World) (h1 : Num c.id) (h2 : Num c.site) (h3 : Num c.count) (ht : c.text.size ≤ 1000000) :
    Calls Tryz.prog 77 #[.agg #[.int .i64 c.id, .int .i64 c.site, .int .i64 c.count, .bool c.gone, .string c.text]] w fun e w' => e = .returned (.string (str (recCard c))) ∧ Below w.heap.size w w' := by
  obtain ⟨t, htt⟩ : ∃ t, c.text = str t := ⟨c.text.data.toList, (str_data _).symm⟩
  rw [htt] at ht ⊢
  rw [str_size] at ht
  have E0 : Hid ([byt 2] ++ (numB c.id ++ (numB c.site ++ (numB c.count ++ ([if c.gone then 1 else 0] ++ t)))) = recCard c) := by show _ = _; unfold recCard; rw [htt]; rfl
  clear htt
  have hb0 : Below (w.heap.size + 1) (w.alloc (.cells #[.int .i64 c.id, .int .i64 c.site, .int .i64 c.count, .bool c.gone, .string (str t)] 39)) (w.alloc (.cells #[.int .i64 c.id, .int .i64 c.site, .int .i64 c.count, .bool c.gone, .string (str t)] 39)) := Below.refl _ _
  have l1 := numB_length c.id
  have l2 := numB_length c.site
  have l3 := numB_length c.count
  go_enter Tryz.func77, Tryz.ntmps77
  go_wp2_with fail
  refine (oneByte_any 2 _ (by decide) (by decide)).mono ?_
  rintro e w1 ⟨rfl, hh⟩
  have hb1 := box_step hb0 hh
  clear hh hb0
  have x0 : w1.cell? ⟨w.heap.size, 0, none⟩ = some (.int .i64 c.id) := boxN hb1 0
  go_wp2_with fail
  refine (number_any c.id _ h1.1 h1.2).mono ?_
  rintro e w2 ⟨rfl, hh⟩
  have hb2 := box_step hb1 hh
  clear hh hb1 x0
  have x0 : w2.cell? ⟨w.heap.size, 1, none⟩ = some (.int .i64 c.site) := boxN hb2 1
  go_wp2_with fail
  refine (number_any c.site _ h2.1 h2.2).mono ?_
  rintro e w3 ⟨rfl, hh⟩
  have hb3 := box_step hb2 hh
  clear hh hb2 x0
  have x0 : w3.cell? ⟨w.heap.size, 2, none⟩ = some (.int .i64 c.count) := boxN hb3 2
  go_wp2_with fail
  refine (number_any c.count _ h3.1 h3.2).mono ?_
  rintro e w4 ⟨rfl, hh⟩
  have hb4 := box_step hb3 hh
  clear hh hb3 x0
  have x0 : w4.cell? ⟨w.heap.size, 3, none⟩ = some (.bool c.gone) := boxN hb4 3
  go_wp2_with fail
  refine (goneByte_any c.gone _).mono ?_
  rintro e w5 ⟨rfl, hh⟩
  have hb5 := box_step hb4 hh
  clear hh hb4 x0
  have x0 : w5.cell? ⟨w.heap.size, 4, none⟩ = some (.string (str t)) := boxN hb5 4
  generalize numB c.id = n1 at *
  generalize numB c.site = n2 at *
  generalize numB c.count = n3 at *
  generalize (if c.gone = true then 1 else 0 : UInt8) = g at *
  go_wp2_with fail
  go_ret
  exact ⟨ret_str (by rw [← E0.out]; simp), box_old hb5⟩

set_option maxRecDepth 100000 in
set_option maxHeartbeats 1000000 in
theorem head_any (seq base : Int) (w : World) (h1 : Num seq) (h2 : 0 ≤ base) (h3 : base ≤ 4294967295) :
    Calls Tryz.prog 75 #[.int .i64 seq, .int .i64 base] w fun e w' => e = .returned (.string (str (recHead seq base))) ∧ Below w.heap.size w w' := by
  have l1 := numB_length seq
  by_cases hs : seq = 0
  · have hs2 : (seq == 0) = true := by simp [hs]
    have E : Hid ([byt 4] ++ numB seq = recHead seq base) := by show _ = _; unfold recHead; rw [if_pos hs]; simp; rfl
    clear hs
    go_enter Tryz.func75, Tryz.ntmps75
    go_wp2_with fail
    refine (oneByte_any 4 _ (by decide) (by decide)).mono ?_
    rintro e w1 ⟨rfl, hb1⟩
    go_wp2_with fail
    refine (number_any seq _ h1.1 h1.2).mono ?_
    rintro e w2 ⟨rfl, hb2⟩
    generalize numB seq = n1 at *
    go_wp2_with fail
    go_ret
    exact ⟨ret_str (by rw [← E.out]; simp), hb1.trans (hb2.mono hb1.size)⟩
  · have hs2 : (seq == 0) = false := by simp [hs]
    have E : Hid ([byt 4] ++ (numB seq ++ fourI base) = recHead seq base) := by show _ = _; unfold recHead; rw [if_neg hs]; rfl
    have l4 : (fourI base).length = 4 := rfl
    have L4 : (fourI base).length ≤ 4 := by omega
    clear hs l4
    go_enter Tryz.func75, Tryz.ntmps75
    go_wp2_with fail
    refine (oneByte_any 4 _ (by decide) (by decide)).mono ?_
    rintro e w1 ⟨rfl, hb1⟩
    go_wp2_with fail
    refine (number_any seq _ h1.1 h1.2).mono ?_
    rintro e w2 ⟨rfl, hb2⟩
    go_wp2_with fail
    refine (fourBytes_any base _ h2 h3).mono ?_
    rintro e w3 ⟨rfl, hb3⟩
    generalize numB seq = n1 at *
    generalize fourI base = n2 at *
    go_wp2_with fail
    go_ret
    exact ⟨ret_str (by rw [← E.out]; simp), hb1.trans ((hb2.mono hb1.size).trans (hb3.mono (Nat.le_trans hb1.size hb2.size)))⟩
end Go.Proofs.YtdjpkgaicmklmaaGreat

/- A link's records in their order: the program's recordsOf, walked. -/
namespace Go.Proofs.YtdjpkgaicmklmaaGreat
open Go.RowKit

/-- A record, as plain data. -/
structure Fd where
  at_ : Int
  kind : Int
  seq : Int
  base : Int
  id : Int
  site : Int
  count : Int
  gone : Bool
  text : ByteArray

abbrev Fd.cells (f : Fd) : List Value := [.int .i64 f.at_, .int .i64 f.kind, .int .i64 f.seq, .int .i64 f.base, .int .i64 f.id, .int .i64 f.site, .int .i64 f.count, .bool f.gone, .string f.text]
def fdHead (seq base : Int) : Fd := ⟨0, 4, seq, base, 0, 0, 0, false, ⟨#[]⟩⟩
def fdClock (c : Ck) : Fd := ⟨0, 1, 0, 0, 0, c.site, c.count, false, ⟨#[]⟩⟩
def fdCard (c : Cd) : Fd := ⟨0, 2, 0, 0, c.id, c.site, c.count, c.gone, c.text⟩
def fdEdit (c : Ed) : Fd := ⟨0, 3, 0, 0, c.id, 0, 0, false, c.text⟩
/-- A record's bytes. -/
def recF (f : Fd) : List UInt8 :=
  if f.kind = 4 then recHead f.seq f.base else if f.kind = 1 then recClock ⟨f.site, f.count⟩ else if f.kind = 2 then recCard ⟨f.id, f.site, f.count, f.gone, f.text⟩ else recEdit ⟨f.id, f.text⟩
theorem recF_head (s b : Int) : recF (fdHead s b) = recHead s b := rfl
theorem recF_clock (c : Ck) : recF (fdClock c) = recClock c := rfl
theorem recF_card (c : Cd) : recF (fdCard c) = recCard c := rfl
theorem recF_edit (c : Ed) : recF (fdEdit c) = recEdit c := rfl

/-- The first k clocks' records, .. -/
def recs1 (s b : Int) (R : Rep) (k : Nat) : List Fd := fdHead s b :: (List.range k).map (fun i => fdClock (R.c i))
def recs2 (s b : Int) (R : Rep) (k : Nat) : List Fd := recs1 s b R R.n1 ++ (List.range k).map (fun i => fdCard (R.d i))
def recs3 (s b : Int) (R : Rep) (k : Nat) : List Fd := recs2 s b R R.n2 ++ (List.range k).map (fun i => fdEdit (R.e i))
/-- All records of a link. -/
def recsOf (s b : Int) (R : Rep) : List Fd := recs3 s b R R.n3

theorem recs1_succ (s b : Int) (R : Rep) (k : Nat) : recs1 s b R (k + 1) = recs1 s b R k ++ [fdClock (R.c k)] := by simp [recs1, List.range_succ]
theorem recs2_zero (s b : Int) (R : Rep) : recs2 s b R 0 = recs1 s b R R.n1 := by simp [recs2]
theorem recs2_succ (s b : Int) (R : Rep) (k : Nat) : recs2 s b R (k + 1) = recs2 s b R k ++ [fdCard (R.d k)] := by simp [recs2, List.range_succ]
theorem recs3_zero (s b : Int) (R : Rep) : recs3 s b R 0 = recs2 s b R R.n2 := by simp [recs3]
theorem recs3_succ (s b : Int) (R : Rep) (k : Nat) : recs3 s b R (k + 1) = recs3 s b R k ++ [fdEdit (R.e k)] := by simp [recs3, List.range_succ]
theorem recsOf_length (s b : Int) (R : Rep) : (recsOf s b R).length = 1 + R.n1 + R.n2 + R.n3 := by simp [recsOf, recs3, recs2, recs1]; omega

/-- Few records, and numbers and texts that may be written. -/
structure Fit (R : Rep) : Prop where
  n1 : R.n1 ≤ 1000000
  n2 : R.n2 ≤ 1000000
  n3 : R.n3 ≤ 1000000
  c1 : ∀ i, i < R.n1 → Num (R.c i).site ∧ Num (R.c i).count
  d1 : ∀ i, i < R.n2 → Num (R.d i).id ∧ Num (R.d i).site ∧ Num (R.d i).count ∧ (R.d i).text.size ≤ 60
  e1 : ∀ i, i < R.n3 → Num (R.e i).id ∧ (R.e i).text.size ≤ 60

abbrev lnkA (s b : Int) (R : Rep) (a1 a2 a3 : Option Addr) (k1 k2 k3 : Nat) : Array Value := #[.int .i64 s, .int .i64 b, .slice a1 R.n1 k1, .slice a2 R.n2 k2, .slice a3 R.n3 k3]
abbrev BoxL (w : World) (s b : Int) (R : Rep) (a1 a2 a3 : Option Addr) (k1 k2 k3 : Nat) (wr : World) : Prop := Below (w.heap.size + 1) (w.alloc (.cells (lnkA s b R a1 a2 a3 k1 k2 k3) 46)) wr
theorem BoxL.cells {w : World} {s b : Int} {R : Rep} {a1 a2 a3 : Option Addr} {k1 k2 k3 : Nat} {wr : World} (hb : BoxL w s b R a1 a2 a3 k1 k2 k3 wr) :
    wr.cell? ⟨w.heap.size, 0, none⟩ = some (.int .i64 s) ∧ wr.cell? ⟨w.heap.size, 1, none⟩ = some (.int .i64 b) ∧ wr.cell? ⟨w.heap.size, 2, none⟩ = some (.slice a1 R.n1 k1) ∧ wr.cell? ⟨w.heap.size, 3, none⟩ = some (.slice a2 R.n2 k2) ∧ wr.cell? ⟨w.heap.size, 4, none⟩ = some (.slice a3 R.n3 k3) :=
  ⟨boxN hb 0, boxN hb 1, boxN hb 2, boxN hb 3, boxN hb 4⟩

set_option maxRecDepth 100000 in
set_option maxHeartbeats 4000000 in
theorem recordsOf_any (s b : Int) (R : Rep) (a1 a2 a3 : Option Addr) (k1 k2 k3 : Nat) (w : World) (hR : Has w R a1 a2 a3) (hF : Fit R) (hs : Num s) (hb1 : 0 ≤ b) (hb2 : b ≤ 4294967295) :
    Calls Tryz.prog 55 #[.agg (lnkA s b R a1 a2 a3 k1 k2 k3)] w fun e w' => ∃ ad cap N, e = .returned (.slice ad N cap) ∧ N = (recsOf s b R).length ∧ Vec w' w.heap.size 9 1 ad N cap ((recsOf s b R).map fun f => Value.string (str (recF f))) ∧ Below w.heap.size w w' := by
  have m1 := hF.n1; have m2 := hF.n2; have m3 := hF.n3
  have h0 : BoxL w s b R a1 a2 a3 k1 k2 k3 (w.alloc (.cells (lnkA s b R a1 a2 a3 k1 k2 k3) 46)) := Below.refl _ _
  go_enter Tryz.func55, Tryz.ntmps55
  go_wp2_with fail
  refine (head_any s b _ hs hb1 hb2).mono ?_
  rintro e w1 ⟨rfl, hh⟩
  have h1 : BoxL w s b R a1 a2 a3 k1 k2 k3 w1 := box_step h0 hh
  clear hh h0
  have z1 : w.heap.size + 1 ≤ w1.heap.size := by have := h1.size; simpa using this
  go_wp2_with fail
  go_loopw [4, 5, 6] (fun v u _ wr => ∃ (k : Nat) (ad : Option Addr) (cap N : Nat), k ≤ R.n1 ∧ u = .int .i64 k ∧ v = .slice ad N cap ∧ N = 1 + k ∧ Vec wr (w.heap.size + 1) 9 1 ad N cap ((recs1 s b R k).map fun f => Value.string (str (recF f))) ∧ BoxL w s b R a1 a2 a3 k1 k2 k3 wr) (fun _ u _ _ => R.n1 - (intOf u).toNat)
  case atStart => exact ⟨0, _, _, 1, Nat.zero_le _, rfl, rfl, rfl, Vec.lit w1 _ _ _ 1 [.string (str (recHead s b))] z1 (by omega) rfl, h1.alloc z1 _⟩
  case round =>
    clear h1 z1
    obtain ⟨k, ad, cap, N, hk, rfl, rfl, hN, hv, hb⟩ := hrel
    have HN : Hid (N = 1 + k) := hN
    have hNb : N ≤ 1000001 := by omega
    clear hN
    obtain ⟨x0, x1, x2, x3, x4⟩ := hb.cells
    by_cases hlt : k < R.n1
    · obtain ⟨bb, o, hbl, hix, cs, cc⟩ := (hR.below (box_old hb)).l1.clock k1 hlt
      obtain ⟨f1, f2⟩ := hF.c1 k hlt
      go_wp2_with fail
      refine (clock_any (R.c k) _ f1 f2).mono ?_
      rintro e w1 ⟨rfl, hh⟩
      have h1 : BoxL w s b R a1 a2 a3 k1 k2 k3 w1 := box_step hb hh
      have hv1 := hv.keep hh
      clear hh hv hb x0 x1 x2 x3 x4
      have z1 : w.heap.size + 1 ≤ w1.heap.size := by have := h1.size; simpa using this
      go_wp2_with (at_builtin; refine wpList_push (by rfl) _ _ 22 (by rfl) (w.heap.size + 1) 9 1 16 (.string ⟨#[]⟩) Tryz.underlying22 (by kernel_rfl) rfl (by decide) ad N cap _ (by rfl) (hv1.keep ((Below.refl _ _).alloc (Nat.le_refl _) _)) _ _ [.string (str (recClock (R.c k)))] (by rfl) rfl ?_ ?_ ?_ ?_ ?_ ?_; exact new_cells _ _ _; (simp [Value.oneCell']); (omega); (omega); (simp; omega); intro ad' cap' w' hv' hb' hs')
      have h2 : BoxL w s b R a1 a2 a3 k1 k2 k3 w' := (h1.alloc z1 _).trans hb'
      have hv2 : Vec w' (w.heap.size + 1) 9 1 ad' (N + 1) cap' ((recs1 s b R (k + 1)).map fun f => Value.string (str (recF f))) := by
        rw [recs1_succ, List.map_append]; exact hv'
      go_roundw
      case rel => exact ⟨k + 1, ad', cap', N + 1, by omega, by go_num, rfl, by have := HN.out; omega, hv2, h2⟩
      case measure => simp [intOf]; omega
    · have e1 : k = R.n1 := by omega
      have hv0 : Vec wr (w.heap.size + 1) 9 1 ad N cap ((recs2 s b R 0).map fun f => Value.string (str (recF f))) := by
        rw [recs2_zero, ← e1]; exact hv
      have N1 : Hid (N = 1 + R.n1) := by have := HN.out; show _ = _; omega
      clear e1 hv HN hk
      go_wp2_with fail
      go_loopw [4, 7, 8] (fun v u _ wr => ∃ (k : Nat) (ad : Option Addr) (cap N : Nat), k ≤ R.n2 ∧ u = .int .i64 k ∧ v = .slice ad N cap ∧ N = 1 + R.n1 + k ∧ Vec wr (w.heap.size + 1) 9 1 ad N cap ((recs2 s b R k).map fun f => Value.string (str (recF f))) ∧ BoxL w s b R a1 a2 a3 k1 k2 k3 wr) (fun _ u _ _ => R.n2 - (intOf u).toNat)
      case atStart => exact ⟨0, _, _, N, Nat.zero_le _, rfl, rfl, N1.out, hv0, hb⟩
      case round =>
        clear hv0 hb x0 x1 x2 x3 x4 N1 hNb hlt
        obtain ⟨k, ad, cap, N, hk, rfl, rfl, hN, hv, hb⟩ := hrel
        have HN : Hid (N = 1 + R.n1 + k) := hN
        have hNb : N ≤ 2000001 := by omega
        clear hN
        obtain ⟨x0, x1, x2, x3, x4⟩ := hb.cells
        by_cases hlt : k < R.n2
        · obtain ⟨bb, o, hbl, hix, c1, c2, c3, c4, c5⟩ := (hR.below (box_old hb)).l2.card k2 hlt
          obtain ⟨f1, f2, f3, f4⟩ := hF.d1 k hlt
          go_wp2_with fail
          refine (card_any (R.d k) _ f1 f2 f3 (by omega)).mono ?_
          rintro e w1 ⟨rfl, hh⟩
          have h1 : BoxL w s b R a1 a2 a3 k1 k2 k3 w1 := box_step hb hh
          have hv1 := hv.keep hh
          clear hh hv hb x0 x1 x2 x3 x4
          have z1 : w.heap.size + 1 ≤ w1.heap.size := by have := h1.size; simpa using this
          go_wp2_with (at_builtin; refine wpList_push (by rfl) _ _ 22 (by rfl) (w.heap.size + 1) 9 1 16 (.string ⟨#[]⟩) Tryz.underlying22 (by kernel_rfl) rfl (by decide) ad N cap _ (by rfl) (hv1.keep ((Below.refl _ _).alloc (Nat.le_refl _) _)) _ _ [.string (str (recCard (R.d k)))] (by rfl) rfl ?_ ?_ ?_ ?_ ?_ ?_; exact new_cells _ _ _; (simp [Value.oneCell']); (omega); (omega); (simp; omega); intro ad' cap' w' hv' hb' hs')
          have h2 : BoxL w s b R a1 a2 a3 k1 k2 k3 w' := (h1.alloc z1 _).trans hb'
          have hv2 : Vec w' (w.heap.size + 1) 9 1 ad' (N + 1) cap' ((recs2 s b R (k + 1)).map fun f => Value.string (str (recF f))) := by
            rw [recs2_succ, List.map_append]; exact hv'
          go_roundw
          case rel => exact ⟨k + 1, ad', cap', N + 1, by omega, by go_num, rfl, by have := HN.out; omega, hv2, h2⟩
          case measure => simp [intOf]; omega
        · have e1 : k = R.n2 := by omega
          have hv0 : Vec wr (w.heap.size + 1) 9 1 ad N cap ((recs3 s b R 0).map fun f => Value.string (str (recF f))) := by
            rw [recs3_zero, ← e1]; exact hv
          have N1 : Hid (N = 1 + R.n1 + R.n2) := by have := HN.out; show _ = _; omega
          clear e1 hv HN hk
          go_wp2_with fail
          go_loopw [4, 9, 10] (fun v u _ wr => ∃ (k : Nat) (ad : Option Addr) (cap N : Nat), k ≤ R.n3 ∧ u = .int .i64 k ∧ v = .slice ad N cap ∧ N = 1 + R.n1 + R.n2 + k ∧ Vec wr (w.heap.size + 1) 9 1 ad N cap ((recs3 s b R k).map fun f => Value.string (str (recF f))) ∧ BoxL w s b R a1 a2 a3 k1 k2 k3 wr) (fun _ u _ _ => R.n3 - (intOf u).toNat)
          case atStart => exact ⟨0, _, _, N, Nat.zero_le _, rfl, rfl, N1.out, hv0, hb⟩
          case round =>
            clear hv0 hb x0 x1 x2 x3 x4 N1 hNb hlt
            obtain ⟨k, ad, cap, N, hk, rfl, rfl, hN, hv, hb⟩ := hrel
            have HN : Hid (N = 1 + R.n1 + R.n2 + k) := hN
            have hNb : N ≤ 3000001 := by omega
            clear hN
            obtain ⟨x0, x1, x2, x3, x4⟩ := hb.cells
            by_cases hlt : k < R.n3
            · obtain ⟨bb, o, hbl, hix, c1, c2⟩ := (hR.below (box_old hb)).l3.edit k3 hlt
              obtain ⟨f1, f4⟩ := hF.e1 k hlt
              go_wp2_with fail
              refine (edit_any (R.e k) _ f1 (by omega)).mono ?_
              rintro e w1 ⟨rfl, hh⟩
              have h1 : BoxL w s b R a1 a2 a3 k1 k2 k3 w1 := box_step hb hh
              have hv1 := hv.keep hh
              clear hh hv hb x0 x1 x2 x3 x4
              have z1 : w.heap.size + 1 ≤ w1.heap.size := by have := h1.size; simpa using this
              go_wp2_with (at_builtin; refine wpList_push (by rfl) _ _ 22 (by rfl) (w.heap.size + 1) 9 1 16 (.string ⟨#[]⟩) Tryz.underlying22 (by kernel_rfl) rfl (by decide) ad N cap _ (by rfl) (hv1.keep ((Below.refl _ _).alloc (Nat.le_refl _) _)) _ _ [.string (str (recEdit (R.e k)))] (by rfl) rfl ?_ ?_ ?_ ?_ ?_ ?_; exact new_cells _ _ _; (simp [Value.oneCell']); (omega); (omega); (simp; omega); intro ad' cap' w' hv' hb' hs')
              have h2 : BoxL w s b R a1 a2 a3 k1 k2 k3 w' := (h1.alloc z1 _).trans hb'
              have hv2 : Vec w' (w.heap.size + 1) 9 1 ad' (N + 1) cap' ((recs3 s b R (k + 1)).map fun f => Value.string (str (recF f))) := by
                rw [recs3_succ, List.map_append]; exact hv'
              go_roundw
              case rel => exact ⟨k + 1, ad', cap', N + 1, by omega, by go_num, rfl, by have := HN.out; omega, hv2, h2⟩
              case measure => simp [intOf]; omega
            · have e1 : k = R.n3 := by omega
              have hv0 : Vec wr (w.heap.size + 1) 9 1 ad N cap ((recsOf s b R).map fun f => Value.string (str (recF f))) := by
                unfold recsOf; rw [← e1]; exact hv
              have N1 : Hid (N = (recsOf s b R).length) := by have := HN.out; show _ = _; rw [recsOf_length]; omega
              clear e1 hv HN hk
              go_wp2_with fail
              go_ret
              exact ⟨ad, cap, N, rfl, N1.out, hv0.mono (by omega), box_old hb⟩
end Go.Proofs.YtdjpkgaicmklmaaGreat

/- A link's records in their order: the reference's records, walked. -/
namespace Go.Proofs.YtdjpkgaicmklmaaGreat
open Go.RowKit

def fcells (l : List Fd) : List Value := (l.map Fd.cells).flatten
theorem fcells_append (a b : List Fd) : fcells (a ++ b) = fcells a ++ fcells b := by simp [fcells]
theorem fcells_one (f : Fd) : fcells [f] = f.cells := by simp [fcells]

theorem new_cells2 (w : World) (o : Obj) (cs : List Value) (t : TypeId) : ∀ j u, cs[j]? = some u → ((w.alloc o).alloc (.cells cs.toArray t)).cell? ((⟨w.heap.size + 1, 0, none⟩ : Addr).add j) = some u := by
  intro j u h
  have := new_cells (w.alloc o) cs t j u h
  rwa [World.size_alloc] at this

set_option maxRecDepth 100000 in
set_option maxHeartbeats 4000000 in
theorem records_any (s b : Int) (R : Rep) (a1 a2 a3 : Option Addr) (k1 k2 k3 : Nat) (w : World) (hR : Has w R a1 a2 a3) (hF : Fit R) :
    Calls Tryz.prog 37 #[.agg (lnkA s b R a1 a2 a3 k1 k2 k3)] w fun e w' => ∃ ad cap N, e = .returned (.slice ad N cap) ∧ N = (recsOf s b R).length ∧ Vec w' w.heap.size 64 9 ad N cap (fcells (recsOf s b R)) ∧ Below w.heap.size w w' := by
  have m1 := hF.n1; have m2 := hF.n2; have m3 := hF.n3
  have h0 : BoxL w s b R a1 a2 a3 k1 k2 k3 (w.alloc (.cells (lnkA s b R a1 a2 a3 k1 k2 k3) 46)) := Below.refl _ _
  have z0 : w.heap.size + 1 ≤ (w.alloc (.cells (lnkA s b R a1 a2 a3 k1 k2 k3) 46)).heap.size := by simp
  have hv0 : Vec ((w.alloc (.cells (lnkA s b R a1 a2 a3 k1 k2 k3) 46)).alloc (.cells (fdHead s b).cells.toArray 64)) (w.heap.size + 1) 64 9 (some ⟨w.heap.size + 1, 0, none⟩) 1 1 (fcells (recs1 s b R 0)) := by
    have := Vec.lit (w.alloc (.cells (lnkA s b R a1 a2 a3 k1 k2 k3) 46)) (w.heap.size + 1) 64 9 1 (fdHead s b).cells z0 (by omega) rfl
    rw [World.size_alloc] at this
    simpa [recs1, fcells] using this
  have h1 := h0.alloc z0 (.cells (fdHead s b).cells.toArray 64)
  have HV : Hid (Vec ((w.alloc (.cells (lnkA s b R a1 a2 a3 k1 k2 k3) 46)).alloc (.cells (fdHead s b).cells.toArray 64)) (w.heap.size + 1) 64 9 (some ⟨w.heap.size + 1, 0, none⟩) 1 1 (fcells (recs1 s b R 0))) := hv0
  have HB : Hid (BoxL w s b R a1 a2 a3 k1 k2 k3 ((w.alloc (.cells (lnkA s b R a1 a2 a3 k1 k2 k3) 46)).alloc (.cells (fdHead s b).cells.toArray 64))) := h1
  clear hv0 h0 h1 z0
  go_enter Tryz.func37, Tryz.ntmps37
  go_wp2_with fail
  go_loopw [3, 4, 5] (fun v u _ wr => ∃ (k : Nat) (ad : Option Addr) (cap N : Nat), k ≤ R.n1 ∧ u = .int .i64 k ∧ v = .slice ad N cap ∧ N = 1 + k ∧ Vec wr (w.heap.size + 1) 64 9 ad N cap (fcells (recs1 s b R k)) ∧ BoxL w s b R a1 a2 a3 k1 k2 k3 wr) (fun _ u _ _ => R.n1 - (intOf u).toNat)
  case atStart => exact ⟨0, _, _, 1, Nat.zero_le _, rfl, rfl, rfl, HV.out, HB.out⟩
  case round =>
    clear HV HB
    obtain ⟨k, ad, cap, N, hk, rfl, rfl, hN, hv, hb⟩ := hrel
    have HN : Hid (N = 1 + k) := hN
    have hNb : N ≤ 3000001 := by omega
    clear hN
    obtain ⟨x0, x1, x2, x3, x4⟩ := hb.cells
    have z1 : w.heap.size + 1 ≤ wr.heap.size := by have := hb.size; simpa using this
    by_cases hlt : k < R.n1
    · obtain ⟨bb, o, hbl, hix, cs, cc⟩ := (hR.below (box_old hb)).l1.clock k1 hlt
      have hvx : ∀ o1 o2, Vec ((wr.alloc o1).alloc o2) (w.heap.size + 1) 64 9 ad N cap (fcells (recs1 s b R k)) := fun o1 o2 => hv.keep (((Below.refl _ wr).alloc (Nat.le_refl _) _).alloc (by simp) _)
      have HX : Hid (∀ o1 o2, Vec ((wr.alloc o1).alloc o2) (w.heap.size + 1) 64 9 ad N cap (fcells (recs1 s b R k))) := hvx
      clear hvx
      go_wp2_with (at_builtin; refine wpList_push (by rfl) _ _ 62 (by rfl) (w.heap.size + 1) 64 9 80 (.agg #[.int .i64 0, .int .i64 0, .int .i64 0, .int .i64 0, .int .i64 0, .int .i64 0, .int .i64 0, .bool false, .string ⟨#[]⟩]) Tryz.underlying62 (by kernel_rfl) rfl (by decide) ad N cap _ (by rfl) (HX.out _ _) _ _ (fdClock (R.c k)).cells (by rfl) rfl ?_ ?_ ?_ ?_ ?_ ?_; exact new_cells2 _ _ _ _; (simp [Value.oneCell', fdClock]); (omega); (omega); (simp; omega); intro ad' cap' w' hv' hb' hs')
      have h2 : BoxL w s b R a1 a2 a3 k1 k2 k3 w' := ((hb.alloc z1 _).alloc (by simp; omega) _).trans hb'
      have hv2 : Vec w' (w.heap.size + 1) 64 9 ad' (N + 1) cap' (fcells (recs1 s b R (k + 1))) := by
        rw [recs1_succ, fcells_append, fcells_one]; exact hv'
      go_roundw
      case rel => exact ⟨k + 1, ad', cap', N + 1, by omega, by go_num, rfl, by have := HN.out; omega, hv2, h2⟩
      case measure => simp [intOf]; omega
    · have e1 : k = R.n1 := by omega
      have hv0 : Vec wr (w.heap.size + 1) 64 9 ad N cap (fcells (recs2 s b R 0)) := by
        rw [recs2_zero, ← e1]; exact hv
      have N1 : Hid (N = 1 + R.n1) := by have := HN.out; show _ = _; omega
      clear e1 hv HN hk z1
      go_wp2_with fail
      go_loopw [3, 6, 7] (fun v u _ wr => ∃ (k : Nat) (ad : Option Addr) (cap N : Nat), k ≤ R.n2 ∧ u = .int .i64 k ∧ v = .slice ad N cap ∧ N = 1 + R.n1 + k ∧ Vec wr (w.heap.size + 1) 64 9 ad N cap (fcells (recs2 s b R k)) ∧ BoxL w s b R a1 a2 a3 k1 k2 k3 wr) (fun _ u _ _ => R.n2 - (intOf u).toNat)
      case atStart => exact ⟨0, _, _, N, Nat.zero_le _, rfl, rfl, N1.out, hv0, hb⟩
      case round =>
        clear hv0 hb x0 x1 x2 x3 x4 N1 hNb hlt
        obtain ⟨k, ad, cap, N, hk, rfl, rfl, hN, hv, hb⟩ := hrel
        have HN : Hid (N = 1 + R.n1 + k) := hN
        have hNb : N ≤ 3000001 := by omega
        clear hN
        obtain ⟨x0, x1, x2, x3, x4⟩ := hb.cells
        have z1 : w.heap.size + 1 ≤ wr.heap.size := by have := hb.size; simpa using this
        by_cases hlt : k < R.n2
        · obtain ⟨bb, o, hbl, hix, c1, c2, c3, c4, c5⟩ := (hR.below (box_old hb)).l2.card k2 hlt
          have hvx : ∀ o1 o2, Vec ((wr.alloc o1).alloc o2) (w.heap.size + 1) 64 9 ad N cap (fcells (recs2 s b R k)) := fun o1 o2 => hv.keep (((Below.refl _ wr).alloc (Nat.le_refl _) _).alloc (by simp) _)
          have HX : Hid (∀ o1 o2, Vec ((wr.alloc o1).alloc o2) (w.heap.size + 1) 64 9 ad N cap (fcells (recs2 s b R k))) := hvx
          clear hvx
          go_wp2_with (at_builtin; refine wpList_push (by rfl) _ _ 62 (by rfl) (w.heap.size + 1) 64 9 80 (.agg #[.int .i64 0, .int .i64 0, .int .i64 0, .int .i64 0, .int .i64 0, .int .i64 0, .int .i64 0, .bool false, .string ⟨#[]⟩]) Tryz.underlying62 (by kernel_rfl) rfl (by decide) ad N cap _ (by rfl) (HX.out _ _) _ _ (fdCard (R.d k)).cells (by rfl) rfl ?_ ?_ ?_ ?_ ?_ ?_; exact new_cells2 _ _ _ _; (simp [Value.oneCell', fdCard]); (omega); (omega); (simp; omega); intro ad' cap' w' hv' hb' hs')
          have h2 : BoxL w s b R a1 a2 a3 k1 k2 k3 w' := ((hb.alloc z1 _).alloc (by simp; omega) _).trans hb'
          have hv2 : Vec w' (w.heap.size + 1) 64 9 ad' (N + 1) cap' (fcells (recs2 s b R (k + 1))) := by
            rw [recs2_succ, fcells_append, fcells_one]; exact hv'
          go_roundw
          case rel => exact ⟨k + 1, ad', cap', N + 1, by omega, by go_num, rfl, by have := HN.out; omega, hv2, h2⟩
          case measure => simp [intOf]; omega
        · have e1 : k = R.n2 := by omega
          have hv0 : Vec wr (w.heap.size + 1) 64 9 ad N cap (fcells (recs3 s b R 0)) := by
            rw [recs3_zero, ← e1]; exact hv
          have N1 : Hid (N = 1 + R.n1 + R.n2) := by have := HN.out; show _ = _; omega
          clear e1 hv HN hk z1
          go_wp2_with fail
          go_loopw [3, 8, 9] (fun v u _ wr => ∃ (k : Nat) (ad : Option Addr) (cap N : Nat), k ≤ R.n3 ∧ u = .int .i64 k ∧ v = .slice ad N cap ∧ N = 1 + R.n1 + R.n2 + k ∧ Vec wr (w.heap.size + 1) 64 9 ad N cap (fcells (recs3 s b R k)) ∧ BoxL w s b R a1 a2 a3 k1 k2 k3 wr) (fun _ u _ _ => R.n3 - (intOf u).toNat)
          case atStart => exact ⟨0, _, _, N, Nat.zero_le _, rfl, rfl, N1.out, hv0, hb⟩
          case round =>
            clear hv0 hb x0 x1 x2 x3 x4 N1 hNb hlt
            obtain ⟨k, ad, cap, N, hk, rfl, rfl, hN, hv, hb⟩ := hrel
            have HN : Hid (N = 1 + R.n1 + R.n2 + k) := hN
            have hNb : N ≤ 3000001 := by omega
            clear hN
            obtain ⟨x0, x1, x2, x3, x4⟩ := hb.cells
            have z1 : w.heap.size + 1 ≤ wr.heap.size := by have := hb.size; simpa using this
            by_cases hlt : k < R.n3
            · obtain ⟨bb, o, hbl, hix, c1, c2⟩ := (hR.below (box_old hb)).l3.edit k3 hlt
              have hvx : ∀ o1 o2, Vec ((wr.alloc o1).alloc o2) (w.heap.size + 1) 64 9 ad N cap (fcells (recs3 s b R k)) := fun o1 o2 => hv.keep (((Below.refl _ wr).alloc (Nat.le_refl _) _).alloc (by simp) _)
              have HX : Hid (∀ o1 o2, Vec ((wr.alloc o1).alloc o2) (w.heap.size + 1) 64 9 ad N cap (fcells (recs3 s b R k))) := hvx
              clear hvx
              go_wp2_with (at_builtin; refine wpList_push (by rfl) _ _ 62 (by rfl) (w.heap.size + 1) 64 9 80 (.agg #[.int .i64 0, .int .i64 0, .int .i64 0, .int .i64 0, .int .i64 0, .int .i64 0, .int .i64 0, .bool false, .string ⟨#[]⟩]) Tryz.underlying62 (by kernel_rfl) rfl (by decide) ad N cap _ (by rfl) (HX.out _ _) _ _ (fdEdit (R.e k)).cells (by rfl) rfl ?_ ?_ ?_ ?_ ?_ ?_; exact new_cells2 _ _ _ _; (simp [Value.oneCell', fdEdit]); (omega); (omega); (simp; omega); intro ad' cap' w' hv' hb' hs')
              have h2 : BoxL w s b R a1 a2 a3 k1 k2 k3 w' := ((hb.alloc z1 _).alloc (by simp; omega) _).trans hb'
              have hv2 : Vec w' (w.heap.size + 1) 64 9 ad' (N + 1) cap' (fcells (recs3 s b R (k + 1))) := by
                rw [recs3_succ, fcells_append, fcells_one]; exact hv'
              go_roundw
              case rel => exact ⟨k + 1, ad', cap', N + 1, by omega, by go_num, rfl, by have := HN.out; omega, hv2, h2⟩
              case measure => simp [intOf]; omega
            · have e1 : k = R.n3 := by omega
              have hv0 : Vec wr (w.heap.size + 1) 64 9 ad N cap (fcells (recsOf s b R)) := by
                unfold recsOf; rw [← e1]; exact hv
              have N1 : Hid (N = (recsOf s b R).length) := by have := HN.out; show _ = _; rw [recsOf_length]; omega
              clear e1 hv HN hk z1
              go_wp2_with fail
              go_ret
              exact ⟨ad, cap, N, rfl, N1.out, hv0.mono (by omega), box_old hb⟩
end Go.Proofs.YtdjpkgaicmklmaaGreat

/- The reference's bits of bytes, walked. -/
namespace Go.Proofs.YtdjpkgaicmklmaaGreat
open Go.RowKit

set_option maxRecDepth 100000 in
set_option maxHeartbeats 2000000 in
theorem bits_any (s : List UInt8) (w : World) (hs : s.length ≤ 8796093022208) :
    Calls Tryz.prog 82 #[.string (str s)] w fun e w' => ∃ ad cap, e = .returned (.slice ad (8 * s.length) cap) ∧ Vec w' w.heap.size 4 1 ad (8 * s.length) cap ((allBits s).map Value.bool) ∧ Below w.heap.size w w' := by
  have hz := str_size s
  have HZ : Hid ((str s).size = s.length) := hz
  clear hz
  have hs2 : (str s).size ≤ 8796093022208 := by rw [HZ.out]; exact hs
  go_enter Tryz.func82, Tryz.ntmps82
  go_wp2
  go_loopw [3, 4, 5] (fun v u _ wr => ∃ (i : Nat) (ad : Option Addr) (cap N : Nat), i ≤ (str s).size ∧ u = .int .i64 i ∧ v = .slice ad N cap ∧ N = 8 * i ∧ Vec wr w.heap.size 4 1 ad N cap ((allBits (s.take i)).map Value.bool) ∧ Below w.heap.size w wr) (fun _ u _ _ => (str s).size - (intOf u).toNat)
  case atStart => exact ⟨0, none, 0, 0, Nat.zero_le _, rfl, rfl, rfl, Vec.nil _ _ _ _, Below.refl _ _⟩
  case round =>
    obtain ⟨i, ad, cap, N, hi, rfl, rfl, hN, hv, hb⟩ := hrel
    have HN : Hid (N = 8 * i) := hN
    clear hN
    by_cases hlt : i < (str s).size
    · have hlt2 : i < s.length := by rw [← HZ.out]; exact hlt
      have hd1 : decide ((i : Int) < ((str s).size : Int)) = true := by simp; omega
      go_wp2
      go_loopw [3, 5] (fun v u wr => ∃ (j : Nat) (ad : Option Addr) (cap M : Nat), j ≤ 8 ∧ u = .int .i64 (7 - (j : Int)) ∧ v = .slice ad M cap ∧ M = N + j ∧ Vec wr w.heap.size 4 1 ad M cap ((allBits (s.take i) ++ (bitsOf s[i]).take j).map Value.bool) ∧ Below w.heap.size w wr) (fun _ u _ => (intOf u + 1).toNat)
      case atStart => exact ⟨0, ad, cap, N, Nat.zero_le _, rfl, rfl, rfl, by simpa using hv, hb⟩
      case round =>
        clear hv hb
        obtain ⟨j, ad, cap, M, hj, rfl, rfl, hM, hv, hb⟩ := hrel
        have HM : Hid (M = N + j) := hM
        have hMb : M ≤ 70368744177664 + 8 := by have := HN.out; omega
        clear hM
        by_cases hjt : j < 8
        · have hz := hb.size
          have ew : wrap64 (((str s)[i]'hlt).toNat : Int) = ((s[i].toNat : Nat) : Int) := by
            have h8 := (s[i]).toNat_lt
            have e0 : ((str s)[i]'hlt).toNat = s[i].toNat := rfl
            rw [e0]; unfold wrap64; omega
          have h8 := (s[i]).toNat_lt
          have eb : (bits BinOp.and IntKind.i64 (wrap64 (((str s)[i]'hlt).toNat : Int) / 2 ^ (7 - j)) 1 == 1) = s[i].toNat.testBit (7 - j) := by
            rw [ew, bit_test _ _ (by omega)]
          have EB : Hid ((bits BinOp.and IntKind.i64 (wrap64 (((str s)[i]'hlt).toNat : Int) / 2 ^ (7 - j)) 1 == 1) = s[i].toNat.testBit (7 - j)) := eb
          clear eb ew h8
          go_wp2_with (at_builtin; rw [EB.out]; refine wpList_push (by rfl) _ _ 101 (by rfl) w.heap.size 4 1 1 (.bool false) Tryz.underlying101 (by kernel_rfl) rfl (by decide) ad M cap _ (by rfl) (hv.keep ((Below.refl _ _).alloc (Nat.le_refl _) _)) _ _ [.bool (s[i].toNat.testBit (7 - j))] (by rfl) rfl ?_ ?_ ?_ ?_ ?_ ?_; exact new_cells _ _ _; (simp [Value.oneCell']); (omega); (omega); (simp; omega); intro ad' cap' w' hv' hb' hs')
          have hb2 : Below w.heap.size w w' := hb.trans (((Below.refl _ wr).alloc (Nat.le_refl _) _).mono hz |>.trans hb')
          have hv2 : Vec w' w.heap.size 4 1 ad' (M + 1) cap' ((allBits (s.take i) ++ (bitsOf s[i]).take (j + 1)).map Value.bool) := by
            rw [bitsOf_take _ _ hjt]; simpa using hv'
          go_roundw
          case rel => exact ⟨j + 1, ad', cap', M + 1, by omega, by go_num, rfl, by have := HM.out; omega, hv2, hb2⟩
          case measure => simp [intOf]; omega
        · have e1 : j = 8 := by omega
          have e2 : M = 8 * (i + 1) := by have := HM.out; have := HN.out; omega
          have hv2 : Vec wr w.heap.size 4 1 ad M cap ((allBits (s.take (i + 1))).map Value.bool) := by
            have h := hv
            rw [e1, show (bitsOf s[i]).take 8 = bitsOf s[i] from rfl] at h
            rw [List.take_succ_eq_append_getElem hlt2, allBits_append, allBits_one]; exact h
          have E2 : Hid (M = 8 * (i + 1)) := e2
          clear e1 e2 hv
          go_wp2_with fail
          go_roundw
          case rel => exact ⟨i + 1, ad, cap, M, by omega, by go_num, rfl, E2.out, hv2, hb⟩
          case measure => simp [intOf]; omega
    · have e1 : i = s.length := by rw [← HZ.out]; omega
      have e2 : N = 8 * s.length := by have := HN.out; omega
      have hv2 : Vec wr w.heap.size 4 1 ad (8 * s.length) cap ((allBits s).map Value.bool) := by
        have h := hv
        rw [e1, List.take_of_length_le (Nat.le_refl _), e2] at h; exact h
      have E2 : Hid (N = 8 * s.length) := e2
      clear e1 e2 hv HN
      go_wp2_with fail
      rw [E2.out]
      go_ret
      exact ⟨ad, cap, rfl, hv2, hb⟩
end Go.Proofs.YtdjpkgaicmklmaaGreat

/- Long division of bits comes to the register: the plain mathematics. -/
namespace Go.Proofs.YtdjpkgaicmklmaaGreat

/-- Bit j of the register, the highest first; behind the 32nd nothing. -/
def reg (c j : Nat) : Bool := decide (j < 32) && c.testBit (31 - j)
/-- Bit t of the bytes; noughts behind. -/
def msg (m : List Bool) (t : Nat) : Bool := m.getD t false
/-- What long division holds at t behind i steps. -/
def lfun (p : Nat) (m : List Bool) (i t : Nat) : Bool := reg (crcB p 4294967295 (m.take i)) (t - i) != msg m t
/-- .. and k places into the i-th step, where the divisor is laid upon it. -/
def gfun (p : Nat) (m : List Bool) (i k t : Nat) : Bool := lfun p m i t != (decide (i + 32 < t + k ∧ t ≤ i + 32) && p.testBit (i + 32 - t))

theorem reg_ones (j : Nat) : reg 4294967295 j = decide (j < 32) := by
  unfold reg
  by_cases h : j < 32
  · have : (4294967295 : Nat).testBit (31 - j) = true := by
      rw [show (4294967295 : Nat) = 2 ^ 32 - 1 by decide, Nat.testBit_two_pow_sub_one]; simp; omega
    simp [h, this]
  · simp [h]

theorem lfun_start (p : Nat) (m : List Bool) (t : Nat) : lfun p m 0 t = (decide (t < 32) != msg m t) := by
  unfold lfun; simp [crcB, reg_ones]

theorem crcB_take (p : Nat) (m : List Bool) (i : Nat) (h : i < m.length) : crcB p 4294967295 (m.take (i + 1)) = cst p (crcB p 4294967295 (m.take i)) m[i] := by
  rw [List.take_succ_eq_append_getElem h, crcB_append]; rfl

theorem lfun_top (p : Nat) (m : List Bool) (i : Nat) (h : i < m.length) : lfun p m i i = ((crcB p 4294967295 (m.take i)).testBit 31 != m[i]) := by
  unfold lfun reg msg
  simp [List.getD, List.getElem?_eq_getElem h]

theorem shl_bit (c j : Nat) (hj : j < 32) : (2 * c % 4294967296).testBit (31 - j) = reg c (j + 1) := by
  rw [show (4294967296 : Nat) = 2 ^ 32 by decide, Nat.testBit_mod_two_pow]
  unfold reg
  by_cases h : j + 1 < 32
  · have e : 31 - j = (31 - (j + 1)) + 1 := by omega
    rw [e, Nat.testBit_succ, Nat.mul_div_cancel_left _ (by omega)]
    simp [h]
    intro _
    omega
  · have e : 31 - j = 0 := by omega
    rw [e]
    simp [h]

/-- A step at which the first bit is not set. -/
theorem lfun_no (p : Nat) (m : List Bool) (i t : Nat) (h : i < m.length) (ht : i < t) (h0 : lfun p m i i = false) : lfun p m (i + 1) t = lfun p m i t := by
  rw [lfun_top p m i h] at h0
  unfold lfun
  rw [crcB_take p m i h]
  unfold cst
  rw [h0, if_neg (by simp)]
  have e : t - i = (t - (i + 1)) + 1 := by omega
  rw [e]
  congr 1
  by_cases hj : t - (i + 1) < 32
  · rw [← shl_bit _ _ hj]; unfold reg; simp [hj]
  · unfold reg; simp [hj]; omega

/-- A step at which it is. -/
theorem lfun_yes (p : Nat) (m : List Bool) (i t : Nat) (h : i < m.length) (ht : i < t) (h0 : lfun p m i i = true) : lfun p m (i + 1) t = gfun p m i 32 t := by
  rw [lfun_top p m i h] at h0
  unfold gfun lfun
  rw [crcB_take p m i h]
  unfold cst
  rw [h0, if_pos rfl]
  have e : t - i = (t - (i + 1)) + 1 := by omega
  rw [e]
  by_cases hj : t - (i + 1) < 32
  · have e2 : i + 32 - t = 31 - (t - (i + 1)) := by omega
    have e3 : (decide (i + 32 < t + 32 ∧ t ≤ i + 32)) = true := by simp; omega
    rw [e2, e3, ← shl_bit _ _ hj]
    unfold reg
    rw [Nat.testBit_xor]
    simp only [hj, decide_true, Bool.true_and]
    generalize (2 * _ % 4294967296).testBit _ = a
    generalize p.testBit _ = b
    generalize msg m t = c
    cases a <;> cases b <;> cases c <;> rfl
  · have e3 : (decide (i + 32 < t + 32 ∧ t ≤ i + 32)) = false := by simp; omega
    rw [e3]
    unfold reg
    have h1 : ¬ t - (i + 1) + 1 < 32 := by omega
    simp [hj, h1]

theorem gfun_start (p : Nat) (m : List Bool) (i t : Nat) : gfun p m i 0 t = lfun p m i t := by
  unfold gfun
  have : (decide (i + 32 < t + 0 ∧ t ≤ i + 32)) = false := by simp
  rw [this]; simp

theorem gfun_step (p : Nat) (m : List Bool) (i k t : Nat) (hk : k < 32) : gfun p m i (k + 1) t = if t = i + 32 - k ∧ p.testBit k = true then !gfun p m i k t else gfun p m i k t := by
  unfold gfun
  by_cases ht : t = i + 32 - k
  · have e1 : (decide (i + 32 < t + (k + 1) ∧ t ≤ i + 32)) = true := by simp; omega
    have e2 : (decide (i + 32 < t + k ∧ t ≤ i + 32)) = false := by simp; omega
    have e3 : i + 32 - t = k := by omega
    rw [e1, e2, e3]
    cases hb : p.testBit k
    · simp
    · simp [ht]
  · have e1 : (decide (i + 32 < t + (k + 1) ∧ t ≤ i + 32)) = (decide (i + 32 < t + k ∧ t ≤ i + 32)) := by
      rw [Bool.eq_iff_iff]; simp; omega
    rw [e1, if_neg (fun h => ht h.1)]

/-- What is read at the end. -/
theorem lfun_end (p : Nat) (m : List Bool) (k : Nat) (hk : k < 32) : lfun p m m.length (m.length + k) = (crcB p 4294967295 m).testBit (31 - k) := by
  unfold lfun reg msg
  have e1 : m.length + k - m.length = k := by omega
  rw [e1, List.take_of_length_le (Nat.le_refl _)]
  simp [hk, List.getD]

theorem gather (x k : Nat) (hk : k < 32) : x / 2 ^ (32 - (k + 1)) = 2 * (x / 2 ^ (32 - k)) + (x.testBit (31 - k)).toNat := by
  have e : 32 - k = (31 - k) + 1 := by omega
  have e2 : 32 - (k + 1) = 31 - k := by omega
  rw [e, e2, Nat.pow_succ, ← Nat.div_div_eq_div_mul, Nat.testBit_eq_decide_div_mod_eq]
  generalize x / 2 ^ (31 - k) = y
  by_cases h : y % 2 = 1
  · simp [h]; omega
  · simp [h]; omega

theorem not_bit (c k : Nat) (hk : k < 32) : (c ^^^ 4294967295).testBit (31 - k) = !c.testBit (31 - k) := by
  rw [Nat.testBit_xor]
  have : (4294967295 : Nat).testBit (31 - k) = true := by
    rw [show (4294967295 : Nat) = 2 ^ 32 - 1 by decide, Nat.testBit_two_pow_sub_one]; simp; omega
  rw [this]; simp
end Go.Proofs.YtdjpkgaicmklmaaGreat

