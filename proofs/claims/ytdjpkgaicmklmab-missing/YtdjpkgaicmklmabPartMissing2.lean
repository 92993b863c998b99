/- Texts of the proof, one behind the other; what each holds is said at its head. -/
import Derived.Test.YtdjpkgaicmklmabPartMissing1
import Derived.Test.YtdjpkgaicmklmabPartMissing0
import Derived.Lib.ConvBytes
import Derived.Deep.RegionLaw
import Derived.Laws.BitsAllLaws
import Derived.Deep.RegionHeld3
import Derived.OwnWalk
/- Bits of bytes turned over: without the program. -/
namespace Go.Proofs.Ytdjpkgaicmklmab
open Go.RowKit

theorem allBits_get : ∀ (l : List UInt8) (i : Nat), (allBits l)[i]? = (l[i / 8]?).map fun x => x.toNat.testBit (7 - i % 8)
  | [], i => by simp [allBits]
  | x :: l, i => by
    rw [show allBits (x :: l) = bitsOf x ++ allBits l from by rw [show x :: l = [x] ++ l from rfl, allBits_append, allBits_one]]
    by_cases h : i < 8
    · rw [List.getElem?_append_left (by simpa [bitsOf] using h), show i / 8 = 0 by omega]
      have : i = 0 ∨ i = 1 ∨ i = 2 ∨ i = 3 ∨ i = 4 ∨ i = 5 ∨ i = 6 ∨ i = 7 := by omega
      rcases this with rfl | rfl | rfl | rfl | rfl | rfl | rfl | rfl <;> rfl
    · rw [List.getElem?_append_right (by simp [bitsOf]; omega), show i - (bitsOf x).length = i - 8 by simp [bitsOf], allBits_get l (i - 8)]
      rw [show i / 8 = (i - 8) / 8 + 1 by omega, List.getElem?_cons_succ, show (i - 8) % 8 = i % 8 by omega]
theorem bits_byte {x y : UInt8} (h : bitsOf x = bitsOf y) : x = y := by
  simp only [bitsOf, List.cons.injEq, and_true] at h
  obtain ⟨h7, h6, h5, h4, h3, h2, h1, h0⟩ := h
  apply UInt8.toNat_inj.mp
  apply Nat.eq_of_testBit_eq
  intro i
  by_cases hi : i < 8
  · have : i = 0 ∨ i = 1 ∨ i = 2 ∨ i = 3 ∨ i = 4 ∨ i = 5 ∨ i = 6 ∨ i = 7 := by omega
    rcases this with rfl | rfl | rfl | rfl | rfl | rfl | rfl | rfl <;> assumption
  · have hx := x.toNat_lt
    have hy := y.toNat_lt
    have hp : 2 ^ 8 ≤ 2 ^ i := Nat.pow_le_pow_right (by omega) (by omega)
    rw [Nat.testBit_lt_two_pow (by omega), Nat.testBit_lt_two_pow (by omega)]
theorem allBits_inj : ∀ {s t : List UInt8}, allBits s = allBits t → s = t
  | [], [], _ => rfl
  | [], _ :: _, h => by have := congrArg List.length h; rw [allBits_length, allBits_length] at this; simp at this
  | _ :: _, [], h => by have := congrArg List.length h; rw [allBits_length, allBits_length] at this; simp at this
  | x :: s, y :: t, h => by
    rw [show x :: s = [x] ++ s from rfl, show y :: t = [y] ++ t from rfl, allBits_append, allBits_append, allBits_one, allBits_one] at h
    have := List.append_inj h (by simp [bitsOf])
    rw [bits_byte this.1, allBits_inj this.2]

/-- A bit turned over. -/
def flipB (x : UInt8) (r : Nat) : UInt8 := x ^^^ UInt8.ofNat (2 ^ (7 - r))
def flipAt (l : List UInt8) (i : Nat) : List UInt8 := l.set (i / 8) (flipB (l.getD (i / 8) 0) (i % 8))
/-- The first k of the bits that are asked for, from bit a on. -/
def turnB (bit : Nat → Bool) (a : Nat) (s : List UInt8) : Nat → List UInt8
  | 0 => s
  | k + 1 => if bit k = true ∧ (a + k) / 8 < s.length then flipAt (turnB bit a s k) (a + k) else turnB bit a s k
theorem turn_len (bit : Nat → Bool) (a : Nat) (s : List UInt8) : ∀ k, (turnB bit a s k).length = s.length
  | 0 => rfl
  | k + 1 => by
    simp only [turnB]; split
    · simp [flipAt, turn_len bit a s k]
    · exact turn_len bit a s k

theorem flip_bit (x : UInt8) (r q : Nat) (hr : r < 8) (hq : q < 8) : (flipB x r).toNat.testBit (7 - q) = (x.toNat.testBit (7 - q) != decide (q = r)) := by
  unfold flipB
  rw [UInt8.toNat_xor, Nat.testBit_xor]
  have e : (UInt8.ofNat (2 ^ (7 - r))).toNat = 2 ^ (7 - r) := by
    rw [UInt8.toNat_ofNat']
    apply Nat.mod_eq_of_lt
    calc 2 ^ (7 - r) ≤ 2 ^ 7 := Nat.pow_le_pow_right (by omega) (by omega)
      _ < 2 ^ 8 := by decide
  rw [e, Nat.testBit_two_pow]
  congr 1
  exact decide_eq_decide.mpr (by omega)
/-- Turning over one bit leaves the others. -/
theorem flip_bits (l : List UInt8) (i j : Nat) (hi : i / 8 < l.length) : (allBits (flipAt l i))[j]? = ((allBits l)[j]?).map fun x => x != decide (j = i) := by
  rw [allBits_get, allBits_get]
  unfold flipAt
  by_cases hj : j / 8 = i / 8
  · rw [hj, List.getElem?_set_self hi, List.getElem?_eq_getElem hi]
    simp only [Option.map_some, List.getD_eq_getElem?_getD, List.getElem?_eq_getElem hi, Option.getD_some]
    rw [flip_bit _ _ _ (by omega) (by omega)]
    congr 2
    exact decide_eq_decide.mpr (by omega)
  · rw [List.getElem?_set_ne (by omega)]
    have : j ≠ i := fun e => hj (by rw [e])
    simp only [Option.map_map]
    congr 1
    funext x
    simp [this]
theorem turn_bits (bit : Nat → Bool) (a : Nat) (s : List UInt8) (j : Nat) : ∀ k, (allBits (turnB bit a s k))[j]? = ((allBits s)[j]?).map fun x => x != (decide (a ≤ j ∧ j < a + k) && bit (j - a))
  | 0 => by
    have : decide (a ≤ j ∧ j < a + 0) = false := decide_eq_false (by omega)
    rw [this]; simp [turnB]
  | k + 1 => by
    simp only [turnB]
    by_cases hb : bit k = true ∧ (a + k) / 8 < s.length
    · rw [if_pos hb, flip_bits _ _ _ (by rw [turn_len]; exact hb.2), turn_bits bit a s j k, Option.map_map]
      congr 1
      funext x
      simp only [Function.comp_apply]
      by_cases hj : j = a + k
      · rw [hj, show a + k - a = k by omega, hb.1]; simp
      · rw [decide_eq_false hj, show decide (a ≤ j ∧ j < a + (k + 1)) = decide (a ≤ j ∧ j < a + k) from decide_eq_decide.mpr (by omega)]; simp
    · rw [if_neg hb, turn_bits bit a s j k]
      by_cases hj : j = a + k
      · by_cases hb1 : bit k = true
        · have : s.length ≤ (a + k) / 8 := by
            rcases Nat.lt_or_ge ((a + k) / 8) s.length with h | h
            · exact absurd ⟨hb1, h⟩ hb
            · exact h
          rw [List.getElem?_eq_none (by rw [allBits_length]; omega)]; rfl
        · congr 1; funext x
          rw [hj, show a + k - a = k by omega, eq_false_of_ne_true hb1]; simp
      · rw [show decide (a ≤ j ∧ j < a + (k + 1)) = decide (a ≤ j ∧ j < a + k) from decide_eq_decide.mpr (by omega)]
/-- All of it that is turned lies within k bits. -/
theorem turn_parts (bit : Nat → Bool) (a : Nat) (s : List UInt8) (k : Nat) :
    ∃ x e e' c, allBits s = x ++ e ++ c ∧ allBits (turnB bit a s k) = x ++ e' ++ c ∧ e.length = e'.length ∧ e.length ≤ k := by
  have split3 : ∀ l : List Bool, l = l.take a ++ (l.drop a).take k ++ l.drop (a + k) := by
    intro l; rw [List.append_assoc, ← List.drop_drop, List.take_append_drop, List.take_append_drop]
  have hlen : (allBits (turnB bit a s k)).length = (allBits s).length := by rw [allBits_length, allBits_length, turn_len]
  refine ⟨(allBits s).take a, ((allBits s).drop a).take k, ((allBits (turnB bit a s k)).drop a).take k, (allBits s).drop (a + k), split3 _, ?_, by simp [hlen], by simp; omega⟩
  conv => lhs; rw [split3 (allBits (turnB bit a s k))]
  congr 1
  · congr 1
    apply List.ext_getElem?; intro j
    by_cases hj : j < a
    · rw [List.getElem?_take_of_lt hj, List.getElem?_take_of_lt hj, turn_bits, show decide (a ≤ j ∧ j < a + k) = false from decide_eq_false (by omega)]; simp
    · rw [List.getElem?_eq_none (by simp; omega), List.getElem?_eq_none (by simp; omega)]
  · apply List.ext_getElem?; intro j
    rw [List.getElem?_drop, List.getElem?_drop, turn_bits, show decide (a ≤ a + k + j ∧ a + k + j < a + k) = false from decide_eq_false (by omega)]; simp
/-- One bit that is turned over within the bytes: they are others. -/
theorem turn_one (bit : Nat → Bool) (a : Nat) (s : List UInt8) (k i : Nat) (hi : i < k) (hb : bit i = true) (ha : a + i < 8 * s.length) : turnB bit a s k ≠ s := by
  intro h
  have e := turn_bits bit a s (a + i) k
  rw [h, List.getElem?_eq_getElem (by rw [allBits_length]; exact ha), show decide (a ≤ a + i ∧ a + i < a + k) = true from decide_eq_true (by omega), show a + i - a = i by omega, hb] at e
  simp at e

/-- The sum of bytes in which bits within 32 are turned is another. -/
theorem crc_turned {p : Nat} (hp : p < 4294967296) (ho : p % 2 = 1) (bit : Nat → Bool) (a : Nat) (s : List UInt8) (h : turnB bit a s 32 ≠ s) : crc p (turnB bit a s 32) ≠ crc p s := by
  obtain ⟨x, e, e', c, h1, h2, h3, h4⟩ := turn_parts bit a s 32
  intro hc
  have := crc_turn hp ho _ _ x e e' c h1 h2 h3 h4 hc.symm
  rw [this] at h1
  exact h (allBits_inj (h2.trans h1.symm))
/-- What ends in its own sum, with such bits turned, does not. -/
theorem seal_turned {p : Nat} (hp : p < 4294967296) (ho : p % 2 = 1) (bit : Nat → Bool) (a : Nat) (s t : List UInt8) (h : turnB bit a (s ++ fourI (crc p s)) 32 = t ++ fourI (crc p t)) : turnB bit a (s ++ fourI (crc p s)) 32 = s ++ fourI (crc p s) := by
  obtain ⟨x, e, e', c, h1, h2, h3, h4⟩ := turn_parts bit a (s ++ fourI (crc p s)) 32
  have := torn hp ho s t x e e' c h1 (by rw [← h]; exact h2) h3 h4
  rw [this] at h1
  exact allBits_inj (h2.trans h1.symm)
theorem vol_turned {i n : Nat} {s : Nat} {p : List UInt8} (bit : Nat → Bool) (a : Nat) (h : turnB bit a (volB i n s p) 32 ≠ volB i n s p) : volOk (turnB bit a (volB i n s p) 32) = false := by
  obtain ⟨x, e, e', c, h1, h2, h3, h4⟩ := turn_parts bit a (volB i n s p) 32
  refine vol_torn x e e' c h1 h2 h3 h4 ?_
  intro he
  rw [he] at h1
  exact h (allBits_inj (h2.trans h1.symm))
end Go.Proofs.Ytdjpkgaicmklmab

/- parcelkeep's turned, walked. -/
namespace Go.Proofs.Ytdjpkgaicmklmab
open Go.RowKit

/-- Bytes that were made of a string: the row bears a mark behind its end. -/
structure By (w : World) (g e : Nat) (s : List UInt8) (sp : Nat) : Prop where
  h : w.heap[g]? = some (.cells (u8s s ++ List.replicate sp (Value.int .u8 0)).toArray e (s.length + sp, s.length + sp + 1))
theorem By.lt {w : World} {g e : Nat} {s : List UInt8} {sp : Nat} (b : By w g e s sp) : g < w.heap.size := (Array.getElem?_eq_some_iff.1 b.h).1
theorem By.cell {w : World} {g e : Nat} {s : List UInt8} {sp : Nat} (b : By w g e s sp) (k : Nat) (hk : k < s.length) : w.cell? ⟨g, k, none⟩ = some (.int .u8 ((s.getD k 0).toNat : Int)) := by
  simp [World.cell?, b.h, List.getElem?_append, hk]
theorem By.frozen {w : World} {g e : Nat} {s : List UInt8} {sp : Nat} (b : By w g e s sp) (k : Nat) (hk : k < s.length) : w.frozen? ⟨g, k, none⟩ = false := by
  simp [World.frozen?, b.h]; omega
theorem By.drew {w : World} {g e : Nat} {s : List UInt8} {sp : Nat} (b : By w g e s sp) : By w.drew g e s sp := ⟨b.h⟩
theorem By.set {w : World} {g e : Nat} {s : List UInt8} {sp : Nat} (b : By w g e s sp) (k : Nat) (hk : k < s.length) (x : UInt8) : By (w.setCell ⟨g, k, none⟩ (.int .u8 (x.toNat : Int))) g e (s.set k x) sp := by
  have hl := b.lt
  have e1 : u8s (s.set k x) ++ List.replicate sp (Value.int .u8 0) = (u8s s ++ List.replicate sp (Value.int .u8 0)).set k (.int .u8 (x.toNat : Int)) := by
    rw [List.set_append_left _ _ (by simpa using hk), u8s, u8s, List.map_set]
  refine ⟨?_⟩
  rw [e1, List.length_set]
  have h2 := b.h
  simp only [World.setCell]
  rw [Array.getElem?_modify, if_pos rfl, h2]
  simp
theorem By.str {w : World} {g e : Nat} {s : List UInt8} {sp : Nat} (b : By w g e s sp) : ∀ j v, ((s.map fun x => (x.toNat : Int)).map (Value.int .u8))[j]? = some v → w.cell? ((⟨g, 0, none⟩ : Addr).add j) = some v := by
  intro j v hv
  have hj : j < s.length := by have := (List.getElem?_eq_some_iff.1 hv).1; simpa using this
  rw [addr_add, Nat.zero_add, b.cell j hj, ← hv]
  simp [List.getD, hj]

section
variable {P : Program} {w : World} {ops : Array Oper} {rest : List Oper} {o : Oper} {a : Act} {Q : Exit → Act → World → Prop}
/-- '[]byte(s)'. -/
theorem wpList_toBytes (hgd : o.guard = none) (src dst e : TypeId) (x : Operand) (ho : o.op = .convert src dst x) (hs : P.underlying src = some .string) (hd : P.underlying dst = some (.slice e)) (he : P.underlying e = some (.int .u8)) (s : List UInt8) (hx : a.eval x = .string (str s))
    (h : ∀ g ad cap sp w', Hid (ad = some ⟨g, 0, none⟩) → w.heap.size ≤ g → By w' g e s sp → Below w.heap.size w w' → wpList P ops Q rest (a.put o.dst (.slice ad s.length cap)) w') : wpList P ops Q (o :: rest) a w := by
  refine wpList_plain hgd fun K hK => ?_
  have hrun := Lib.run_convert_string_bytes (P := P) w src dst e (str s) hs hd he
  rw [str_size] at hrun
  unfold Oper.wp
  simp [execOp, ho, hx, hrun, Result.andThen]
  refine hK _ _ (h w.heap.size _ _ (grownCap w s.length 0 e - s.length) _ rfl (Nat.le_refl _) ⟨?_⟩ ?_)
  · have := Lib.bytesWorld_at_new w e (str s)
    have e2 : Lib.bytesCells w e (str s) = (u8s s ++ List.replicate (grownCap w s.length 0 e - s.length) (Value.int .u8 0)).toArray := by
      unfold Lib.bytesCells
      rw [str_size]
      simp [str, u8s]
    rw [e2] at this
    rw [this]
    simp only [List.size_toArray, List.length_append, List.length_map, List.length_replicate]
  · refine ⟨?_, ?_, ?_, by rw [Lib.bytesWorld_size]; omega, fun k hk => Lib.bytesWorld_at_old w e (str s) k hk⟩
    · simp only [Lib.bytesWorld, World.freeze]; rfl
    · simp only [Lib.bytesWorld, World.freeze]; rfl
    · simp only [Lib.bytesWorld, World.freeze]; rfl
end

theorem wrap_i64 (i : Int) (h : -9223372036854775808 ≤ i) (h2 : i ≤ 9223372036854775807) : IntKind.i64.wrap i = i := by
  have e : (2 : Int) ^ IntKind.i64.bits = 18446744073709551616 := by decide
  have s : IntKind.i64.signed = true := rfl
  have e2 : (2 : Int) ^ (IntKind.i64.bits - 1) = 9223372036854775808 := by decide
  simp [IntKind.wrap, e, e2, s]; omega
theorem flip_val (x : UInt8) (r : Nat) (hr : r < 8) : bits .xor .u8 (x.toNat : Int) (IntKind.u8.wrap (2 ^ (7 - r))) = ((flipB x r).toNat : Int) := by
  have hp : 2 ^ (7 - r) < 256 := by
    have : 2 ^ (7 - r) ≤ 2 ^ 7 := Nat.pow_le_pow_right (by omega) (by omega)
    omega
  have e1 : IntKind.u8.wrap ((2 : Int) ^ (7 - r)) = ((2 ^ (7 - r) : Nat) : Int) := by
    rw [show ((2 : Int) ^ (7 - r)) = ((2 ^ (7 - r) : Nat) : Int) by simp]
    exact wrap_u8 _ hp
  have hx := x.toNat_lt
  rw [e1, u8_xor_nat _ _ (by omega) hp]
  unfold flipB
  rw [UInt8.toNat_xor]
  have e : (UInt8.ofNat (2 ^ (7 - r))).toNat = 2 ^ (7 - r) := by
    rw [UInt8.toNat_ofNat']; exact Nat.mod_eq_of_lt hp
  rw [e]
/-- The bits that a mask has. -/
def bitM (mask : Int) (k : Nat) : Bool := bits .and .i64 (mask / 2 ^ (31 - k)) 1 == 1

set_option maxRecDepth 100000 in
set_option maxHeartbeats 4000000 in
theorem turned_any (s : List UInt8) (a : Nat) (mask : Int) (w : World) (hs : s.length ≤ 1099511627776) (ha : a < 8 * s.length) :
    Calls Try.prog 18 #[.string (str s), .int .i64 (a : Int), .int .i64 mask] w fun e w' => e = .returned (.string (str (turnB (bitM mask) a s 32))) ∧ Below w.heap.size w w' := by
  have HS : Hid (s.length ≤ 1099511627776) := hs
  go_enter Try.func18, Try.ntmps18
  go_wp2_with (refine wpList_toBytes (by rfl) 9 75 5 _ (by rfl) Try.underlying9 Try.underlying75 Try.underlying5 s (by rfl) ?_; intro g ad cap sp w1 he hg hy hb1)
  go_loopw [8, 9] (fun u _ wr => ∃ (k : Nat), k ≤ 32 ∧ u = .int .i64 k ∧ By wr g 5 (turnB (bitM mask) a s k) sp ∧ Below w.heap.size w wr) (fun u _ _ => 32 - (intOf u).toNat)
  case atStart => exact ⟨0, by omega, rfl, hy, hb1⟩
  case round =>
    clear hy hb1
    obtain ⟨k, hk, rfl, hy, hbw⟩ := hrel
    have HL : Hid ((turnB (bitM mask) a s k).length = s.length) := turn_len _ _ _ _
    by_cases hlt : k < 32
    · have hex : ((31 : Int) - (k : Int)).toNat = 31 - k := by omega
      have hq : ((a : Int) + (k : Int)) / 8 = (((a + k) / 8 : Nat) : Int) := by omega
      have hqt : Int.tdiv ((a : Int) + (k : Int)) 8 = (((a + k) / 8 : Nat) : Int) := by rw [Int.tdiv_eq_ediv_of_nonneg (by omega)]; exact hq
      have hr : ((a : Int) + (k : Int)) % 8 = (((a + k) % 8 : Nat) : Int) := by omega
      have hrt : Int.tmod ((a : Int) + (k : Int)) 8 = (((a + k) % 8 : Nat) : Int) := by rw [Int.tmod_eq_emod_of_nonneg (by omega)]; exact hr
      have HT : Hid (turnB (bitM mask) a s (k + 1) = if bitM mask k = true ∧ (a + k) / 8 < s.length then flipAt (turnB (bitM mask) a s k) (a + k) else turnB (bitM mask) a s k) := rfl
      cases hbit : bitM mask k with
      | false =>
        have hbb : (bits .and .i64 (mask / 2 ^ (31 - k)) 1 == 1) = false := hbit
        go_wp2_with fail
        go_roundw
        case rel => exact ⟨k + 1, by omega, by go_num, by rw [HT.out, hbit, if_neg (by simp)]; exact hy, hbw⟩
        case measure => simp [intOf]; omega
      | true =>
        have hbb : (bits .and .i64 (mask / 2 ^ (31 - k)) 1 == 1) = true := hbit
        by_cases hin : (a + k) / 8 < s.length
        · have HF : Hid (turnB (bitM mask) a s (k + 1) = flipAt (turnB (bitM mask) a s k) (a + k)) := by show _ = _; rw [HT.out, if_pos ⟨hbit, hin⟩]
          have x1 := fun w' => Own.idx he (P := Try.prog) (t := 75) (m := 1) s.length cap (by kernel_rfl) (by kernel_rfl) (k := (a + k) / 8) hin (((a + k) / 8 : Nat) : Int) rfl w'
          simp only [Nat.mul_one] at x1
          have c0 := hy.cell ((a + k) / 8) (by rw [HL.out]; exact hin)
          have f0 := hy.frozen ((a + k) / 8) (by rw [HL.out]; exact hin)
          have HY : Hid (∀ x, By (wr.drew.setCell ⟨g, (a + k) / 8, none⟩ (.int .u8 (x.toNat : Int))) g 5 ((turnB (bitM mask) a s k).set ((a + k) / 8) x) sp) := fun x => hy.drew.set _ (by rw [HL.out]; exact hin) x
          have HFL : Hid (flipAt (turnB (bitM mask) a s k) (a + k) = (turnB (bitM mask) a s k).set ((a + k) / 8) (flipB ((turnB (bitM mask) a s k).getD ((a + k) / 8) 0) ((a + k) % 8))) := rfl
          have hmr : (a + k) % 8 < 8 := Nat.mod_lt _ (by omega)
          generalize (turnB (bitM mask) a s k).getD ((a + k) / 8) 0 = x0 at *
          obtain ⟨q, hqq⟩ : ∃ q, q = (a + k) / 8 := ⟨_, rfl⟩
          obtain ⟨r, hrr⟩ : ∃ r, r = (a + k) % 8 := ⟨_, rfl⟩
          rw [← hqq] at hq hqt hin x1 c0 f0
          rw [← hrr] at hr hrt hmr
          have HQ : Hid (q = (a + k) / 8) := hqq
          have HR : Hid (r = (a + k) % 8) := hrr
          have hwq : IntKind.i64.wrap (q : Int) = (q : Int) := wrap_i64 _ (by omega) (by omega)
          have hw7 : IntKind.i64.wrap (7 - (r : Int)) = ((7 - r : Nat) : Int) := by rw [wrap_i64 _ (by omega) (by omega)]; omega
          clear hqq hrr hy HT hbit
          go_wp2_with fail
          go_region_law (fail)
          have HY2 : Hid (By (wr.setCell ⟨g, q, none⟩ (.int .u8 (bits .xor .u8 (x0.toNat : Int) (IntKind.u8.wrap (2 ^ (7 - r)))))).drew g 5 (turnB (bitM mask) a s (k + 1)) sp) := by
            show By _ _ _ _ _
            rw [HF.out, HFL.out, flip_val x0 r hmr, ← HQ.out, ← HR.out]
            have := HY.out (flipB x0 r)
            rw [← HQ.out] at this
            exact ⟨this.h⟩
          have HB2 : Hid (Below w.heap.size w (wr.setCell ⟨g, q, none⟩ (.int .u8 (bits .xor .u8 (x0.toNat : Int) (IntKind.u8.wrap (2 ^ (7 - r)))))).drew) := ((Upd.refl g wr).setCell ⟨g, q, none⟩ rfl _).drew.below hbw hg
          clear HY HF HFL
          generalize (wr.setCell ⟨g, q, none⟩ (.int .u8 (bits .xor .u8 (x0.toNat : Int) (IntKind.u8.wrap (2 ^ (7 - r)))))).drew = W2 at *
          go_wp2_with fail
          go_roundw
          case rel => exact ⟨k + 1, by omega, by go_num, HY2.out, HB2.out⟩
          case measure => simp [intOf]; omega
        · obtain ⟨q, hqq⟩ : ∃ q, q = (a + k) / 8 := ⟨_, rfl⟩
          rw [← hqq] at hq hqt
          have hin2 : ¬ (q : Int) < (s.length : Int) := by omega
          have hwq : IntKind.i64.wrap (q : Int) = (q : Int) := wrap_i64 _ (by omega) (by omega)
          have HIN : Hid (¬ (a + k) / 8 < s.length) := hin
          clear hqq hin
          go_wp2_with fail
          go_roundw
          case rel => exact ⟨k + 1, by omega, by go_num, by rw [HT.out, if_neg (fun h => HIN.out h.2)]; exact hy, hbw⟩
          case measure => simp [intOf]; omega
    · obtain rfl : k = 32 := by omega
      have HTL : Hid ((turnB (bitM mask) a s 32).length = s.length) := HL.out
      have hss : ((turnB (bitM mask) a s 32).map fun b => (b.toNat : Int)).length = s.length := by simp; exact HTL.out
      have had := he.out
      go_wp2_with (refine wpList_toString (by rfl) 75 9 5 _ (by rfl) Try.underlying75 Try.underlying5 Try.underlying9 ⟨g, 0, none⟩ s.length cap (by rw [← had]; rfl) ((turnB (bitM mask) a s 32).map fun b => (b.toNat : Int)) hss hy.str ?_; rw [bytes_ints])
      go_ret
      exact ⟨rfl, hbw⟩
end Go.Proofs.Ytdjpkgaicmklmab

/- Records as bytes: the program's Head, Clock, Card, Edit; the reference's Number; walked. -/
namespace Go.Proofs.Ytdjpkgaicmklmab
open Go.RowKit

theorem mk_append_str (l b : List UInt8) : (ByteArray.mk l.toArray) ++ str b = str (l ++ b) := str_append l b
theorem str_append_mk (l b : List UInt8) : str b ++ (ByteArray.mk l.toArray) = str (b ++ l) := str_append b l
attribute [local go_sem] str_size str_append mk_append_str str_append_mk

theorem numB_length (n : Int) : (numB n).length ≤ 10 := by
  unfold numB; rw [List.length_map]; exact numI_length 9 n

/-- A box, behind whatever was laid since. -/
theorem boxN {w wr : World} {cs : Array Value} {t : TypeId} (hb : Below (w.heap.size + 1) (w.alloc (.cells cs t)) wr) (j : Nat) : wr.cell? ⟨w.heap.size, j, none⟩ = cs[j]? := by
  rw [hb.cell (p := ⟨w.heap.size, j, none⟩) (by simp), World.cell?_alloc_new]
theorem box_old {w wr : World} {o : Obj} (hb : Below (w.heap.size + 1) (w.alloc o) wr) : Below w.heap.size w wr :=
  ((Below.refl _ _).alloc (Nat.le_refl _) o).trans (hb.mono (by omega))
theorem box_step {w wr w1 : World} {o : Obj} (hb : Below (w.heap.size + 1) (w.alloc o) wr) (h : Below wr.heap.size wr w1) : Below (w.heap.size + 1) (w.alloc o) w1 :=
  hb.trans (h.mono (by have := hb.size; simpa using this))

def recHead (seq base : Int) : List UInt8 := 4 :: (numB seq ++ if seq = 0 then [] else fourI base)
def recClock (c : Ck) : List UInt8 := 1 :: (numB c.site ++ numB c.count)
def recCard (c : Cd) : List UInt8 := 2 :: (numB c.id ++ (numB c.site ++ (numB c.count ++ ((if c.gone then 1 else 0) :: c.text.data.toList))))
def recEdit (c : Ed) : List UInt8 := 3 :: (numB c.id ++ c.text.data.toList)

/-- A number that may be written. -/
def Num (n : Int) : Prop := 0 ≤ n ∧ n ≤ 9223372036854775807

set_option maxRecDepth 100000 in
set_option maxHeartbeats 1000000 in
theorem clock_any (c : Ck) (w : World) (h1 : Num c.site) (h2 : Num c.count) :
    Calls Try.prog 75 #[.agg #[.int .i64 c.site, .int .i64 c.count]] w fun e w' => e = .returned (.string (str (recClock c))) ∧ Below w.heap.size w w' := by
  have hb0 : Below (w.heap.size + 1) (w.alloc (.cells #[.int .i64 c.site, .int .i64 c.count] 72)) (w.alloc (.cells #[.int .i64 c.site, .int .i64 c.count] 72)) := Below.refl _ _
  have l1 := numB_length c.site
  have l2 := numB_length c.count
  go_enter Try.func75, Try.ntmps75
  go_wp2_with fail
  refine (oneByte_any 1 _ (by decide) (by decide)).mono ?_
  rintro e w1 ⟨rfl, hh⟩
  have hb1 := box_step hb0 hh
  clear hh hb0
  have x0 : w1.cell? ⟨w.heap.size, 0, none⟩ = some (.int .i64 c.site) := boxN hb1 0
  go_wp2_with fail
  refine (number_any c.site _ h1.1 h1.2).mono ?_
  rintro e w2 ⟨rfl, hh⟩
  have hb2 := box_step hb1 hh
  clear hh hb1 x0
  have x1 : w2.cell? ⟨w.heap.size, 1, none⟩ = some (.int .i64 c.count) := boxN hb2 1
  go_wp2_with fail
  refine (number_any c.count _ h2.1 h2.2).mono ?_
  rintro e w3 ⟨rfl, hh⟩
  have hb3 := box_step hb2 hh
  clear hh hb2 x1
  have E : Hid ([byt 1] ++ (numB c.site ++ numB c.count) = recClock c) := rfl
  generalize numB c.site = n1 at *
  generalize numB c.count = n2 at *
  go_wp2_with fail
  go_ret
  exact ⟨ret_str (by rw [← E.out]; simp), box_old hb3⟩

set_option maxRecDepth 100000 in
set_option maxHeartbeats 1000000 in
theorem edit_any (c : Ed) (w : World) (h1 : Num c.id) (ht : c.text.size ≤ 1000000) :
    Calls Try.prog 77 #[.agg #[.int .i64 c.id, .string c.text]] w fun e w' => e = .returned (.string (str (recEdit c))) ∧ Below w.heap.size w w' := by
  obtain ⟨t, htt⟩ : ∃ t, c.text = str t := ⟨c.text.data.toList, (str_data _).symm⟩
  rw [htt] at ht ⊢
  rw [str_size] at ht
  have E0 : Hid ([byt 3] ++ (numB c.id ++ t) = recEdit c) := by show _ = _; unfold recEdit; rw [htt]; rfl
  clear htt
  have hb0 : Below (w.heap.size + 1) (w.alloc (.cells #[.int .i64 c.id, .string (str t)] 61)) (w.alloc (.cells #[.int .i64 c.id, .string (str t)] 61)) := Below.refl _ _
  have l1 := numB_length c.id
  go_enter Try.func77, Try.ntmps77
  go_wp2_with fail
  refine (oneByte_any 3 _ (by decide) (by decide)).mono ?_
  rintro e w1 ⟨rfl, hh⟩
  have hb1 := box_step hb0 hh
  clear hh hb0
  have x0 : w1.cell? ⟨w.heap.size, 0, none⟩ = some (.int .i64 c.id) := boxN hb1 0
  go_wp2_with fail
  refine (number_any c.id _ h1.1 h1.2).mono ?_
  rintro e w2 ⟨rfl, hh⟩
  have hb2 := box_step hb1 hh
  clear hh hb1 x0
  have x1 : w2.cell? ⟨w.heap.size, 1, none⟩ = some (.string (str t)) := boxN hb2 1
  generalize numB c.id = n1 at *
  go_wp2_with fail
  go_ret
  exact ⟨ret_str (by rw [← E0.out]; simp), box_old hb2⟩

set_option maxRecDepth 100000 in
set_option maxHeartbeats 1000000 in
theorem card_any (c : Cd) (w : World) (h1 : Num c.id) (h2 : Num c.site) (h3 : Num c.count) (ht : c.text.size ≤ 1000000) :
    Calls Try.prog 76 #[.agg #[.int .i64 c.id, .int .i64 c.site, .int .i64 c.count, .bool c.gone, .string c.text]] w fun e w' => e = .returned (.string (str (recCard c))) ∧ Below w.heap.size w w' := by
  obtain ⟨t, htt⟩ : ∃ t, c.text = str t := ⟨c.text.data.toList, (str_data _).symm⟩
  rw [htt] at ht ⊢
  rw [str_size] at ht
  have E0 : Hid ([byt 2] ++ (numB c.id ++ (numB c.site ++ (numB c.count ++ ([if c.gone then 1 else 0] ++ t)))) = recCard c) := by show _ = _; unfold recCard; rw [htt]; rfl
  clear htt
  have hb0 : Below (w.heap.size + 1) (w.alloc (.cells #[.int .i64 c.id, .int .i64 c.site, .int .i64 c.count, .bool c.gone, .string (str t)] 68)) (w.alloc (.cells #[.int .i64 c.id, .int .i64 c.site, .int .i64 c.count, .bool c.gone, .string (str t)] 68)) := Below.refl _ _
  have l1 := numB_length c.id
  have l2 := numB_length c.site
  have l3 := numB_length c.count
  go_enter Try.func76, Try.ntmps76
  go_wp2_with fail
  refine (oneByte_any 2 _ (by decide) (by decide)).mono ?_
  rintro e w1 ⟨rfl, hh⟩
  have hb1 := box_step hb0 hh
  clear hh hb0
  have x0 : w1.cell? ⟨w.heap.size, 0, none⟩ = some (.int .i64 c.id) := boxN hb1 0
  go_wp2_with fail
  refine (number_any c.id _ h1.1 h1.2).mono ?_
  rintro e w2 ⟨rfl, hh⟩
  have hb2 := box_step hb1 hh
  clear hh hb1 x0
  have x0 : w2.cell? ⟨w.heap.size, 1, none⟩ = some (.int .i64 c.site) := boxN hb2 1
  go_wp2_with fail
  refine (number_any c.site _ h2.1 h2.2).mono ?_
  rintro e w3 ⟨rfl, hh⟩
  have hb3 := box_step hb2 hh
  clear hh hb2 x0
  have x0 : w3.cell? ⟨w.heap.size, 2, none⟩ = some (.int .i64 c.count) := boxN hb3 2
  go_wp2_with fail
  refine (number_any c.count _ h3.1 h3.2).mono ?_
  rintro e w4 ⟨rfl, hh⟩
  have hb4 := box_step hb3 hh
  clear hh hb3 x0
  have x0 : w4.cell? ⟨w.heap.size, 3, none⟩ = some (.bool c.gone) := boxN hb4 3
  go_wp2_with fail
  refine (goneByte_any c.gone _).mono ?_
  rintro e w5 ⟨rfl, hh⟩
  have hb5 := box_step hb4 hh
  clear hh hb4 x0
  have x0 : w5.cell? ⟨w.heap.size, 4, none⟩ = some (.string (str t)) := boxN hb5 4
  generalize numB c.id = n1 at *
  generalize numB c.site = n2 at *
  generalize numB c.count = n3 at *
  generalize (if c.gone = true then 1 else 0 : UInt8) = g at *
  go_wp2_with fail
  go_ret
  exact ⟨ret_str (by rw [← E0.out]; simp), box_old hb5⟩

set_option maxRecDepth 100000 in
set_option maxHeartbeats 1000000 in
theorem head_any (seq base : Int) (w : World) (h1 : Num seq) (h2 : 0 ≤ base) (h3 : base ≤ 4294967295) :
    Calls Try.prog 74 #[.int .i64 seq, .int .i64 base] w fun e w' => e = .returned (.string (str (recHead seq base))) ∧ Below w.heap.size w w' := by
  have l1 := numB_length seq
  by_cases hs : seq = 0
  · have hs2 : (seq == 0) = true := by simp [hs]
    have E : Hid ([byt 4] ++ numB seq = recHead seq base) := by show _ = _; unfold recHead; rw [if_pos hs]; simp; rfl
    clear hs
    go_enter Try.func74, Try.ntmps74
    go_wp2_with fail
    refine (oneByte_any 4 _ (by decide) (by decide)).mono ?_
    rintro e w1 ⟨rfl, hb1⟩
    go_wp2_with fail
    refine (number_any seq _ h1.1 h1.2).mono ?_
    rintro e w2 ⟨rfl, hb2⟩
    generalize numB seq = n1 at *
    go_wp2_with fail
    go_ret
    exact ⟨ret_str (by rw [← E.out]; simp), hb1.trans (hb2.mono hb1.size)⟩
  · have hs2 : (seq == 0) = false := by simp [hs]
    have E : Hid ([byt 4] ++ (numB seq ++ fourI base) = recHead seq base) := by show _ = _; unfold recHead; rw [if_neg hs]; rfl
    have l4 : (fourI base).length = 4 := rfl
    have L4 : (fourI base).length ≤ 4 := by omega
    clear hs l4
    go_enter Try.func74, Try.ntmps74
    go_wp2_with fail
    refine (oneByte_any 4 _ (by decide) (by decide)).mono ?_
    rintro e w1 ⟨rfl, hb1⟩
    go_wp2_with fail
    refine (number_any seq _ h1.1 h1.2).mono ?_
    rintro e w2 ⟨rfl, hb2⟩
    go_wp2_with fail
    refine (fourBytes_any base _ h2 h3).mono ?_
    rintro e w3 ⟨rfl, hb3⟩
    generalize numB seq = n1 at *
    generalize fourI base = n2 at *
    go_wp2_with fail
    go_ret
    exact ⟨ret_str (by rw [← E.out]; simp), hb1.trans ((hb2.mono hb1.size).trans (hb3.mono (Nat.le_trans hb1.size hb2.size)))⟩
end Go.Proofs.Ytdjpkgaicmklmab

/- A link's records in their order: the program's recordsOf, walked. -/
namespace Go.Proofs.Ytdjpkgaicmklmab
open Go.RowKit

/-- A record, as plain data. -/
structure Fd where
  at_ : Int
  kind : Int
  seq : Int
  base : Int
  id : Int
  site : Int
  count : Int
  gone : Bool
  text : ByteArray

abbrev Fd.cells (f : Fd) : List Value := [.int .i64 f.at_, .int .i64 f.kind, .int .i64 f.seq, .int .i64 f.base, .int .i64 f.id, .int .i64 f.site, .int .i64 f.count, .bool f.gone, .string f.text]
def fdHead (seq base : Int) : Fd := ⟨0, 4, seq, base, 0, 0, 0, false, ⟨#[]⟩⟩
def fdClock (c : Ck) : Fd := ⟨0, 1, 0, 0, 0, c.site, c.count, false, ⟨#[]⟩⟩
def fdCard (c : Cd) : Fd := ⟨0, 2, 0, 0, c.id, c.site, c.count, c.gone, c.text⟩
def fdEdit (c : Ed) : Fd := ⟨0, 3, 0, 0, c.id, 0, 0, false, c.text⟩
/-- A record's bytes. -/
def recF (f : Fd) : List UInt8 :=
  if f.kind = 4 then recHead f.seq f.base else if f.kind = 1 then recClock ⟨f.site, f.count⟩ else if f.kind = 2 then recCard ⟨f.id, f.site, f.count, f.gone, f.text⟩ else recEdit ⟨f.id, f.text⟩
theorem recF_head (s b : Int) : recF (fdHead s b) = recHead s b := rfl
theorem recF_clock (c : Ck) : recF (fdClock c) = recClock c := rfl
theorem recF_card (c : Cd) : recF (fdCard c) = recCard c := rfl
theorem recF_edit (c : Ed) : recF (fdEdit c) = recEdit c := rfl

/-- The first k clocks' records, .. -/
def recs1 (s b : Int) (R : Rep) (k : Nat) : List Fd := fdHead s b :: (List.range k).map (fun i => fdClock (R.c i))
def recs2 (s b : Int) (R : Rep) (k : Nat) : List Fd := recs1 s b R R.n1 ++ (List.range k).map (fun i => fdCard (R.d i))
def recs3 (s b : Int) (R : Rep) (k : Nat) : List Fd := recs2 s b R R.n2 ++ (List.range k).map (fun i => fdEdit (R.e i))
/-- All records of a link. -/
def recsOf (s b : Int) (R : Rep) : List Fd := recs3 s b R R.n3

theorem recs1_succ (s b : Int) (R : Rep) (k : Nat) : recs1 s b R (k + 1) = recs1 s b R k ++ [fdClock (R.c k)] := by simp [recs1, List.range_succ]
theorem recs2_zero (s b : Int) (R : Rep) : recs2 s b R 0 = recs1 s b R R.n1 := by simp [recs2]
theorem recs2_succ (s b : Int) (R : Rep) (k : Nat) : recs2 s b R (k + 1) = recs2 s b R k ++ [fdCard (R.d k)] := by simp [recs2, List.range_succ]
theorem recs3_zero (s b : Int) (R : Rep) : recs3 s b R 0 = recs2 s b R R.n2 := by simp [recs3]
theorem recs3_succ (s b : Int) (R : Rep) (k : Nat) : recs3 s b R (k + 1) = recs3 s b R k ++ [fdEdit (R.e k)] := by simp [recs3, List.range_succ]
theorem recsOf_length (s b : Int) (R : Rep) : (recsOf s b R).length = 1 + R.n1 + R.n2 + R.n3 := by simp [recsOf, recs3, recs2, recs1]; omega

/-- Few records, and numbers and texts that may be written. -/
structure Fit (R : Rep) : Prop where
  n1 : R.n1 ≤ 1000000
  n2 : R.n2 ≤ 1000000
  n3 : R.n3 ≤ 1000000
  c1 : ∀ i, i < R.n1 → Num (R.c i).site ∧ Num (R.c i).count
  d1 : ∀ i, i < R.n2 → Num (R.d i).id ∧ Num (R.d i).site ∧ Num (R.d i).count ∧ (R.d i).text.size ≤ 60
  e1 : ∀ i, i < R.n3 → Num (R.e i).id ∧ (R.e i).text.size ≤ 60

abbrev lnkA (s b : Int) (R : Rep) (a1 a2 a3 : Option Addr) (k1 k2 k3 : Nat) : Array Value := #[.int .i64 s, .int .i64 b, .slice a1 R.n1 k1, .slice a2 R.n2 k2, .slice a3 R.n3 k3]
abbrev BoxL (w : World) (s b : Int) (R : Rep) (a1 a2 a3 : Option Addr) (k1 k2 k3 : Nat) (wr : World) : Prop := Below (w.heap.size + 1) (w.alloc (.cells (lnkA s b R a1 a2 a3 k1 k2 k3) 45)) wr
theorem BoxL.cells {w : World} {s b : Int} {R : Rep} {a1 a2 a3 : Option Addr} {k1 k2 k3 : Nat} {wr : World} (hb : BoxL w s b R a1 a2 a3 k1 k2 k3 wr) :
    wr.cell? ⟨w.heap.size, 0, none⟩ = some (.int .i64 s) ∧ wr.cell? ⟨w.heap.size, 1, none⟩ = some (.int .i64 b) ∧ wr.cell? ⟨w.heap.size, 2, none⟩ = some (.slice a1 R.n1 k1) ∧ wr.cell? ⟨w.heap.size, 3, none⟩ = some (.slice a2 R.n2 k2) ∧ wr.cell? ⟨w.heap.size, 4, none⟩ = some (.slice a3 R.n3 k3) :=
  ⟨boxN hb 0, boxN hb 1, boxN hb 2, boxN hb 3, boxN hb 4⟩

set_option maxRecDepth 100000 in
set_option maxHeartbeats 4000000 in
theorem recordsOf_any (s b : Int) (R : Rep) (a1 a2 a3 : Option Addr) (k1 k2 k3 : Nat) (w : World) (hR : Has w R a1 a2 a3) (hF : Fit R) (hs : Num s) (hb1 : 0 ≤ b) (hb2 : b ≤ 4294967295) :
    Calls Try.prog 47 #[.agg (lnkA s b R a1 a2 a3 k1 k2 k3)] w fun e w' => ∃ ad cap N, e = .returned (.slice ad N cap) ∧ N = (recsOf s b R).length ∧ Vec w' w.heap.size 9 1 ad N cap ((recsOf s b R).map fun f => Value.string (str (recF f))) ∧ Below w.heap.size w w' := by
  have m1 := hF.n1; have m2 := hF.n2; have m3 := hF.n3
  have h0 : BoxL w s b R a1 a2 a3 k1 k2 k3 (w.alloc (.cells (lnkA s b R a1 a2 a3 k1 k2 k3) 45)) := Below.refl _ _
  go_enter Try.func47, Try.ntmps47
  go_wp2_with fail
  refine (head_any s b _ hs hb1 hb2).mono ?_
  rintro e w1 ⟨rfl, hh⟩
  have h1 : BoxL w s b R a1 a2 a3 k1 k2 k3 w1 := box_step h0 hh
  clear hh h0
  have z1 : w.heap.size + 1 ≤ w1.heap.size := by have := h1.size; simpa using this
  go_wp2_with fail
  go_loopw [4, 5, 6] (fun v u _ wr => ∃ (k : Nat) (ad : Option Addr) (cap N : Nat), k ≤ R.n1 ∧ u = .int .i64 k ∧ v = .slice ad N cap ∧ N = 1 + k ∧ Vec wr (w.heap.size + 1) 9 1 ad N cap ((recs1 s b R k).map fun f => Value.string (str (recF f))) ∧ BoxL w s b R a1 a2 a3 k1 k2 k3 wr) (fun _ u _ _ => R.n1 - (intOf u).toNat)
  case atStart => exact ⟨0, _, _, 1, Nat.zero_le _, rfl, rfl, rfl, Vec.lit w1 _ _ _ 1 [.string (str (recHead s b))] z1 (by omega) rfl, h1.alloc z1 _⟩
  case round =>
    clear h1 z1
    obtain ⟨k, ad, cap, N, hk, rfl, rfl, hN, hv, hb⟩ := hrel
    have HN : Hid (N = 1 + k) := hN
    have hNb : N ≤ 1000001 := by omega
    clear hN
    obtain ⟨x0, x1, x2, x3, x4⟩ := hb.cells
    by_cases hlt : k < R.n1
    · obtain ⟨bb, o, hbl, hix, cs, cc⟩ := (hR.below (box_old hb)).l1.clock k1 hlt
      obtain ⟨f1, f2⟩ := hF.c1 k hlt
      go_wp2_with fail
      refine (clock_any (R.c k) _ f1 f2).mono ?_
      rintro e w1 ⟨rfl, hh⟩
      have h1 : BoxL w s b R a1 a2 a3 k1 k2 k3 w1 := box_step hb hh
      have hv1 := hv.keep hh
      clear hh hv hb x0 x1 x2 x3 x4
      have z1 : w.heap.size + 1 ≤ w1.heap.size := by have := h1.size; simpa using this
      go_wp2_with (at_builtin; refine wpList_push (by rfl) _ _ 33 (by rfl) (w.heap.size + 1) 9 1 16 (.string ⟨#[]⟩) Try.underlying33 (by kernel_rfl) rfl (by decide) ad N cap _ (by rfl) (hv1.keep ((Below.refl _ _).alloc (Nat.le_refl _) _)) _ _ [.string (str (recClock (R.c k)))] (by rfl) rfl ?_ ?_ ?_ ?_ ?_ ?_; exact new_cells _ _ _; (simp [Value.oneCell']); (omega); (omega); (simp; omega); intro ad' cap' w' hv' hb' hs')
      have h2 : BoxL w s b R a1 a2 a3 k1 k2 k3 w' := (h1.alloc z1 _).trans hb'
      have hv2 : Vec w' (w.heap.size + 1) 9 1 ad' (N + 1) cap' ((recs1 s b R (k + 1)).map fun f => Value.string (str (recF f))) := by
        rw [recs1_succ, List.map_append]; exact hv'
      go_roundw
      case rel => exact ⟨k + 1, ad', cap', N + 1, by omega, by go_num, rfl, by have := HN.out; omega, hv2, h2⟩
      case measure => simp [intOf]; omega
    · have e1 : k = R.n1 := by omega
      have hv0 : Vec wr (w.heap.size + 1) 9 1 ad N cap ((recs2 s b R 0).map fun f => Value.string (str (recF f))) := by
        rw [recs2_zero, ← e1]; exact hv
      have N1 : Hid (N = 1 + R.n1) := by have := HN.out; show _ = _; omega
      clear e1 hv HN hk
      go_wp2_with fail
      go_loopw [4, 7, 8] (fun v u _ wr => ∃ (k : Nat) (ad : Option Addr) (cap N : Nat), k ≤ R.n2 ∧ u = .int .i64 k ∧ v = .slice ad N cap ∧ N = 1 + R.n1 + k ∧ Vec wr (w.heap.size + 1) 9 1 ad N cap ((recs2 s b R k).map fun f => Value.string (str (recF f))) ∧ BoxL w s b R a1 a2 a3 k1 k2 k3 wr) (fun _ u _ _ => R.n2 - (intOf u).toNat)
      case atStart => exact ⟨0, _, _, N, Nat.zero_le _, rfl, rfl, N1.out, hv0, hb⟩
      case round =>
        clear hv0 hb x0 x1 x2 x3 x4 N1 hNb hlt
        obtain ⟨k, ad, cap, N, hk, rfl, rfl, hN, hv, hb⟩ := hrel
        have HN : Hid (N = 1 + R.n1 + k) := hN
        have hNb : N ≤ 2000001 := by omega
        clear hN
        obtain ⟨x0, x1, x2, x3, x4⟩ := hb.cells
        by_cases hlt : k < R.n2
        · obtain ⟨bb, o, hbl, hix, c1, c2, c3, c4, c5⟩ := (hR.below (box_old hb)).l2.card k2 hlt
          obtain ⟨f1, f2, f3, f4⟩ := hF.d1 k hlt
          go_wp2_with fail
          refine (card_any (R.d k) _ f1 f2 f3 (by omega)).mono ?_
          rintro e w1 ⟨rfl, hh⟩
          have h1 : BoxL w s b R a1 a2 a3 k1 k2 k3 w1 := box_step hb hh
          have hv1 := hv.keep hh
          clear hh hv hb x0 x1 x2 x3 x4
          have z1 : w.heap.size + 1 ≤ w1.heap.size := by have := h1.size; simpa using this
          go_wp2_with (at_builtin; refine wpList_push (by rfl) _ _ 33 (by rfl) (w.heap.size + 1) 9 1 16 (.string ⟨#[]⟩) Try.underlying33 (by kernel_rfl) rfl (by decide) ad N cap _ (by rfl) (hv1.keep ((Below.refl _ _).alloc (Nat.le_refl _) _)) _ _ [.string (str (recCard (R.d k)))] (by rfl) rfl ?_ ?_ ?_ ?_ ?_ ?_; exact new_cells _ _ _; (simp [Value.oneCell']); (omega); (omega); (simp; omega); intro ad' cap' w' hv' hb' hs')
          have h2 : BoxL w s b R a1 a2 a3 k1 k2 k3 w' := (h1.alloc z1 _).trans hb'
          have hv2 : Vec w' (w.heap.size + 1) 9 1 ad' (N + 1) cap' ((recs2 s b R (k + 1)).map fun f => Value.string (str (recF f))) := by
            rw [recs2_succ, List.map_append]; exact hv'
          go_roundw
          case rel => exact ⟨k + 1, ad', cap', N + 1, by omega, by go_num, rfl, by have := HN.out; omega, hv2, h2⟩
          case measure => simp [intOf]; omega
        · have e1 : k = R.n2 := by omega
          have hv0 : Vec wr (w.heap.size + 1) 9 1 ad N cap ((recs3 s b R 0).map fun f => Value.string (str (recF f))) := by
            rw [recs3_zero, ← e1]; exact hv
          have N1 : Hid (N = 1 + R.n1 + R.n2) := by have := HN.out; show _ = _; omega
          clear e1 hv HN hk
          go_wp2_with fail
          go_loopw [4, 9, 10] (fun v u _ wr => ∃ (k : Nat) (ad : Option Addr) (cap N : Nat), k ≤ R.n3 ∧ u = .int .i64 k ∧ v = .slice ad N cap ∧ N = 1 + R.n1 + R.n2 + k ∧ Vec wr (w.heap.size + 1) 9 1 ad N cap ((recs3 s b R k).map fun f => Value.string (str (recF f))) ∧ BoxL w s b R a1 a2 a3 k1 k2 k3 wr) (fun _ u _ _ => R.n3 - (intOf u).toNat)
          case atStart => exact ⟨0, _, _, N, Nat.zero_le _, rfl, rfl, N1.out, hv0, hb⟩
          case round =>
            clear hv0 hb x0 x1 x2 x3 x4 N1 hNb hlt
            obtain ⟨k, ad, cap, N, hk, rfl, rfl, hN, hv, hb⟩ := hrel
            have HN : Hid (N = 1 + R.n1 + R.n2 + k) := hN
            have hNb : N ≤ 3000001 := by omega
            clear hN
            obtain ⟨x0, x1, x2, x3, x4⟩ := hb.cells
            by_cases hlt : k < R.n3
            · obtain ⟨bb, o, hbl, hix, c1, c2⟩ := (hR.below (box_old hb)).l3.edit k3 hlt
              obtain ⟨f1, f4⟩ := hF.e1 k hlt
              go_wp2_with fail
              refine (edit_any (R.e k) _ f1 (by omega)).mono ?_
              rintro e w1 ⟨rfl, hh⟩
              have h1 : BoxL w s b R a1 a2 a3 k1 k2 k3 w1 := box_step hb hh
              have hv1 := hv.keep hh
              clear hh hv hb x0 x1 x2 x3 x4
              have z1 : w.heap.size + 1 ≤ w1.heap.size := by have := h1.size; simpa using this
              go_wp2_with (at_builtin; refine wpList_push (by rfl) _ _ 33 (by rfl) (w.heap.size + 1) 9 1 16 (.string ⟨#[]⟩) Try.underlying33 (by kernel_rfl) rfl (by decide) ad N cap _ (by rfl) (hv1.keep ((Below.refl _ _).alloc (Nat.le_refl _) _)) _ _ [.string (str (recEdit (R.e k)))] (by rfl) rfl ?_ ?_ ?_ ?_ ?_ ?_; exact new_cells _ _ _; (simp [Value.oneCell']); (omega); (omega); (simp; omega); intro ad' cap' w' hv' hb' hs')
              have h2 : BoxL w s b R a1 a2 a3 k1 k2 k3 w' := (h1.alloc z1 _).trans hb'
              have hv2 : Vec w' (w.heap.size + 1) 9 1 ad' (N + 1) cap' ((recs3 s b R (k + 1)).map fun f => Value.string (str (recF f))) := by
                rw [recs3_succ, List.map_append]; exact hv'
              go_roundw
              case rel => exact ⟨k + 1, ad', cap', N + 1, by omega, by go_num, rfl, by have := HN.out; omega, hv2, h2⟩
              case measure => simp [intOf]; omega
            · have e1 : k = R.n3 := by omega
              have hv0 : Vec wr (w.heap.size + 1) 9 1 ad N cap ((recsOf s b R).map fun f => Value.string (str (recF f))) := by
                unfold recsOf; rw [← e1]; exact hv
              have N1 : Hid (N = (recsOf s b R).length) := by have := HN.out; show _ = _; rw [recsOf_length]; omega
              clear e1 hv HN hk
              go_wp2_with fail
              go_ret
              exact ⟨ad, cap, N, rfl, N1.out, hv0.mono (by omega), box_old hb⟩
end Go.Proofs.Ytdjpkgaicmklmab

/- A link's records in their order: the reference's records, walked. -/
namespace Go.Proofs.Ytdjpkgaicmklmab
open Go.RowKit

def fcells (l : List Fd) : List Value := (l.map Fd.cells).flatten
theorem fcells_append (a b : List Fd) : fcells (a ++ b) = fcells a ++ fcells b := by simp [fcells]
theorem fcells_one (f : Fd) : fcells [f] = f.cells := by simp [fcells]

theorem new_cells2 (w : World) (o : Obj) (cs : List Value) (t : TypeId) : ∀ j u, cs[j]? = some u → ((w.alloc o).alloc (.cells cs.toArray t)).cell? ((⟨w.heap.size + 1, 0, none⟩ : Addr).add j) = some u := by
  intro j u h
  have := new_cells (w.alloc o) cs t j u h
  rwa [World.size_alloc] at this

end Go.Proofs.Ytdjpkgaicmklmab

/- The reference's bits of bytes, walked. -/
namespace Go.Proofs.Ytdjpkgaicmklmab
open Go.RowKit

end Go.Proofs.Ytdjpkgaicmklmab

/- Long division of bits comes to the register: the plain mathematics. -/
namespace Go.Proofs.Ytdjpkgaicmklmab

/-- Bit j of the register, the highest first; behind the 32nd nothing. -/
def reg (c j : Nat) : Bool := decide (j < 32) && c.testBit (31 - j)
/-- Bit t of the bytes; noughts behind. -/
def msg (m : List Bool) (t : Nat) : Bool := m.getD t false
/-- What long division holds at t behind i steps. -/
def lfun (p : Nat) (m : List Bool) (i t : Nat) : Bool := reg (crcB p 4294967295 (m.take i)) (t - i) != msg m t
/-- .. and k places into the i-th step, where the divisor is laid upon it. -/
def gfun (p : Nat) (m : List Bool) (i k t : Nat) : Bool := lfun p m i t != (decide (i + 32 < t + k ∧ t ≤ i + 32) && p.testBit (i + 32 - t))

theorem reg_ones (j : Nat) : reg 4294967295 j = decide (j < 32) := by
  unfold reg
  by_cases h : j < 32
  · have : (4294967295 : Nat).testBit (31 - j) = true := by
      rw [show (4294967295 : Nat) = 2 ^ 32 - 1 by decide, Nat.testBit_two_pow_sub_one]; simp; omega
    simp [h, this]
  · simp [h]

theorem lfun_start (p : Nat) (m : List Bool) (t : Nat) : lfun p m 0 t = (decide (t < 32) != msg m t) := by
  unfold lfun; simp [crcB, reg_ones]

theorem crcB_take (p : Nat) (m : List Bool) (i : Nat) (h : i < m.length) : crcB p 4294967295 (m.take (i + 1)) = cst p (crcB p 4294967295 (m.take i)) m[i] := by
  rw [List.take_succ_eq_append_getElem h, crcB_append]; rfl

theorem lfun_top (p : Nat) (m : List Bool) (i : Nat) (h : i < m.length) : lfun p m i i = ((crcB p 4294967295 (m.take i)).testBit 31 != m[i]) := by
  unfold lfun reg msg
  simp [List.getD, List.getElem?_eq_getElem h]

theorem shl_bit (c j : Nat) (hj : j < 32) : (2 * c % 4294967296).testBit (31 - j) = reg c (j + 1) := by
  rw [show (4294967296 : Nat) = 2 ^ 32 by decide, Nat.testBit_mod_two_pow]
  unfold reg
  by_cases h : j + 1 < 32
  · have e : 31 - j = (31 - (j + 1)) + 1 := by omega
    rw [e, Nat.testBit_succ, Nat.mul_div_cancel_left _ (by omega)]
    simp [h]
    intro _
    omega
  · have e : 31 - j = 0 := by omega
    rw [e]
    simp [h]

/-- A step at which the first bit is not set. -/
theorem lfun_no (p : Nat) (m : List Bool) (i t : Nat) (h : i < m.length) (ht : i < t) (h0 : lfun p m i i = false) : lfun p m (i + 1) t = lfun p m i t := by
  rw [lfun_top p m i h] at h0
  unfold lfun
  rw [crcB_take p m i h]
  unfold cst
  rw [h0, if_neg (by simp)]
  have e : t - i = (t - (i + 1)) + 1 := by omega
  rw [e]
  congr 1
  by_cases hj : t - (i + 1) < 32
  · rw [← shl_bit _ _ hj]; unfold reg; simp [hj]
  · unfold reg; simp [hj]; omega

/-- A step at which it is. -/
theorem lfun_yes (p : Nat) (m : List Bool) (i t : Nat) (h : i < m.length) (ht : i < t) (h0 : lfun p m i i = true) : lfun p m (i + 1) t = gfun p m i 32 t := by
  rw [lfun_top p m i h] at h0
  unfold gfun lfun
  rw [crcB_take p m i h]
  unfold cst
  rw [h0, if_pos rfl]
  have e : t - i = (t - (i + 1)) + 1 := by omega
  rw [e]
  by_cases hj : t - (i + 1) < 32
  · have e2 : i + 32 - t = 31 - (t - (i + 1)) := by omega
    have e3 : (decide (i + 32 < t + 32 ∧ t ≤ i + 32)) = true := by simp; omega
    rw [e2, e3, ← shl_bit _ _ hj]
    unfold reg
    rw [Nat.testBit_xor]
    simp only [hj, decide_true, Bool.true_and]
    generalize (2 * _ % 4294967296).testBit _ = a
    generalize p.testBit _ = b
    generalize msg m t = c
    cases a <;> cases b <;> cases c <;> rfl
  · have e3 : (decide (i + 32 < t + 32 ∧ t ≤ i + 32)) = false := by simp; omega
    rw [e3]
    unfold reg
    have h1 : ¬ t - (i + 1) + 1 < 32 := by omega
    simp [hj, h1]

theorem gfun_start (p : Nat) (m : List Bool) (i t : Nat) : gfun p m i 0 t = lfun p m i t := by
  unfold gfun
  have : (decide (i + 32 < t + 0 ∧ t ≤ i + 32)) = false := by simp
  rw [this]; simp

theorem gfun_step (p : Nat) (m : List Bool) (i k t : Nat) (hk : k < 32) : gfun p m i (k + 1) t = if t = i + 32 - k ∧ p.testBit k = true then !gfun p m i k t else gfun p m i k t := by
  unfold gfun
  by_cases ht : t = i + 32 - k
  · have e1 : (decide (i + 32 < t + (k + 1) ∧ t ≤ i + 32)) = true := by simp; omega
    have e2 : (decide (i + 32 < t + k ∧ t ≤ i + 32)) = false := by simp; omega
    have e3 : i + 32 - t = k := by omega
    rw [e1, e2, e3]
    cases hb : p.testBit k
    · simp
    · simp [ht]
  · have e1 : (decide (i + 32 < t + (k + 1) ∧ t ≤ i + 32)) = (decide (i + 32 < t + k ∧ t ≤ i + 32)) := by
      rw [Bool.eq_iff_iff]; simp; omega
    rw [e1, if_neg (fun h => ht h.1)]

/-- What is read at the end. -/
theorem lfun_end (p : Nat) (m : List Bool) (k : Nat) (hk : k < 32) : lfun p m m.length (m.length + k) = (crcB p 4294967295 m).testBit (31 - k) := by
  unfold lfun reg msg
  have e1 : m.length + k - m.length = k := by omega
  rw [e1, List.take_of_length_le (Nat.le_refl _)]
  simp [hk, List.getD]

theorem gather (x k : Nat) (hk : k < 32) : x / 2 ^ (32 - (k + 1)) = 2 * (x / 2 ^ (32 - k)) + (x.testBit (31 - k)).toNat := by
  have e : 32 - k = (31 - k) + 1 := by omega
  have e2 : 32 - (k + 1) = 31 - k := by omega
  rw [e, e2, Nat.pow_succ, ← Nat.div_div_eq_div_mul, Nat.testBit_eq_decide_div_mod_eq]
  generalize x / 2 ^ (31 - k) = y
  by_cases h : y % 2 = 1
  · simp [h]; omega
  · simp [h]; omega

theorem not_bit (c k : Nat) (hk : k < 32) : (c ^^^ 4294967295).testBit (31 - k) = !c.testBit (31 - k) := by
  rw [Nat.testBit_xor]
  have : (4294967295 : Nat).testBit (31 - k) = true := by
    rw [show (4294967295 : Nat) = 2 ^ 32 - 1 by decide, Nat.testBit_two_pow_sub_one]; simp; omega
  rw [this]; simp
end Go.Proofs.Ytdjpkgaicmklmab

/- The reference's long division, walked. -/
namespace Go.Proofs.Ytdjpkgaicmklmab
open Go.RowKit

/-- A list by its places. -/
def Fun (L : List Bool) (N a : Nat) (F : Nat → Bool) : Prop := L.length = N ∧ ∀ t, a ≤ t → t < N → L[t]? = some (F t)
theorem Fun.set {L : List Bool} {N a : Nat} {F G : Nat → Bool} (h : Fun L N a F) (i : Nat) (y : Bool) (hi : i < N) (hG : ∀ t, a ≤ t → t < N → G t = if t = i then y else F t) : Fun (L.set i y) N a G := by
  refine ⟨by simpa using h.1, fun t ha ht => ?_⟩
  rw [hG t ha ht]
  have := h.1
  by_cases e : t = i
  · subst e; rw [List.getElem?_set_self (by omega), if_pos rfl]
  · rw [List.getElem?_set_ne (fun h => e h.symm), if_neg e]; exact h.2 t ha ht

theorem fun_start (m : List Bool) : Fun (m ++ List.replicate 32 false) (m.length + 32) 0 (fun t => decide (t < 0) != msg m t) := by
  refine ⟨by simp, fun t _ ht => ?_⟩
  unfold msg
  by_cases h : t < m.length
  · rw [List.getElem?_append_left h]; simp [List.getD, List.getElem?_eq_getElem h]
  · rw [List.getElem?_append_right (by omega), List.getElem?_replicate, if_pos (by omega)]
    simp [List.getD, List.getElem?_eq_none (show m.length ≤ t by omega)]

end Go.Proofs.Ytdjpkgaicmklmab

/- A record's bytes and a frame: the reference's written and Frame, walked. -/
namespace Go.Proofs.Ytdjpkgaicmklmab
open Go.RowKit
attribute [local go_sem] str_size str_append mk_append_str str_append_mk

abbrev BoxF (w : World) (f : Fd) (wr : World) : Prop := Below (w.heap.size + 1) (w.alloc (.cells f.cells.toArray 117)) wr
theorem SF {w : World} {f : Fd} {wr : World} (hb : BoxF w f wr) :
    wr.cell? ⟨w.heap.size, 1, none⟩ = some (.int .i64 f.kind) ∧ wr.cell? ⟨w.heap.size, 2, none⟩ = some (.int .i64 f.seq) ∧ wr.cell? ⟨w.heap.size, 3, none⟩ = some (.int .i64 f.base) ∧ wr.cell? ⟨w.heap.size, 4, none⟩ = some (.int .i64 f.id) ∧
    wr.cell? ⟨w.heap.size, 5, none⟩ = some (.int .i64 f.site) ∧ wr.cell? ⟨w.heap.size, 6, none⟩ = some (.int .i64 f.count) ∧ wr.cell? ⟨w.heap.size, 7, none⟩ = some (.bool f.gone) ∧ wr.cell? ⟨w.heap.size, 8, none⟩ = some (.string f.text) :=
  ⟨boxN hb 1, boxN hb 2, boxN hb 3, boxN hb 4, boxN hb 5, boxN hb 6, boxN hb 7, boxN hb 8⟩

theorem add_str {P : Program} (a b c : List UInt8) (hc : a ++ b = c) (h : c.length ≤ 9223372036854775807) (w : World) : (Op.stringOp .add (str a) (str b)).run P w = .ok (.string (str c)) w := by
  subst hc
  rw [← str_append]
  exact run_string_add_sum _ _ _ (by rw [str_size, str_size]; simpa using h)

/-- A record that may be written. -/
def FdOk (f : Fd) : Prop :=
  (∃ s b, f = fdHead s b ∧ Num s ∧ 0 ≤ b ∧ b ≤ 4294967295) ∨ (∃ c : Ck, f = fdClock c ∧ Num c.site ∧ Num c.count) ∨
  (∃ c : Cd, f = fdCard c ∧ Num c.id ∧ Num c.site ∧ Num c.count ∧ c.text.size ≤ 60) ∨ (∃ c : Ed, f = fdEdit c ∧ Num c.id ∧ c.text.size ≤ 60)

end Go.Proofs.Ytdjpkgaicmklmab

/- The program's sums: divideByte, remainder, Sum, Seal, walked. -/
namespace Go.Proofs.Ytdjpkgaicmklmab
open Go.RowKit

theorem div1_i64 (p : Nat) (y : Nat) (hp : p < 4294967296) (hy : y < 4294967296) (h : (4294967295 : Int) < (y : Int) * 2) : bits .xor .i64 ((y : Int) * 2) ((p : Int) + 4294967296) = ((div1 p y : Nat) : Int) := by
  have e : ((y : Int) * 2) = ((2 * y : Nat) : Int) := by omega
  have e2 : ((p : Int) + 4294967296) = ((p + 4294967296 : Nat) : Int) := by omega
  rw [e, e2, bits_xor_i64 _ _ (by omega) (by omega)]
  unfold div1
  rw [if_pos (by omega)]
theorem div1_small (p : Nat) (y : Nat) (h : (y : Int) * 2 ≤ 4294967295) : (y : Int) * 2 = ((div1 p y : Nat) : Int) := by
  unfold div1
  rw [if_neg (by omega)]; omega
theorem div1_lt {p y : Nat} (hp : p < 4294967296) (hy : y < 4294967296) : div1 p y < 4294967296 := by
  have := div1_step p y false [] hp hy (by simp)
  simp [high] at this
  rw [this]
  exact cst_lt hp

set_option maxHeartbeats 1000000 in
theorem divideByte_any (x p : Nat) (w : World) (h1 : x < 4294967296) (h3 : p < 4294967296) (P' : Int) (hP : P' = (p : Int) + 4294967296) :
    Calls Try.prog 96 #[.int .i64 x, .int .i64 P'] w fun e w' => e = .returned (.int .i64 ((divN p 8 x : Nat) : Int)) ∧ w' = w := by
  subst hP
  go_enter Try.func96, Try.ntmps96
  go_wp2
  go_loop [0, 5] (fun v i => ∃ (k : Nat) (y : Nat), k ≤ 8 ∧ i = .int .i64 k ∧ v = .int .i64 (y : Int) ∧ y < 4294967296 ∧ divN p (8 - k) y = divN p 8 x) (fun _ i => 8 - (intOf i).toNat)
  case atStart => exact ⟨0, x, Nat.zero_le _, rfl, rfl, h1, rfl⟩
  case round =>
    obtain ⟨k, y, hk, rfl, rfl, hy1, hd⟩ := hrel
    have HD : Hid (divN p (8 - k) y = divN p 8 x) := hd
    clear hd
    by_cases hlt : k < 8
    · have e0 : divN p (8 - (k + 1)) (div1 p y) = divN p 8 x := by
        rw [← HD.out, show 8 - k = (8 - (k + 1)) + 1 by omega, divN]
      have E0 : Hid (divN p (8 - (k + 1)) (div1 p y) = divN p 8 x) := e0
      clear e0 HD
      go_wp2
      · have e1 := div1_i64 p y h3 hy1 (by assumption)
        go_round
        case rel => exact ⟨k + 1, div1 p y, by omega, by go_num, by rw [e1], div1_lt h3 hy1, E0.out⟩
        case measure => simp [intOf]; omega
      · have e1 := div1_small p y (by assumption)
        go_round
        case rel => exact ⟨k + 1, div1 p y, by omega, by go_num, by rw [e1], div1_lt h3 hy1, E0.out⟩
        case measure => simp [intOf]; omega
    · have e1 : k = 8 := by omega
      subst e1
      go_wp2
      go_ret
      exact ⟨ret_int (by rw [← HD.out]; rfl), rfl⟩

theorem take_bytes (s : List UInt8) (k : Nat) (h : k < s.length) : s.take (k + 1) = s.take k ++ [s[k]] := List.take_succ_eq_append_getElem h

set_option maxHeartbeats 2000000 in
theorem remainder_any (s : List UInt8) (p : Nat) (w : World) (hs : s.length ≤ 9223372036854775807) (h3 : p < 4294967296) (P' : Int) (hP : P' = (p : Int) + 4294967296) :
    Calls Try.prog 79 #[.string (str s), .int .i64 P'] w fun e w' => e = .returned (.int .i64 ((crc p s : Nat) : Int)) ∧ w' = w := by
  subst hP
  have hz := str_size s
  have HZ : Hid ((str s).size = s.length) := hz
  clear hz
  have hs2 : (str s).size ≤ 9223372036854775807 := by rw [HZ.out]; exact hs
  go_enter Try.func79, Try.ntmps79
  go_wp2
  go_loop [5, 6] (fun v i => ∃ (k : Nat) (r : Nat), k ≤ (str s).size ∧ i = .int .i64 k ∧ v = .int .i64 (r : Int) ∧ r < 4294967296 ∧ r = crcB p 4294967295 (allBits (s.take k))) (fun _ i => (str s).size - (intOf i).toNat)
  case atStart => exact ⟨0, 4294967295, Nat.zero_le _, rfl, rfl, by omega, rfl⟩
  case round =>
    obtain ⟨k, r, hk, rfl, rfl, hr1, hr⟩ := hrel
    have HR : Hid (r = crcB p 4294967295 (allBits (s.take k))) := hr
    clear hr
    by_cases hlt : k < (str s).size
    · have hlt2 : k < s.length := by rw [← HZ.out]; exact hlt
      go_wp2_with fail
      have eb : wrap64 (wrap64 (((str s)[k]'hlt).toNat : Int) * 16777216) = ((s[k].toNat * 16777216 : Nat) : Int) := by
        have hb := (s[k]).toNat_lt
        have e0 : ((str s)[k]'hlt).toNat = s[k].toNat := rfl
        rw [e0]
        unfold wrap64
        omega
      have hb := (s[k]).toNat_lt
      have ex : bits BinOp.xor IntKind.i64 (r : Int) (wrap64 (wrap64 (((str s)[k]'hlt).toNat : Int) * 16777216)) = ((r ^^^ (s[k].toNat * 16777216) : Nat) : Int) := by
        rw [eb, bits_xor_i64 _ _ (by omega) (by omega)]
      rw [ex]
      have hx : r ^^^ (s[k].toNat * 16777216) < 4294967296 := Nat.xor_lt_two_pow (n := 32) hr1 (by omega)
      have hd := divN_byte p h3 s[k] r hr1
      have HD : Hid (divN p 8 (r ^^^ (s[k].toNat * 16777216)) = crcB p r (bitsOf s[k])) := hd
      clear hd ex eb
      generalize hX : r ^^^ (s[k].toNat * 16777216) = X at *
      clear hX
      refine (divideByte_any X p _ hx h3 _ rfl).mono ?_
      rintro e w' ⟨rfl, rfl⟩
      have hlt3 : divN p 8 X < 4294967296 := by rw [HD.out]; exact crcB_lt h3 _ hr1
      have hfin : divN p 8 X = crcB p 4294967295 (allBits (s.take (k + 1))) := by
        rw [HD.out, HR.out, take_bytes s k hlt2]
        rw [allBits_append, allBits_one, crcB_append]
      have HF : Hid (divN p 8 X = crcB p 4294967295 (allBits (s.take (k + 1)))) := hfin
      clear hfin HD HR
      generalize divN p 8 X = Y at *
      go_wp2_with fail
      go_round
      case rel => exact ⟨k + 1, Y, by omega, by go_num, rfl, hlt3, HF.out⟩
      case measure => simp [intOf]; omega
    · have e1 : k = s.length := by rw [← HZ.out]; omega
      have e2 : crc p s = r ^^^ 4294967295 := by
        unfold crc; rw [HR.out, e1, List.take_of_length_le (Nat.le_refl _)]
      have e3 : bits .xor .i64 (r : Int) 4294967295 = ((crc p s : Nat) : Int) := by
        rw [e2, ← bits_xor_i64 r 4294967295 (by omega) (by omega)]; rfl
      have E3 : Hid (bits .xor .i64 (r : Int) 4294967295 = ((crc p s : Nat) : Int)) := e3
      clear e1 e2 e3 HR
      go_wp2_with fail
      go_ret
      exact ⟨ret_int E3.out, rfl⟩

set_option maxHeartbeats 1000000 in
theorem sum_any (s : List UInt8) (w : World) (hs : s.length ≤ 9223372036854775807) :
    Calls Try.prog 51 #[.string (str s)] w fun e w' => e = .returned (.int .i64 ((crc pSum s : Nat) : Int)) ∧ w' = w := by
  go_enter Try.func51, Try.ntmps51
  go_wp2_with fail
  refine (remainder_any s pSum _ hs (by decide) _ (by decide)).mono ?_
  rintro e w' ⟨rfl, rfl⟩
  go_wp2_with fail
  go_ret
  exact ⟨rfl, rfl⟩
set_option maxHeartbeats 1000000 in
theorem seal_any (s : List UInt8) (w : World) (hs : s.length ≤ 9223372036854775807) :
    Calls Try.prog 49 #[.string (str s)] w fun e w' => e = .returned (.int .i64 ((crc pSeal s : Nat) : Int)) ∧ w' = w := by
  go_enter Try.func49, Try.ntmps49
  go_wp2_with fail
  refine (remainder_any s pSeal _ hs (by decide) _ (by decide)).mono ?_
  rintro e w' ⟨rfl, rfl⟩
  go_wp2_with fail
  go_ret
  exact ⟨rfl, rfl⟩
end Go.Proofs.Ytdjpkgaicmklmab

/- Frames and bundles of both, walked. -/
namespace Go.Proofs.Ytdjpkgaicmklmab
open Go.RowKit
attribute [local go_sem] str_size str_append mk_append_str str_append_mk

/-- A frame. -/
def frameB (r : List UInt8) : List UInt8 := 245 :: 95 :: (byt r.length :: (r ++ fourI (crc pSum (byt r.length :: r))))
/-- A bundle of records. -/
def bodyB (l : List Fd) : List UInt8 := 80 :: 82 :: 67 :: 49 :: l.flatMap (fun f => frameB (recF f))
def bundleB (l : List Fd) : List UInt8 := bodyB l ++ fourI (crc pSeal (bodyB l))

theorem frameB_length (r : List UInt8) : (frameB r).length = r.length + 7 := by simp [frameB, fourI]
theorem bodyB_succ (l : List Fd) (f : Fd) : bodyB (l ++ [f]) = bodyB l ++ frameB (recF f) := by simp [bodyB]

theorem recF_length {f : Fd} (h : FdOk f) : (recF f).length ≤ 100 := by
  rcases h with ⟨s, b, rfl, h1, h2, h3⟩ | ⟨c, rfl, h1, h2⟩ | ⟨c, rfl, h1, h2, h3, h4⟩ | ⟨c, rfl, h1, h2⟩
  · have := numB_length s
    rw [recF_head]; unfold recHead; split <;> simp [fourI] <;> omega
  · have := numB_length c.site; have := numB_length c.count
    rw [recF_clock]; unfold recClock; simp; omega
  · have := numB_length c.id; have := numB_length c.site; have := numB_length c.count
    rw [recF_card]; unfold recCard; simp
    have e : c.text.data.size = c.text.size := rfl
    omega
  · have := numB_length c.id
    rw [recF_edit]; unfold recEdit; simp
    have e : c.text.data.size = c.text.size := rfl
    omega

theorem bodyB_length (l : List Fd) (h : ∀ f, f ∈ l → FdOk f) : (bodyB l).length ≤ 4 + 107 * l.length := by
  have : ∀ l : List Fd, (∀ f, f ∈ l → FdOk f) → (l.flatMap (fun f => frameB (recF f))).length ≤ 107 * l.length := by
    intro l
    induction l with
    | nil => intro _; simp
    | cons f l ih =>
      intro h
      have h1 := recF_length (h f (by simp))
      have h2 := ih (fun x hx => h x (by simp [hx]))
      simp only [List.flatMap_cons, List.length_append, frameB_length, List.length_cons]
      omega
  have := this l h
  simp only [bodyB, List.length_cons]
  omega

theorem crc_le (p : Nat) (hp : p < 4294967296) (l : List UInt8) : 0 ≤ ((crc p l : Nat) : Int) ∧ ((crc p l : Nat) : Int) ≤ 4294967295 := by
  have := crc_lt hp l; omega

set_option maxRecDepth 100000 in
set_option maxHeartbeats 1000000 in
theorem frame_any (r : List UInt8) (w : World) (hr : r.length ≤ 255) :
    Calls Try.prog 48 #[.string (str r)] w fun e w' => e = .returned (.string (str (frameB r))) ∧ Below w.heap.size w w' := by
  have E : Hid (245 :: 95 :: (byt r.length :: (r ++ fourI (crc pSum (byt r.length :: r)))) = frameB r) := rfl
  have l4 : ∀ n, (fourI n).length ≤ 4 := fun _ => Nat.le_refl _
  go_enter Try.func48, Try.ntmps48
  go_wp2_with fail
  refine (oneByte_any _ _ (by omega) (by omega)).mono ?_
  rintro e w1 ⟨rfl, hb1⟩
  go_wp2_with fail
  refine (sum_any (byt r.length :: r) _ (by simp; omega)).mono ?_
  rintro e w2 ⟨rfl, rfl⟩
  obtain ⟨c1, c2⟩ := crc_le pSum (by decide) (byt r.length :: r)
  generalize crc pSum (byt r.length :: r) = C at *
  go_wp2_with fail
  refine (fourBytes_any _ _ c1 c2).mono ?_
  rintro e w3 ⟨rfl, hb3⟩
  have l5 := l4 (C : Int)
  generalize fourI (C : Int) = t at *
  clear l4
  go_wp2_with fail
  go_ret
  exact ⟨ret_str E.out, hb1.trans (hb3.mono hb1.size)⟩

theorem Fit.ok {R : Rep} (hF : Fit R) {s b : Int} (hs : Num s) (hb1 : 0 ≤ b) (hb2 : b ≤ 4294967295) : ∀ f, f ∈ recsOf s b R → FdOk f := by
  intro f h
  simp only [recsOf, recs3, recs2, recs1, List.mem_append, List.mem_cons, List.mem_map, List.mem_range] at h
  rcases h with ((rfl | ⟨i, hi, rfl⟩) | ⟨i, hi, rfl⟩) | ⟨i, hi, rfl⟩
  · exact Or.inl ⟨s, b, rfl, hs, hb1, hb2⟩
  · obtain ⟨g1, g2⟩ := hF.c1 i hi
    exact Or.inr (Or.inl ⟨_, rfl, g1, g2⟩)
  · obtain ⟨g1, g2, g3, g4⟩ := hF.d1 i hi
    exact Or.inr (Or.inr (Or.inl ⟨_, rfl, g1, g2, g3, g4⟩))
  · obtain ⟨g1, g2⟩ := hF.e1 i hi
    exact Or.inr (Or.inr (Or.inr ⟨_, rfl, g1, g2⟩))

set_option maxRecDepth 100000 in
set_option maxHeartbeats 4000000 in
theorem bundle_any (s b : Int) (R : Rep) (a1 a2 a3 : Option Addr) (k1 k2 k3 : Nat) (w : World) (hR : Has w R a1 a2 a3) (hF : Fit R) (hs : Num s) (hb1 : 0 ≤ b) (hb2 : b ≤ 4294967295) :
    Calls Try.prog 32 #[.agg (lnkA s b R a1 a2 a3 k1 k2 k3)] w fun e w' => e = .returned (.string (str (bundleB (recsOf s b R)))) ∧ Below w.heap.size w w' := by
  have m1 := hF.n1; have m2 := hF.n2; have m3 := hF.n3
  have h0 : BoxL w s b R a1 a2 a3 k1 k2 k3 (w.alloc (.cells (lnkA s b R a1 a2 a3 k1 k2 k3) 45)) := Below.refl _ _
  have hrec := recordsOf_any s b R a1 a2 a3 k1 k2 k3 (w.alloc (.cells (lnkA s b R a1 a2 a3 k1 k2 k3) 45)) (hR.below (box_old h0)) hF hs hb1 hb2
  go_enter Try.func32, Try.ntmps32
  go_wp2_with fail
  refine hrec.mono ?_
  rintro e w1 ⟨ad, cap, N, rfl, hN, hv, hh⟩
  have h1 := box_old (box_step h0 hh)
  clear hh h0 hrec
  have hok := hF.ok hs hb1 hb2
  have hNb : N ≤ 3000001 := by rw [hN, recsOf_length]; omega
  generalize hll : recsOf s b R = l at *
  have HLL : Hid (recsOf s b R = l) := hll
  clear hll
  have HN : Hid (N = l.length) := hN
  have HO : Hid (∀ f, f ∈ l → FdOk f) := hok
  clear hN hok
  go_wp2_with fail
  go_loopw [4, 5, 6] (fun v u _ wr => ∃ (k : Nat) (B : List UInt8), k ≤ N ∧ u = .int .i64 k ∧ v = .string (str B) ∧ B = bodyB (l.take k) ∧ B.length ≤ 400000000 ∧ Below w1.heap.size w1 wr) (fun _ u _ _ => N - (intOf u).toNat)
  case atStart => exact ⟨0, [80, 82, 67, 49], Nat.zero_le _, rfl, rfl, rfl, by simp, Below.refl _ _⟩
  case round =>
    obtain ⟨k, B, hk, rfl, rfl, hB, hBl, hb⟩ := hrel
    have HB : Hid (B = bodyB (l.take k)) := hB
    clear hB
    by_cases hlt : k < N
    · have hl : k < l.length := by rw [← HN.out]; exact hlt
      have hvr := hv.keep hb
      obtain ⟨bb, o, _, hbl, hix, hc, _, _⟩ := hvr.at (P := Try.prog) (t := 33) (by kernel_rfl) (by kernel_rfl) hlt (k : Int) rfl
      have hcell : wr.cell? ⟨bb, o, none⟩ = some (.string (str (recF l[k]))) := by
        have := hc 0 (by omega)
        rw [Nat.add_zero, Nat.mul_one, Nat.add_zero, List.getElem?_map, List.getElem?_eq_getElem hl] at this
        exact this
      have hfk := HO.out l[k] (List.getElem_mem hl)
      have hfl := recF_length hfk
      have hbod : bodyB (l.take (k + 1)) = B ++ frameB (recF l[k]) := by
        rw [List.take_succ_eq_append_getElem hl, bodyB_succ, HB.out]
      have hbl2 := bodyB_length (l.take (k + 1)) (fun f hf => HO.out f (List.mem_of_mem_take hf))
      rw [hbod] at hbl2
      have hfr := frameB_length (recF l[k])
      have hk3 : (l.take (k + 1)).length ≤ 3000001 := by rw [List.length_take]; have := HN.out; omega
      have hbl3 : (B ++ frameB (recF l[k])).length ≤ 400000000 := by omega
      have HD : Hid (bodyB (l.take (k + 1)) = B ++ frameB (recF l[k])) := hbod
      clear hc hbod hbl2 hk3 hvr HB hfk
      generalize recF l[k] = r at *
      have hfr2 : (frameB r).length ≤ 200 := by omega
      clear hfr
      go_wp2_with fail
      refine (frame_any r _ (by omega)).mono ?_
      rintro e w2 ⟨rfl, hh⟩
      have hb3 : Below w1.heap.size w1 w2 := hb.trans (hh.mono hb.size)
      clear hh
      generalize frameB r = fr at *
      rw [List.length_append] at hbl3
      go_wp2_with fail
      go_roundw
      case rel => exact ⟨k + 1, B ++ fr, by omega, by go_num, rfl, HD.out.symm, by simp; omega, hb3⟩
      case measure => simp [intOf]; omega
    · have e1 : k = N := by omega
      have E : Hid (B = bodyB l) := by
        have h := HB.out
        rw [e1, HN.out, List.take_of_length_le (Nat.le_refl _)] at h; exact h
      clear e1 HB
      go_wp2_with fail
      refine (seal_any B _ (by omega)).mono ?_
      rintro e w2 ⟨rfl, rfl⟩
      obtain ⟨c1, c2⟩ := crc_le pSeal (by decide) B
      have F : Hid (B ++ fourI (crc pSeal B) = bundleB l) := by show _ = _; rw [E.out]; rfl
      generalize crc pSeal B = C at *
      go_wp2_with fail
      refine (fourBytes_any _ _ c1 c2).mono ?_
      rintro e w3 ⟨rfl, hh⟩
      have l5 : (fourI (C : Int)).length ≤ 4 := Nat.le_refl _
      generalize fourI (C : Int) = t at *
      go_wp2_with fail
      go_ret
      exact ⟨ret_str (by rw [HLL.out]; exact F.out), h1.trans ((hb.trans (hh.mono hb.size)).mono h1.size)⟩
end Go.Proofs.Ytdjpkgaicmklmab

/- A bundle is of one list of records: numbers end themselves, frames tell their length. -/
namespace Go.Proofs.Ytdjpkgaicmklmab
open Go.RowKit

theorem byt_inj {a b : Int} (ha : 0 ≤ a) (ha2 : a < 256) (hb : 0 ≤ b) (hb2 : b < 256) (h : byt a = byt b) : a = b := by
  unfold byt at h
  have := congrArg UInt8.toNat h
  simp only [UInt8.toNat_ofNat'] at this
  omega

/-- Numbers end themselves. -/
theorem numI_free : ∀ (k : Nat) (a b : Int), 0 ≤ a → 0 ≤ b → a < 128 ^ (k + 1) → b < 128 ^ (k + 1) → ∀ x y : List UInt8, (numI k a).map byt ++ x = (numI k b).map byt ++ y → a = b ∧ x = y
  | 0, a, b, ha, hb, la, lb, x, y, h => by
    simp [numI] at h la lb
    exact ⟨byt_inj ha (by omega) hb (by omega) h.1, h.2⟩
  | k + 1, a, b, ha, hb, la, lb, x, y, h => by
    have e : (128 : Int) ^ (k + 1 + 1) = 128 ^ (k + 1) * 128 := Int.pow_succ ..
    simp only [numI] at h
    split at h <;> split at h
    · simp at h; exact ⟨byt_inj ha (by omega) hb (by omega) h.1, h.2⟩
    · simp at h
      have := byt_inj ha (by omega) (by omega) (by omega) h.1
      omega
    · simp at h
      have := byt_inj (by omega) (by omega) hb (by omega) h.1
      omega
    · simp only [List.map_cons, List.cons_append, List.cons.injEq] at h
      have h1 := byt_inj (by omega) (by omega) (by omega) (by omega) h.1
      have h2 := numI_free k (a / 128) (b / 128) (by omega) (by omega) (Int.ediv_lt_of_lt_mul (by omega) (by rw [← e]; exact la)) (Int.ediv_lt_of_lt_mul (by omega) (by rw [← e]; exact lb)) x y h.2
      exact ⟨by omega, h2.2⟩
theorem numB_free {a b : Int} (ha : Num a) (hb : Num b) {x y : List UInt8} (h : numB a ++ x = numB b ++ y) : a = b ∧ x = y :=
  numI_free 9 a b ha.1 hb.1 (Int.lt_of_le_of_lt ha.2 (by decide)) (Int.lt_of_le_of_lt hb.2 (by decide)) x y h

theorem ba_ext {a b : ByteArray} (h : a.data.toList = b.data.toList) : a = b := by
  cases a; cases b; simp at h; simp [h]

/-- A record's bytes are of one record. -/
theorem recF_inj {f g : Fd} (hf : FdOk f) (hg : FdOk g) (h : recF f = recF g) (hs : f.seq = 0) (hs2 : g.seq = 0) (hb : f.base = 0) (hb2 : g.base = 0) : f = g := by
  rcases hf with ⟨s, b, rfl, hns, -, -⟩ | ⟨c, rfl, n1, n2⟩ | ⟨c, rfl, n1, n2, n3, -⟩ | ⟨c, rfl, n1, -⟩ <;>
  rcases hg with ⟨s', b', rfl, hns', -, -⟩ | ⟨c', rfl, m1, m2⟩ | ⟨c', rfl, m1, m2, m3, -⟩ | ⟨c', rfl, m1, -⟩ <;>
  simp only [recF_head, recF_clock, recF_card, recF_edit, recHead, recClock, recCard, recEdit, List.cons.injEq] at h
  all_goals first
    | (exact absurd h.1 (by decide))
    | skip
  · have e1 : s = 0 := hs
    have e2 : s' = 0 := hs2
    have e3 : b = 0 := hb
    have e4 : b' = 0 := hb2
    subst e1 e2 e3 e4; rfl
  · obtain ⟨e1, h2⟩ := numB_free n1 m1 h.2
    obtain ⟨e2, -⟩ := numB_free n2 m2 (x := []) (y := []) (by simpa using h2)
    cases c; cases c'; simp at e1 e2; subst e1 e2; rfl
  · obtain ⟨e1, h2⟩ := numB_free n1 m1 h.2
    obtain ⟨e2, h3⟩ := numB_free n2 m2 h2
    obtain ⟨e3, h4⟩ := numB_free n3 m3 h3
    simp only [List.cons.injEq] at h4
    have e4 : c.gone = c'.gone := by
      have := h4.1
      cases hg1 : c.gone <;> cases hg2 : c'.gone <;> simp [hg1, hg2] at this ⊢
    have e5 := ba_ext h4.2
    cases c; cases c'; simp at e1 e2 e3 e4 e5; subst e1 e2 e3 e4 e5; rfl
  · obtain ⟨e1, h2⟩ := numB_free n1 m1 h.2
    have e5 := ba_ext h2
    cases c; cases c'; simp at e1 e5; subst e1 e5; rfl

/-- Frames tell their length. -/
theorem frameB_free {r s : List UInt8} (hr : r.length ≤ 255) (hs : s.length ≤ 255) {x y : List UInt8} (h : frameB r ++ x = frameB s ++ y) : r = s ∧ x = y := by
  simp only [frameB, List.cons_append, List.cons.injEq, List.append_assoc] at h
  obtain ⟨-, -, h1, h2⟩ := h
  have hl : r.length = s.length := by
    have := byt_inj (a := (r.length : Int)) (b := (s.length : Int)) (by omega) (by omega) (by omega) (by omega) h1; omega
  obtain ⟨e1, e2⟩ := List.append_inj h2 hl
  subst e1
  exact ⟨rfl, List.append_cancel_left e2⟩

theorem frames_inj : ∀ (l m : List Fd), (∀ f, f ∈ l → FdOk f ∧ f.seq = 0 ∧ f.base = 0) → (∀ f, f ∈ m → FdOk f ∧ f.seq = 0 ∧ f.base = 0) → l.flatMap (fun f => frameB (recF f)) = m.flatMap (fun f => frameB (recF f)) → l = m
  | [], [], _, _, _ => rfl
  | [], g :: m, _, _, h => by simp [frameB] at h
  | f :: l, [], _, _, h => by simp [frameB] at h
  | f :: l, g :: m, hl, hm, h => by
    simp only [List.flatMap_cons] at h
    have a := hl f (List.mem_cons_self ..)
    have b := hm g (List.mem_cons_self ..)
    obtain ⟨e1, e2⟩ := frameB_free (by have := recF_length a.1; omega) (by have := recF_length b.1; omega) h
    have := recF_inj a.1 b.1 e1 a.2.1 b.2.1 a.2.2 b.2.2
    subst this
    rw [frames_inj l m (fun x hx => hl x (List.mem_cons_of_mem _ hx)) (fun x hx => hm x (List.mem_cons_of_mem _ hx)) e2]

theorem bundleB_inj {l m : List Fd} (hl : ∀ f, f ∈ l → FdOk f ∧ f.seq = 0 ∧ f.base = 0) (hm : ∀ f, f ∈ m → FdOk f ∧ f.seq = 0 ∧ f.base = 0) (h : bundleB l = bundleB m) : l = m := by
  unfold bundleB at h
  have e : (bodyB l).length = (bodyB m).length := by
    have := congrArg List.length h
    simp [fourI] at this; exact this
  obtain ⟨h, -⟩ := List.append_inj h e
  simp only [bodyB, List.cons.injEq, true_and] at h
  exact frames_inj l m hl hm h

/-- All records have no sequence and no base. -/
theorem recsOf_zero (R : Rep) : ∀ f, f ∈ recsOf 0 0 R → f.seq = 0 ∧ f.base = 0 := by
  intro f hf
  simp only [recsOf, recs3, recs2, recs1, List.mem_append, List.mem_cons, List.mem_map] at hf
  rcases hf with ((rfl | ⟨i, _, rfl⟩) | ⟨i, _, rfl⟩) | ⟨i, _, rfl⟩ <;> exact ⟨rfl, rfl⟩

/-- Two replicas are the same. -/
structure Same (R T : Rep) : Prop where
  n1 : R.n1 = T.n1
  n2 : R.n2 = T.n2
  n3 : R.n3 = T.n3
  c : ∀ i, i < R.n1 → R.c i = T.c i
  d : ∀ i, i < R.n2 → R.d i = T.d i
  e : ∀ i, i < R.n3 → R.e i = T.e i

theorem filter_kind (R : Rep) (k : Int) : (recsOf 0 0 R).filter (fun f => f.kind == k) =
    (if k = 4 then [fdHead 0 0] else []) ++ (if k = 1 then (List.range R.n1).map (fun i => fdClock (R.c i)) else []) ++ (if k = 2 then (List.range R.n2).map (fun i => fdCard (R.d i)) else []) ++ (if k = 3 then (List.range R.n3).map (fun i => fdEdit (R.e i)) else []) := by
  have h : ∀ (n : Nat) (f : Nat → Fd) (q : Int), (∀ i, (f i).kind = q) → ((List.range n).map f).filter (fun f => f.kind == k) = if k = q then (List.range n).map f else [] := by
    intro n f q hq
    split
    · rename_i e; subst e
      rw [List.filter_eq_self]; intro x hx; obtain ⟨i, _, rfl⟩ := List.mem_map.1 hx; simp [hq]
    · rename_i e
      rw [List.filter_eq_nil_iff]; intro x hx; obtain ⟨i, _, rfl⟩ := List.mem_map.1 hx; simp [hq]; omega
  unfold recsOf recs3 recs2 recs1
  rw [List.filter_append, List.filter_append, h R.n3 _ 3 (fun _ => rfl), h R.n2 _ 2 (fun _ => rfl), List.filter_cons, h R.n1 _ 1 (fun _ => rfl)]
  congr 2
  by_cases e : k = 4
  · subst e; simp [fdHead]
  · rw [if_neg (by show ¬ ((4 : Int) == k) = true; simp; omega), if_neg e]; simp

theorem map_range_inj {α : Type} {n m : Nat} {f g : Nat → α} (h : (List.range n).map f = (List.range m).map g) : n = m ∧ ∀ i, i < n → f i = g i := by
  have e : n = m := by simpa using congrArg List.length h
  subst e
  refine ⟨rfl, fun i hi => ?_⟩
  have := congrArg (fun l => l[i]?) h
  simpa [hi] using this

theorem recsOf_inj {R T : Rep} (h : recsOf 0 0 R = recsOf 0 0 T) : Same R T := by
  have k1 := congrArg (List.filter (fun f => f.kind == 1)) h
  have k2 := congrArg (List.filter (fun f => f.kind == 2)) h
  have k3 := congrArg (List.filter (fun f => f.kind == 3)) h
  rw [filter_kind, filter_kind] at k1 k2 k3
  simp at k1 k2 k3
  obtain ⟨a1, b1⟩ := map_range_inj k1
  obtain ⟨a2, b2⟩ := map_range_inj k2
  obtain ⟨a3, b3⟩ := map_range_inj k3
  refine ⟨a1, a2, a3, fun i hi => ?_, fun i hi => ?_, fun i hi => ?_⟩
  · have := b1 i hi
    simp [fdClock] at this
    cases hr : R.c i; cases ht : T.c i; simp [hr, ht] at this; simp [this]
  · have := b2 i hi
    simp [fdCard] at this
    cases hr : R.d i; cases ht : T.d i; simp [hr, ht] at this; simp [this]
  · have := b3 i hi
    simp [fdEdit] at this
    cases hr : R.e i; cases ht : T.e i; simp [hr, ht] at this; simp [this]

theorem Same.recs {R T : Rep} (h : Same R T) : recsOf 0 0 R = recsOf 0 0 T := by
  have e1 : (List.range R.n1).map (fun i => fdClock (R.c i)) = (List.range R.n1).map (fun i => fdClock (T.c i)) := List.map_congr_left fun i hi => by rw [h.c i (List.mem_range.1 hi)]
  have e2 : (List.range R.n2).map (fun i => fdCard (R.d i)) = (List.range R.n2).map (fun i => fdCard (T.d i)) := List.map_congr_left fun i hi => by rw [h.d i (List.mem_range.1 hi)]
  have e3 : (List.range R.n3).map (fun i => fdEdit (R.e i)) = (List.range R.n3).map (fun i => fdEdit (T.e i)) := List.map_congr_left fun i hi => by rw [h.e i (List.mem_range.1 hi)]
  unfold recsOf recs3 recs2 recs1
  rw [e1, e2, e3, ← h.n1, ← h.n2, ← h.n3]

/-- A bundle is of one sound replica. -/
theorem bundle_same {R T : Rep} (hR : Fit R) (hT : Fit T) : bundleB (recsOf 0 0 R) = bundleB (recsOf 0 0 T) ↔ Same R T := by
  constructor
  · intro h
    refine recsOf_inj (bundleB_inj (fun f hf => ⟨hR.ok ⟨by omega, by omega⟩ (by omega) (by omega) f hf, recsOf_zero R f hf⟩) (fun f hf => ⟨hT.ok ⟨by omega, by omega⟩ (by omega) (by omega) f hf, recsOf_zero T f hf⟩) h)
  · intro h; rw [h.recs]

/-- How many bytes a number has. -/
def bytesI : Nat → Int → Nat
  | 0, _ => 1
  | k + 1, n => if n < 128 then 1 else bytesI k (n / 128) + 1
theorem numI_bytes : ∀ (k : Nat) (n : Int), (numI k n).length = bytesI k n
  | 0, n => rfl
  | k + 1, n => by
    simp only [numI, bytesI]; split
    · rfl
    · simp [numI_bytes k (n / 128)]
theorem numB_bytes (n : Int) : (numB n).length = bytesI 9 n := by simp [numB, numI_bytes]

/-- How long the frames of records are. -/
def lenF (f : Fd) : Nat := (recF f).length + 7
def lenL (l : List Fd) : Nat := (l.map lenF).sum
theorem bundleB_length (l : List Fd) : (bundleB l).length = 8 + lenL l := by
  have : ∀ l : List Fd, (l.flatMap (fun f => frameB (recF f))).length = lenL l := by
    intro l; induction l with
    | nil => rfl
    | cons f l ih => simp only [List.flatMap_cons, List.length_append, ih, frameB_length, lenL, List.map_cons, List.sum_cons, lenF]
  unfold bundleB bodyB
  simp [fourI, this]; omega
theorem lenL_snoc (l : List Fd) (f : Fd) : lenL (l ++ [f]) = lenL l + lenF f := by simp [lenL]
theorem lenF_clock (c : Ck) : lenF (fdClock c) = 8 + bytesI 9 c.site + bytesI 9 c.count := by
  unfold lenF; rw [recF_clock, recClock, List.length_cons, List.length_append, numB_bytes, numB_bytes]; omega
theorem lenF_card (c : Cd) : lenF (fdCard c) = 9 + bytesI 9 c.id + bytesI 9 c.site + bytesI 9 c.count + c.text.size := by
  have : c.text.data.toList.length = c.text.size := Array.length_toList
  unfold lenF; rw [recF_card, recCard, List.length_cons, List.length_append, List.length_append, List.length_append, List.length_cons, numB_bytes, numB_bytes, numB_bytes]; omega
theorem lenF_edit (c : Ed) : lenF (fdEdit c) = 8 + bytesI 9 c.id + c.text.size := by
  have : c.text.data.toList.length = c.text.size := Array.length_toList
  unfold lenF; rw [recF_edit, recEdit, List.length_cons, List.length_append, numB_bytes]; omega
theorem lenF_head : lenF (fdHead 0 0) = 9 := by
  unfold lenF; rw [recF_head]; rfl
end Go.Proofs.Ytdjpkgaicmklmab

/- Numbers read back: plain functions, and the reference's number, numbers, four, walked. -/
namespace Go.Proofs.Ytdjpkgaicmklmab
open Go.RowKit

/-- Bytes are added up till the first below 128. -/
def rdAcc : Nat → Nat → Int → List UInt8 → Option (Int × Nat)
  | 0, _, _, _ => none
  | _ + 1, _, _, [] => none
  | k + 1, i, v, c :: s => if c.toNat < 128 then some (v + ((c.toNat % 128 : Nat) : Int) * 128 ^ i, i + 1) else rdAcc k (i + 1) (v + ((c.toNat % 128 : Nat) : Int) * 128 ^ i) s
/-- The number with which bytes begin, and how many bytes it has. -/
def numRd (s : List UInt8) : Option (Int × Nat) := match rdAcc 9 0 0 s with
  | some (v, n) => if numB v = s.take n then some (v, n) else none
  | none => none
def rdV (x : Option (Int × Nat)) : Value := match x with
  | some (v, n) => .tuple #[.int .i64 v, .int .i64 (n : Nat)]
  | none => .tuple #[.int .i64 0, .int .i64 0]

theorem str_extract (s : List UInt8) (a b : Nat) : (str s).extract a b = str ((s.drop a).take (b - a)) := by
  have : ((str s).extract a b).data = (str ((s.drop a).take (b - a))).data := by
    rw [ByteArray.data_extract]; simp [str]
  cases h : (str s).extract a b
  rw [h] at this
  simp only [str] at this ⊢
  rw [this]
theorem str_at (s : List UInt8) (k : Nat) (h : k < (str s).size) (h2 : k < s.length) : (str s)[k]'h = s[k] := rfl
theorem str_beq (a b : List UInt8) : ((str a).toList == (str b).toList) = (a == b) := by rw [str_toList, str_toList]

theorem pow128 (i : Nat) (h : i ≤ 8) : (128 : Int) ^ i ≤ 72057594037927936 ∧ 0 < (128 : Int) ^ i := by
  have : i = 0 ∨ i = 1 ∨ i = 2 ∨ i = 3 ∨ i = 4 ∨ i = 5 ∨ i = 6 ∨ i = 7 ∨ i = 8 := by omega
  rcases this with rfl | rfl | rfl | rfl | rfl | rfl | rfl | rfl | rfl <;> decide

theorem rdAcc_le : ∀ (k i : Nat) (v : Int) (s : List UInt8) {v' : Int} {n : Nat}, rdAcc k i v s = some (v', n) → i < n ∧ n ≤ i + s.length
  | 0, _, _, _, _, _, h => by simp [rdAcc] at h
  | _ + 1, _, _, [], _, _, h => by simp [rdAcc] at h
  | k + 1, i, v, c :: s, v', n, h => by
    simp only [rdAcc] at h
    split at h
    · simp at h; simp; omega
    · have := rdAcc_le k (i + 1) _ s h; simp; omega
theorem rdAcc_num : ∀ (k i : Nat) (v : Int) (s : List UInt8) {v' : Int} {n : Nat}, rdAcc k i v s = some (v', n) → 0 ≤ v → v < 128 ^ i → i + k ≤ 9 → 0 ≤ v' ∧ v' < 128 ^ 9
  | 0, _, _, _, _, _, h, _, _, _ => by simp [rdAcc] at h
  | _ + 1, _, _, [], _, _, h, _, _, _ => by simp [rdAcc] at h
  | k + 1, i, v, c :: s, v', n, h, h0, h1, hk => by
    have hp := pow128 i (by omega)
    have m0 : 0 ≤ ((c.toNat % 128 : Nat) : Int) * 128 ^ i := Int.mul_nonneg (by omega) (by omega)
    have m1 : ((c.toNat % 128 : Nat) : Int) * 128 ^ i ≤ 127 * 128 ^ i := Int.mul_le_mul_of_nonneg_right (by omega) (by omega)
    simp only [rdAcc] at h
    split at h
    · simp at h
      obtain ⟨rfl, -⟩ := h
      simp only [Int.natCast_emod] at m0 m1
      have e9 : (128 : Int) ^ 9 = 9223372036854775808 := by decide
      rw [e9]
      have e : ((128 : Nat) : Int) = 128 := rfl
      simp only [e] at m0 m1
      generalize (128 : Int) ^ i = q at *
      omega
    · refine rdAcc_num k (i + 1) _ s h (by omega) ?_ (by omega)
      rw [Int.pow_succ]; omega
theorem numRd_le {s : List UInt8} {v : Int} {n : Nat} (h : numRd s = some (v, n)) : 0 < n ∧ n ≤ s.length ∧ Num v ∧ numB v = s.take n := by
  unfold numRd at h
  split at h
  · rename_i v' n' hr
    split at h
    · simp at h
      obtain ⟨rfl, rfl⟩ := h
      rename_i hq
      have h1 := rdAcc_le 9 0 0 s hr
      have h2 := rdAcc_num 9 0 0 s hr (by omega) (by decide) (by omega)
      have e9 : (128 : Int) ^ 9 = 9223372036854775808 := by decide
      rw [e9] at h2
      exact ⟨by omega, by omega, ⟨by omega, by omega⟩, hq⟩
    · cases h
  · cases h

/-- The k numbers with which bytes begin, and what is behind them. -/
def numsRd : Nat → List UInt8 → Option (List Int × List UInt8)
  | 0, s => some ([], s)
  | k + 1, s => match numRd s with
    | none => none
    | some (v, n) => match numsRd k (s.drop n) with
      | none => none
      | some (l, r) => some (v :: l, r)
def pre (a : List Int) (x : Option (List Int × List UInt8)) : Option (List Int × List UInt8) := x.map fun p => (a ++ p.1, p.2)
theorem numsRd_length : ∀ (k : Nat) (s : List UInt8) {l : List Int} {r : List UInt8}, numsRd k s = some (l, r) → l.length = k ∧ r.length ≤ s.length
  | 0, s, l, r, h => by simp [numsRd] at h; obtain ⟨rfl, rfl⟩ := h; simp
  | k + 1, s, l, r, h => by
    simp only [numsRd] at h
    split at h
    · cases h
    · split at h
      · cases h
      · rename_i hh
        simp at h
        obtain ⟨rfl, rfl⟩ := h
        have := numsRd_length k _ hh
        simp at this ⊢
        omega
theorem pre_some (a : List Int) (l : List Int) (r : List UInt8) : pre a (some (l, r)) = some (a ++ l, r) := rfl
theorem numsRd_step {a : List Int} {k : Nat} {s : List UInt8} {v : Int} {n : Nat} (h : numRd s = some (v, n)) : pre a (numsRd (k + 1) s) = pre (a ++ [v]) (numsRd k (s.drop n)) := by
  simp only [numsRd, h]
  cases numsRd k (s.drop n) with
  | none => rfl
  | some p => obtain ⟨l, r⟩ := p; simp [pre]
theorem numsRd_none {a : List Int} {k : Nat} {s : List UInt8} (h : numRd s = none) : pre a (numsRd (k + 1) s) = none := by
  simp only [numsRd, h]; rfl

/-- What numbers answers. -/
def NumsAns (s : List UInt8) (k : Nat) (w : World) (e : Ending) (w' : World) : Prop :=
  match numsRd k s with
  | none => e = .returned (.tuple #[.slice none 0 0, .string ⟨#[]⟩, .bool false])
  | some (l, r) => ∃ ad cap, e = .returned (.tuple #[.slice ad k cap, .string (str r), .bool true]) ∧ Vec w' w.heap.size 3 1 ad k cap (l.map (Value.int .i64))

end Go.Proofs.Ytdjpkgaicmklmab

/- The program's Split and what it calls, walked. -/
namespace Go.Proofs.Ytdjpkgaicmklmab
open Go.RowKit
attribute [local go_sem] str_size str_append mk_append_str str_append_mk

def strLen : Value → Nat
  | .string s => s.size
  | _ => 0
theorem cnt_is {m k i : Nat} (hm : 0 < m) (h1 : i = 0 ∨ i * m < k) (h2 : k ≤ (i + 1) * m) : cntB m k = i + 1 := by
  unfold cntB
  rw [Nat.add_mul] at h2
  by_cases hk : k ≤ m
  · rw [if_pos hk]
    rcases h1 with rfl | h1
    · rfl
    · rcases Nat.eq_zero_or_pos i with rfl | hi
      · rfl
      · have := Nat.mul_le_mul_right m hi; omega
  · rw [if_neg hk]
    have e1 : (i + 1) * m = i * m + m := by rw [Nat.add_mul, Nat.one_mul]
    have e2 : (i + 1 + 1) * m = i * m + m + m := by rw [Nat.add_mul, e1, Nat.one_mul]
    exact Nat.div_eq_of_lt_le (by rw [e1]; rcases h1 with rfl | h1 <;> omega) (by rw [e2]; omega)
theorem part_last {m i : Nat} {b : List UInt8} (h : b.length ≤ (i + 1) * m) : partB m i b = b.drop (i * m) := by
  unfold partB; rw [Nat.add_mul] at h; exact List.take_of_length_le (by simp; omega)

/-- The parts. -/
def partsB (m : Nat) (b : List UInt8) : List (List UInt8) := (List.range (cntB m b.length)).map fun i => partB m i b

set_option maxRecDepth 100000 in
set_option maxHeartbeats 4000000 in
theorem partsOf_any (b : List UInt8) (m : Nat) (w : World) (hb : b.length ≤ 6000) (hm : 26 ≤ m) (hm2 : m ≤ 4000) :
    Calls Try.prog 52 #[.string (str b), .int .i64 (m : Int)] w fun e w' => ∃ ad cap N, e = .returned (.slice ad N cap) ∧ N = cntB m b.length ∧ Vec w' w.heap.size 9 1 ad N cap (strs (partsB m b)) ∧ Below w.heap.size w w' := by
  have HB : Hid (b.length ≤ 6000) := hb
  have hV0 : Hid (Vec (w.alloc (.cells #[] 9)) w.heap.size 9 1 (some ⟨w.heap.size, 0, none⟩) 0 0 (strs [])) := Vec.lit w w.heap.size 9 1 0 [] (Nat.le_refl _) (by omega) rfl
  go_enter Try.func52, Try.ntmps52
  go_wp2_with fail
  go_loopw [0, 5] (fun u v wr => ∃ (i : Nat) (ad : Option Addr) (cap : Nat) (t : List UInt8), u = .string (str t) ∧ v = .slice ad i cap ∧ t = b.drop (i * m) ∧ (i = 0 ∨ i * m < b.length) ∧ i ≤ 6000 ∧ t.length ≤ 6000 ∧ Vec wr w.heap.size 9 1 ad i cap (strs ((List.range i).map fun k => partB m k b)) ∧ Below w.heap.size w wr) (fun u _ _ => strLen u)
  case atStart => exact ⟨0, _, _, b, rfl, rfl, by simp, Or.inl rfl, by omega, hb, hV0.out, (Below.refl _ _).alloc (Nat.le_refl _) _⟩
  case round =>
    obtain ⟨i, ad, cap, t, rfl, rfl, ht, hi, hi2, htl, hv, hbw⟩ := hrel
    have HT : Hid (t = b.drop (i * m)) := ht
    have HI : Hid (i = 0 ∨ i * m < b.length) := hi
    have hl : t.length = b.length - i * m := by rw [ht]; simp
    have HL : Hid (t.length = b.length - i * m) := hl
    have hz := hbw.size
    clear ht hi hl hb
    by_cases hlt : m < t.length
    · have hx1 : (str t).extract 0 m = str (partB m i b) := by rw [str_extract, HT.out]; simp [partB]
      have hx2 : (str t).extract m t.length = str (t.drop m) := by rw [str_extract, List.take_of_length_le (by simp)]
      have him : (i + 1) * m < b.length := by rw [Nat.add_mul]; have := HL.out; omega
      have hi3 : i + 1 ≤ 6000 := by
        have := Nat.le_mul_of_pos_right (i + 1) (show 0 < m by omega)
        have := HB.out; omega
      have HM : Hid ((i + 1) * m < b.length) := him
      clear him
      go_wp2_with (at_builtin; refine wpList_push (by rfl) _ _ 33 (by rfl) w.heap.size 9 1 16 (.string ⟨#[]⟩) Try.underlying33 (by kernel_rfl) rfl (by decide) ad i cap _ (by rfl) (hv.keep ((Below.refl _ _).alloc (Nat.le_refl _) _)) _ _ [.string (str (partB m i b))] (by rfl) rfl ?_ ?_ ?_ ?_ ?_ ?_; exact new_cells _ _ _; (simp [Value.oneCell']); (omega); (omega); (simp; omega); intro ad' cap' w' hv' hb' hs')
      have hb2 : Below w.heap.size w w' := (hbw.alloc hz _).trans hb'
      go_roundw
      case rel => exact ⟨i + 1, ad', cap', t.drop m, rfl, rfl, by rw [HT.out, List.drop_drop, Nat.add_mul]; congr 1; omega, Or.inr HM.out, hi3, by simp; omega, by rw [List.range_succ, List.map_append, strs, List.map_append]; exact hv', hb2⟩
      case measure => simp [strLen, str_size]; omega
    · have hle : b.length ≤ (i + 1) * m := by rw [Nat.add_mul]; have := HL.out; omega
      have HC : Hid (cntB m b.length = i + 1) := cnt_is (by omega) HI.out hle
      have HP : Hid (t = partB m i b) := by show _ = _; rw [part_last hle]; exact HT.out
      clear hle
      go_wp2_with (at_builtin; refine wpList_push (by rfl) _ _ 33 (by rfl) w.heap.size 9 1 16 (.string ⟨#[]⟩) Try.underlying33 (by kernel_rfl) rfl (by decide) ad i cap _ (by rfl) (hv.keep ((Below.refl _ _).alloc (Nat.le_refl _) _)) _ _ [.string (str t)] (by rfl) rfl ?_ ?_ ?_ ?_ ?_ ?_; exact new_cells _ _ _; (simp [Value.oneCell']); (omega); (omega); (simp; omega); intro ad' cap' w' hv' hb' hs')
      go_ret
      exact ⟨ad', cap', i + 1, rfl, HC.out.symm, by unfold partsB; rw [HC.out, List.range_succ, List.map_append, strs, List.map_append]; rw [HP.out] at hv'; exact hv', (hbw.alloc hz _).trans hb'⟩

/-- A volume's struct. -/
abbrev volS (i n : Int) (s p : List UInt8) : List Value := [.int .u8 i, .int .u8 n, .string (str s), .string (str p)]

set_option maxRecDepth 100000 in
set_option maxHeartbeats 4000000 in
theorem bytesOf_any (i n : Int) (C : Nat) (p : List UInt8) (w : World) (hp : p.length ≤ 8796093022000) :
    Calls Try.prog 53 #[.agg (volS i n (fourI C) p).toArray] w fun e w' => e = .returned (.string (str (volB i n C p))) ∧ Below w.heap.size w w' := by
  have E : Hid (86 :: 79 :: 76 :: 49 :: byt i :: byt n :: (fourI C ++ p) ++ fourI (crc pSum (86 :: 79 :: 76 :: 49 :: byt i :: byt n :: (fourI C ++ p))) = volB i n C p) := by show _ = _; unfold volB volH; simp
  have l4 : (fourI (C : Int)).length ≤ 4 := Nat.le_refl _
  generalize fourI (C : Int) = s at *
  have hb0 : Below w.heap.size w (w.alloc (.cells (volS i n s p).toArray 87)) := (Below.refl _ _).alloc (Nat.le_refl _) _
  have hb1 : Below w.heap.size w ((w.alloc (.cells (volS i n s p).toArray 87)).alloc (.cells #[.int .u8 i, .int .u8 n] 5)) := hb0.alloc hb0.size _
  have hBx := (Bx.new w 87 (volS i n s p).toArray).alloc (.cells #[.int .u8 i, .int .u8 n] 5)
  have c2 := hBx.cell 2
  have c3 := hBx.cell 3
  clear hBx hb0
  dsimp only [List.getElem?_cons_zero, List.getElem?_cons_succ] at c2 c3
  go_enter Try.func53, Try.ntmps53
  go_wp2_with (refine wpList_toString (by rfl) 75 9 5 _ (by rfl) Try.underlying75 Try.underlying5 Try.underlying9 _ _ _ (by rfl) [i, n] rfl ?_ ?_; exact new_cells2 _ _ _ _)
  generalize ((w.alloc (.cells (volS i n s p).toArray 87)).alloc (.cells #[.int .u8 i, .int .u8 n] 5)) = w1 at *
  clear c2 c3
  refine (sum_any (86 :: 79 :: 76 :: 49 :: byt i :: byt n :: (s ++ p)) _ (by simp; omega)).mono ?_
  rintro e w2 ⟨rfl, rfl⟩
  obtain ⟨c1, c2⟩ := crc_le pSum (by decide) (86 :: 79 :: 76 :: 49 :: byt i :: byt n :: (s ++ p))
  generalize crc pSum (86 :: 79 :: 76 :: 49 :: byt i :: byt n :: (s ++ p)) = C2 at *
  go_wp2_with fail
  refine (fourBytes_any _ _ c1 c2).mono ?_
  rintro e w3 ⟨rfl, hb3⟩
  have l5 : (fourI (C2 : Int)).length ≤ 4 := Nat.le_refl _
  generalize fourI (C2 : Int) = t at *
  go_wp2_with fail
  go_ret
  exact ⟨ret_str (by rw [← E.out]; simp), hb1.trans (hb3.mono hb1.size)⟩

/-- What Split answers. -/
def splitOk (b : List UInt8) (size : Int) : Prop := 40 ≤ size ∧ size ≤ 4000 ∧ b.length ≤ 6000
instance (b : List UInt8) (size : Int) : Decidable (splitOk b size) := by unfold splitOk; infer_instance
def splitL (b : List UInt8) (size : Int) : List (List UInt8) := if splitOk b size then volsB (size - 14).toNat b else []
def splitE (b : List UInt8) (size : Int) : Int := if splitOk b size then 0 else 12
theorem vols_take (m : Nat) (b : List UInt8) (i : Nat) (h : i < cntB m b.length) : (volsB m b).take (i + 1) = (volsB m b).take i ++ [volB i (cntB m b.length) (crc pSum b) (partB m i b)] := by
  rw [List.take_succ_eq_append_getElem (by rw [vols_len]; exact h)]
  congr 2
  have := vols_get m b i h
  rw [List.getD_eq_getElem?_getD, List.getElem?_eq_getElem (by rw [vols_len]; exact h)] at this
  exact this

set_option maxRecDepth 100000 in
set_option maxHeartbeats 4000000 in
theorem vsplit_any (b : List UInt8) (size : Int) (w : World) (hb : b.length ≤ 9223372036854775807) :
    Calls Try.prog 33 #[.string (str b), .int .i64 size] w fun e w' => ∃ ad cap N, e = .returned (.tuple #[.slice ad N cap, .int .i64 (splitE b size)]) ∧ N = (splitL b size).length ∧ Vec w' w.heap.size 9 1 ad N cap (strs (splitL b size)) ∧ Below w.heap.size w w' := by
  by_cases hok : splitOk b size
  · have HE : Hid (splitE b size = 0) := by show _ = _; simp [splitE, hok]
    obtain ⟨m, hm⟩ : ∃ m : Nat, size = (m : Int) + 14 := ⟨(size - 14).toNat, by have := hok.1; omega⟩
    have HL : Hid (splitL b size = volsB m b) := by show _ = _; unfold splitL; rw [if_pos hok, hm]; congr 1; omega
    obtain ⟨h1, h2, h3⟩ := hok
    subst hm
    have hm1 : 26 ≤ m := by omega
    have hm2 : m ≤ 4000 := by omega
    have hsub : ((m : Int) + 14 - 14) = (m : Int) := by omega
    have HM : Hid (26 ≤ m) := hm1
    have H3 : Hid (b.length ≤ 6000) := h3
    have hc := cnt_small m b.length hm1 h3
    have hc0 := cnt_pos m b.length (by omega)
    go_enter Try.func33, Try.ntmps33
    go_wp2_with fail
    refine (sum_any b _ (by omega)).mono ?_
    rintro e w1 ⟨rfl, hw1⟩
    have hb1 : Below w.heap.size w w1 := by rw [hw1]; exact Below.refl _ _
    clear hw1
    obtain ⟨c1, c2⟩ := crc_le pSum (by decide) b
    go_wp2_with fail
    refine (fourBytes_any _ _ c1 c2).mono ?_
    rintro e w2 ⟨rfl, hb2⟩
    go_wp2_with fail
    refine (partsOf_any b m _ H3.out hm1 hm2).mono ?_
    rintro e w3 ⟨ad3, cap3, N3, rfl, hN3, hv3, hb3⟩
    have hbw := hb1.trans ((hb2.trans (hb3.mono hb2.size)).mono hb1.size)
    have HN3 : Hid (N3 = cntB m b.length) := hN3
    have hN256 : N3 < 256 := by omega
    have HV3 : Hid (Vec w3 w.heap.size 9 1 ad3 N3 cap3 (strs (partsB m b))) := hv3.mono (Nat.le_trans hb1.size hb2.size)
    have HBW : Hid (Below w.heap.size w w3) := hbw
    obtain ⟨C, hC⟩ : ∃ C, C = crc pSum b := ⟨_, rfl⟩
    rw [← hC]
    have HC : Hid (crc pSum b = C) := hC.symm
    clear hC
    clear hv3 hbw hb1 hb2 hb3 c1 c2 hN3 hc hc0
    go_wp2_with fail
    go_loopw [9, 10, 11] (fun v u _ wr => ∃ (i : Nat) (ad : Option Addr) (cap : Nat), i ≤ N3 ∧ u = .int .i64 i ∧ v = .slice ad i cap ∧ Vec wr w3.heap.size 9 1 ad i cap (strs ((volsB m b).take i)) ∧ Below w3.heap.size w3 wr) (fun _ u _ _ => N3 - (intOf u).toNat)
    case atStart => exact ⟨0, _, _, by omega, rfl, rfl, Vec.lit w3 w3.heap.size 9 1 0 [] (Nat.le_refl _) (by omega) rfl, (Below.refl _ _).alloc (Nat.le_refl _) _⟩
    case round =>
      obtain ⟨i, ad, cap, hi, rfl, rfl, hv, hbr⟩ := hrel
      by_cases hlt : i < N3
      · obtain ⟨bb, o, hbl, hix, hcell⟩ := ((strs_lies HV3.out (by rw [HN3.out]; simp [partsB])).below hbr).at cap3 (P := Try.prog) (t := 33) (by kernel_rfl) (by kernel_rfl) hlt
        have hc0 : wr.cell? ⟨bb, o, none⟩ = some (.string (str ((partsB m b).getD i []))) := hcell 0 _ (by omega) rfl
        have hpi : (partsB m b).getD i [] = partB m i b := by
          have : i < cntB m b.length := by rw [← HN3.out]; exact hlt
          simp [partsB, List.getD, this]
        rw [hpi] at hc0
        have hpl : (partB m i b).length ≤ 6000 := by unfold partB; have := H3.out; simp; omega
        have HT : Hid ((volsB m b).take (i + 1) = (volsB m b).take i ++ [volB i N3 C (partB m i b)]) := by
          have := vols_take m b i (by rw [← HN3.out]; exact hlt)
          rw [HC.out, ← HN3.out] at this; exact this
        clear hcell hpi
        generalize partB m i b = p at *
        go_wp2_with fail
        refine (bytesOf_any (i : Int) (N3 : Int) C p _ (by omega)).mono ?_
        rintro e w5 ⟨rfl, hb5⟩
        have hv5 := hv.keep hb5
        have hbr5 := hbr.trans (hb5.mono hbr.size)
        have hz5 := hbr5.size
        clear hv hbr hb5
        generalize hV : volB (i : Int) (N3 : Int) C p = V at *
        clear hV
        go_wp2_with (at_builtin; refine wpList_push (by rfl) _ _ 33 (by rfl) w3.heap.size 9 1 16 (.string ⟨#[]⟩) Try.underlying33 (by kernel_rfl) rfl (by decide) ad i cap _ (by rfl) (hv5.keep ((Below.refl _ _).alloc (Nat.le_refl _) _)) _ _ [.string (str V)] (by rfl) rfl ?_ ?_ ?_ ?_ ?_ ?_; exact new_cells _ _ _; (simp [Value.oneCell']); (omega); (omega); (simp; omega); intro ad' cap' w' hv' hb' hs')
        go_roundw
        case rel => exact ⟨i + 1, ad', cap', by omega, by go_num, rfl, by rw [HT.out, strs, List.map_append]; exact hv', (hbr5.alloc hz5 _).trans hb'⟩
        case measure => simp [intOf]; omega
      · have e1 : i = N3 := by omega
        subst e1
        have HT : Hid ((volsB m b).take i = volsB m b) := List.take_of_length_le (by rw [vols_len, ← HN3.out]; exact Nat.le_refl _)
        go_wp2_with fail
        go_ret2
        exact ⟨ad, cap, i, by rw [HE.out]; rfl, by rw [HL.out, vols_len]; exact HN3.out, by rw [HL.out, ← HT.out]; exact hv.mono HBW.out.size, HBW.out.trans (hbr.mono HBW.out.size)⟩
  · have HE : Hid (splitE b size = 12) := by show _ = _; simp [splitE, hok]
    have HL : Hid (splitL b size = []) := by show _ = _; simp [splitL, hok]
    have hz := str_size b
    by_cases h1 : size < 40
    · clear hok hz
      go_enter Try.func33, Try.ntmps33
      go_wp2_with fail
      go_ret2
      refine ⟨none, 0, 0, by rw [HE.out]; rfl, by rw [HL.out]; rfl, by rw [HL.out]; exact Vec.nil _ _ _ _, Below.refl _ _⟩
    · by_cases h2 : 4000 < size
      · clear hok hz
        go_enter Try.func33, Try.ntmps33
        go_wp2_with fail
        go_ret2
        refine ⟨none, 0, 0, by rw [HE.out]; rfl, by rw [HL.out]; rfl, by rw [HL.out]; exact Vec.nil _ _ _ _, Below.refl _ _⟩
      · have h3 : 6000 < b.length := by
          rcases Nat.lt_or_ge 6000 b.length with h | h
          · exact h
          · exact absurd ⟨by omega, by omega, h⟩ hok
        clear hok hz
        go_enter Try.func33, Try.ntmps33
        go_wp2_with fail
        go_ret2
        refine ⟨none, 0, 0, by rw [HE.out]; rfl, by rw [HL.out]; rfl, by rw [HL.out]; exact Vec.nil _ _ _ _, Below.refl _ _⟩

set_option maxRecDepth 100000 in
set_option maxHeartbeats 4000000 in
theorem psplit_any (b : List UInt8) (size : Int) (w : World) (hb : b.length ≤ 9223372036854775807) :
    Calls Try.prog 11 #[.string (str b), .int .i64 size] w fun e w' => ∃ ad cap N, e = .returned (.tuple #[.slice ad N cap, .int .i64 (splitE b size)]) ∧ N = (splitL b size).length ∧ Vec w' w.heap.size 9 1 ad N cap (strs (splitL b size)) ∧ Below w.heap.size w w' := by
  go_enter Try.func11, Try.ntmps11
  go_wp2_with fail
  refine (vsplit_any b size _ hb).mono ?_
  rintro e w' ⟨ad, cap, N, rfl, rfl, h⟩
  go_wp2_with fail
  go_ret2
  exact ⟨ad, cap, _, rfl, rfl, h⟩
end Go.Proofs.Ytdjpkgaicmklmab

/- The reference's Split, walked. -/
namespace Go.Proofs.Ytdjpkgaicmklmab
open Go.RowKit
attribute [local go_sem] str_size str_append mk_append_str str_append_mk

end Go.Proofs.Ytdjpkgaicmklmab

/- The owner's books: lists that came out, each with its mark, and what stays of them at each step. -/
namespace Go.Proofs.Ytdjpkgaicmklmab
open Go.RowKit

/-- A list that came out, and the mark that its elements read. -/
structure Bk where
  ad : Option Addr
  n : Nat
  cap : Nat
  mrk : List Value
abbrev Bk.cells (x : Bk) : List Value := .slice x.ad x.n x.cap :: x.mrk
def bcells (L : List Bk) : List Value := (L.map Bk.cells).flatten
theorem bcells_snoc (L : List Bk) (x : Bk) : bcells (L ++ [x]) = bcells L ++ x.cells := by simp [bcells]
/-- It reads so. -/
structure Reads1 (Sh : List Value → Prop) (w : World) (B e m : Nat) (x : Bk) : Prop where
  len : x.mrk.length = m
  vec : Vec w B e m x.ad x.n x.cap (rep x.n x.mrk)
  few : x.n ≤ 1099511627780
  shape : Sh x.mrk
/-- The books of one kind. -/
structure Books (Sh : List Value → Prop) (w : World) (B e eb m : Nat) (ad : Option Addr) (cap : Nat) (L : List Bk) : Prop where
  list : Vec w B eb (m + 1) ad L.length cap (bcells L)
  each : ∀ x, x ∈ L → Reads1 Sh w B e m x
theorem Books.nil {Sh : List Value → Prop} (w : World) (B e eb m : Nat) : Books Sh w B e eb m none 0 [] := ⟨Vec.nil _ _ _ _, fun x h => by cases h⟩
theorem Books.keep {Sh : List Value → Prop} {w w' : World} {B e eb m : Nat} {ad : Option Addr} {cap : Nat} {L : List Bk} (h : Books Sh w B e eb m ad cap L) (hb : Below w.heap.size w w') : Books Sh w' B e eb m ad cap L :=
  ⟨h.list.keep hb, fun x hx => ⟨(h.each x hx).len, (h.each x hx).vec.keep hb, (h.each x hx).few, (h.each x hx).shape⟩⟩

/-- But for block go, and blocks of two types, all is as it was. -/
structure But3 (go e eb : Nat) (w w' : World) : Prop where
  size : w.heap.size ≤ w'.heap.size
  block : ∀ k cur t, k ≠ go → w.heap[k]? = some (.cells cur t) → t ≠ e → t ≠ eb → w'.heap[k]? = some (.cells cur t)
theorem But3.trans {go e eb : Nat} {a b c : World} (h : But3 go e eb a b) (h' : But3 go e eb b c) : But3 go e eb a c :=
  ⟨Nat.le_trans h.size h'.size, fun k cur t h1 h2 h3 h4 => h'.block k cur t h1 (h.block k cur t h1 h2 h3 h4) h3 h4⟩
theorem But3.of_below {go e eb : Nat} {w w' : World} (h : Below w.heap.size w w') : But3 go e eb w w' :=
  ⟨h.size, fun k _ _ _ h2 _ _ => by rw [h.block k (Array.getElem?_eq_some_iff.1 h2).1]; exact h2⟩
theorem But3.of_upd {go e eb g : Nat} {w w' : World} (h : Upd g w w') (hg : g = go ∨ ∃ cur t, w.heap[g]? = some (.cells cur t) ∧ (t = e ∨ t = eb)) : But3 go e eb w w' :=
  ⟨by rw [h.size]; exact Nat.le_refl _, fun k cur t h1 h2 h3 h4 => by
    have hk : k ≠ g := by
      rintro rfl
      rcases hg with hg | ⟨cur', t', hc, ht⟩
      · exact h1 hg
      · rw [h2] at hc; simp at hc; obtain ⟨-, rfl⟩ := hc; rcases ht with ht | ht
        · exact h3 ht
        · exact h4 ht
    rw [h.block k hk]; exact h2⟩
theorem But3.of_kp {go e eb : Nat} {g : Option Nat} {mk : List Value} {w w' : World} (h : Kp g mk w w') (hg : ∀ k, g = some k → ∃ cur t, w.heap[k]? = some (.cells cur t) ∧ (t = e ∨ t = eb)) : But3 go e eb w w' :=
  ⟨h.size, fun k cur t _ h2 h3 h4 => by
    have hk : g ≠ some k := by
      intro hk
      obtain ⟨cur', t', hc, ht⟩ := hg k hk
      rw [h2] at hc; simp at hc; obtain ⟨-, rfl⟩ := hc; rcases ht with ht | ht
      · exact h3 ht
      · exact h4 ht
    rw [h.block k (Array.getElem?_eq_some_iff.1 h2).1 hk]; exact h2⟩
theorem Vec.typed {w : World} {B e m : Nat} {ad : Option Addr} {n cap : Nat} {xs : List Value} (h : Vec w B e m ad n cap xs) : ∀ k, ad.map (·.block) = some k → B ≤ k ∧ ∃ cur, w.heap[k]? = some (.cells cur e) := by
  intro k hk
  rcases h.2 with ⟨h2, _⟩ | ⟨g, c, cur, hv, hB, hc, _⟩
  · simp at h2; rw [h2.1] at hk; cases hk
  · simp at hv; rw [hv.1] at hk; simp at hk; subst hk; exact ⟨hB, cur, hc⟩
theorem Vec.but3 {w w' : World} {B e m go e1 eb1 : Nat} {ad : Option Addr} {n cap : Nat} {xs : List Value} (h : Vec w B e m ad n cap xs) (hb : But3 go e1 eb1 w w') (h1 : e ≠ e1) (h2 : e ≠ eb1) (hgo : ∀ k, ad.map (·.block) = some k → k ≠ go) : Vec w' B e m ad n cap xs := by
  refine ⟨h.1, ?_⟩
  rcases h.2 with h3 | ⟨k, c, cur, hv, hB, hc, r⟩
  · exact Or.inl h3
  · refine Or.inr ⟨k, c, cur, hv, hB, hb.block k cur e (hgo k ?_) hc h1 h2, r⟩
    simp at hv; rw [hv.1]; rfl
theorem Vec.updo {w w' : World} {B e m g : Nat} {ad : Option Addr} {n cap : Nat} {xs : List Value} (h : Vec w B e m ad n cap xs) (hu : Upd g w w') (hg : ∀ b, ad = some b → b.block ≠ g) : Vec w' B e m ad n cap xs := by
  refine ⟨h.1, ?_⟩
  rcases h.2 with h2 | ⟨k, c, cur, hv, hB, hk, r⟩
  · exact Or.inl h2
  · refine Or.inr ⟨k, c, cur, hv, hB, ?_, r⟩
    simp at hv
    rw [hu.block k (hg _ hv.1)]; exact hk
/-- Books of other types stay. -/
theorem Books.but3 {Sh : List Value → Prop} {w w' : World} {B e eb m go e1 eb1 tT : Nat} {oc : List Value} {ad : Option Addr} {cap : Nat} {L : List Bk} (h : Books Sh w B e eb m ad cap L) (hb : But3 go e1 eb1 w w') (ho : Bx w go tT oc)
    (h1 : e ≠ e1) (h2 : e ≠ eb1) (h3 : eb ≠ e1) (h4 : eb ≠ eb1) (h5 : e ≠ tT) (h6 : eb ≠ tT) : Books Sh w' B e eb m ad cap L :=
  ⟨h.list.but3 hb h3 h4 (fun k hk e => ho.apart h.list h6 (by rw [hk, e])), fun x hx => ⟨(h.each x hx).len, (h.each x hx).vec.but3 hb h1 h2 (fun k hk e => ho.apart (h.each x hx).vec h5 (by rw [hk, e])), (h.each x hx).few, (h.each x hx).shape⟩⟩

/-- While the owner writes a list over: his variable, the mark, the list, the books of its kind. -/
structure St (Sh : List Value → Prop) (w0 w : World) (B B1 go gm tT e eb m f : Nat) (oc mk : List Value) (ad : Option Addr) (N cap : Nat) (a4 : Option Addr) (c4 : Nat) (L : List Bk) : Prop where
  o : Bx w go tT oc
  k : Bx w gm e mk
  l : Vec w B1 e m ad N cap (rep N mk)
  b : Vec w B eb (m + 1) a4 L.length c4 (bcells L)
  each : ∀ x, x ∈ L → Reads1 Sh w B e m x ∧ ((∀ b, x.ad = some b → b.block < B1) ∨ x.mrk = mk)
  at_ : oc[f]? = some (.slice a4 L.length c4)
  mark : mk.length = m
  low : B ≤ go
  big : B ≤ B1
  apt : ∀ b, ad = some b → b.block ≠ gm
  old : Below B w0 w
  but : But3 go e eb w0 w

theorem St.step {Sh : List Value → Prop} {w0 w w' : World} {B B1 go gm tT e eb m f : Nat} {oc mk : List Value} {ad : Option Addr} {N cap : Nat} {a4 : Option Addr} {c4 : Nat} {L : List Bk} (h : St Sh w0 w B B1 go gm tT e eb m f oc mk ad N cap a4 c4 L) (hb : Below w.heap.size w w') (hB : B ≤ w.heap.size) : St Sh w0 w' B B1 go gm tT e eb m f oc mk ad N cap a4 c4 L :=
  ⟨h.o.below hb h.o.lt, h.k.below hb h.k.lt, h.l.keep hb, h.b.keep hb, fun x hx => ⟨⟨(h.each x hx).1.len, (h.each x hx).1.vec.keep hb, (h.each x hx).1.few, (h.each x hx).1.shape⟩, (h.each x hx).2⟩, h.at_, h.mark, h.low, h.big, h.apt, h.old.trans (hb.mono hB), h.but.trans (But3.of_below hb)⟩
/-- 'a := append(l, m, ..)': all stays. -/
theorem St.push {Sh : List Value → Prop} {w0 w w' : World} {B B1 go gm tT e eb m f : Nat} {oc mk : List Value} {ad : Option Addr} {N cap : Nat} {a4 : Option Addr} {c4 : Nat} {L : List Bk} (h : St Sh w0 w B B1 go gm tT e eb m f oc mk ad N cap a4 c4 L) (hk : Kp (ad.map (·.block)) mk w w')
    (h1 : e ≠ tT) (h2 : e ≠ eb) (hB : B ≤ w.heap.size) : St Sh w0 w' B B1 go gm tT e eb m f oc mk ad N cap a4 c4 L := by
  refine ⟨h.o.kp hk (h.o.apart h.l h1), h.k.kp hk ?_, h.l.kp h.mark hk (fun _ _ _ => rfl), h.b.kpo hk (fun b hb hb' => ?_), fun x hx => ?_, h.at_, h.mark, h.low, h.big, h.apt, hk.below h.old hB (fun k e => Nat.le_trans h.big (h.l.typed k e).1), h.but.trans (But3.of_kp hk fun k e => ?_)⟩
  · intro e; cases ad with
    | none => cases e
    | some b => simp at e; exact h.apt b rfl e
  · exact h.b.apart h.l (fun e => h2 e.symm) b hb hb'
  · obtain ⟨h3, h4⟩ := h.each x hx
    refine ⟨⟨h3.len, h3.vec.kp h3.len hk (fun b hb hb' => ?_), h3.few, h3.shape⟩, h4⟩
    rcases h4 with h4 | h4
    · have := (h.l.typed _ hb').1; have := h4 b hb; omega
    · exact h4
  · obtain ⟨_, cur, hc⟩ := h.l.typed k e; exact ⟨cur, _, hc, Or.inl rfl⟩
/-- 'o.l = append(o.l, book{..})': one book more. -/
theorem St.book {Sh : List Value → Prop} {w0 w w' : World} {B B1 go gm tT e eb m f : Nat} {oc mk : List Value} {ad : Option Addr} {N cap : Nat} {a4 : Option Addr} {c4 : Nat} {L : List Bk} (h : St Sh w0 w B B1 go gm tT e eb m f oc mk ad N cap a4 c4 L) {x : Bk} {a5 : Option Addr} {c5 : Nat}
    (hv : Vec w' B eb (m + 1) a5 (L.length + 1) c5 (bcells L ++ x.cells)) (hk : Kp (a4.map (·.block)) x.cells w w') (hx : Reads1 Sh w B e m x) (hm : x.mrk = mk) (h1 : eb ≠ tT) (h2 : e ≠ eb) (h3 : e ≠ tT) (hf : f < oc.length) (hB : B ≤ w.heap.size) :
    St Sh w0 (w'.setCell ⟨go, f, none⟩ (.slice a5 (L.length + 1) c5)) B B1 go gm tT e eb m f (oc.set f (.slice a5 (L.length + 1) c5)) mk ad N cap a5 c5 (L ++ [x]) := by
  have hu : Upd go w' (w'.setCell ⟨go, f, none⟩ (.slice a5 (L.length + 1) c5)) := (Upd.refl go w').setCell _ rfl _
  have ho : Bx w' go tT oc := h.o.kp hk (h.o.apart h.b h1)
  have hkk : Bx w' gm e mk := h.k.kp hk (h.k.apart h.b (fun e => h2 e.symm))
  have hl : Vec w' B1 e m ad N cap (rep N mk) := h.l.kpo hk (fun b hb hb' => h.l.apart h.b h2 b hb hb')
  have hgo : gm ≠ go := by
    intro e1; have a := hkk.h; have b := ho.h; rw [e1, b] at a; simp at a; exact h3 a.2.symm
  have each : ∀ y, Reads1 Sh w B e m y → Reads1 Sh (w'.setCell ⟨go, f, none⟩ (.slice a5 (L.length + 1) c5)) B e m y := fun y hy => by
    have := hy.vec.kpo hk (fun b hb hb' => hy.vec.apart h.b h2 b hb hb')
    exact ⟨hy.len, this.updo hu (fun b hb e1 => ho.apart this h3 (by rw [hb]; simp [e1])), hy.few, hy.shape⟩
  refine ⟨ho.setCell f _, hkk.upd hu hgo, hl.updo hu (fun b hb e1 => ho.apart hl h3 (by rw [hb]; simp [e1])), ?_, fun y hy => ?_, ?_, h.mark, h.low, h.big, h.apt, ?_, ?_⟩
  · rw [bcells_snoc, List.length_append]
    exact hv.updo hu (fun b hb e1 => ho.apart hv h1 (by rw [hb]; simp [e1]))
  · rcases List.mem_append.1 hy with hy | hy
    · exact ⟨each y (h.each y hy).1, (h.each y hy).2⟩
    · simp at hy; subst hy; exact ⟨each _ hx, Or.inr hm⟩
  · simp [hf]
  · exact hu.below (hk.below h.old hB (fun k e => (h.b.typed k e).1)) h.low
  · exact (h.but.trans (But3.of_kp hk fun k e1 => by obtain ⟨_, cur, hc⟩ := h.b.typed k e1; exact ⟨cur, _, hc, Or.inr rfl⟩)).trans (But3.of_upd hu (Or.inl rfl))
end Go.Proofs.Ytdjpkgaicmklmab

