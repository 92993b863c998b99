/- The program's sums: divideByte, remainder, Sum, Seal, walked. -/
import Derived.Test.YtmafnghokmcijaaL
import Derived.Test.YtmafnghokmcijaaV
namespace Go.Proofs.Ytmafnghokmcijaa
open Go.RowKit

theorem div1_i64 (p : Nat) (y : Nat) (hp : p < 4294967296) (hy : y < 4294967296) (h : (4294967295 : Int) < (y : Int) * 2) : bits .xor .i64 ((y : Int) * 2) ((p : Int) + 4294967296) = ((div1 p y : Nat) : Int) := by
  have e : ((y : Int) * 2) = ((2 * y : Nat) : Int) := by omega
  have e2 : ((p : Int) + 4294967296) = ((p + 4294967296 : Nat) : Int) := by omega
  rw [e, e2, bits_xor_i64 _ _ (by omega) (by omega)]
  unfold div1
  rw [if_pos (by omega)]
theorem div1_small (p : Nat) (y : Nat) (h : (y : Int) * 2 ≤ 4294967295) : (y : Int) * 2 = ((div1 p y : Nat) : Int) := by
  unfold div1
  rw [if_neg (by omega)]; omega
theorem div1_lt {p y : Nat} (hp : p < 4294967296) (hy : y < 4294967296) : div1 p y < 4294967296 := by
  have := div1_step p y false [] hp hy (by simp)
  simp [high] at this
  rw [this]
  exact cst_lt hp

set_option maxHeartbeats 1000000 in
theorem divideByte_any (x p : Nat) (w : World) (h1 : x < 4294967296) (h3 : p < 4294967296) (P' : Int) (hP : P' = (p : Int) + 4294967296) :
    Calls Try.prog 96 #[.int .i64 x, .int .i64 P'] w fun e w' => e = .returned (.int .i64 ((divN p 8 x : Nat) : Int)) ∧ w' = w := by
  subst hP
  go_enter Try.func96, Try.ntmps96
  go_wp2
  go_loop [0, 5] (fun v i => ∃ (k : Nat) (y : Nat), k ≤ 8 ∧ i = .int .i64 k ∧ v = .int .i64 (y : Int) ∧ y < 4294967296 ∧ divN p (8 - k) y = divN p 8 x) (fun _ i => 8 - (intOf i).toNat)
  case atStart => exact ⟨0, x, Nat.zero_le _, rfl, rfl, h1, rfl⟩
  case round =>
    obtain ⟨k, y, hk, rfl, rfl, hy1, hd⟩ := hrel
    have HD : Hid (divN p (8 - k) y = divN p 8 x) := hd
    clear hd
    by_cases hlt : k < 8
    · have e0 : divN p (8 - (k + 1)) (div1 p y) = divN p 8 x := by
        rw [← HD.out, show 8 - k = (8 - (k + 1)) + 1 by omega, divN]
      have E0 : Hid (divN p (8 - (k + 1)) (div1 p y) = divN p 8 x) := e0
      clear e0 HD
      go_wp2
      · have e1 := div1_i64 p y h3 hy1 (by assumption)
        go_round
        case rel => exact ⟨k + 1, div1 p y, by omega, by go_num, by rw [e1], div1_lt h3 hy1, E0.out⟩
        case measure => simp [intOf]; omega
      · have e1 := div1_small p y (by assumption)
        go_round
        case rel => exact ⟨k + 1, div1 p y, by omega, by go_num, by rw [e1], div1_lt h3 hy1, E0.out⟩
        case measure => simp [intOf]; omega
    · have e1 : k = 8 := by omega
      subst e1
      go_wp2
      go_ret
      exact ⟨ret_int (by rw [← HD.out]; rfl), rfl⟩

theorem take_bytes (s : List UInt8) (k : Nat) (h : k < s.length) : s.take (k + 1) = s.take k ++ [s[k]] := List.take_succ_eq_append_getElem h

set_option maxHeartbeats 2000000 in
theorem remainder_any (s : List UInt8) (p : Nat) (w : World) (hs : s.length ≤ 9223372036854775807) (h3 : p < 4294967296) (P' : Int) (hP : P' = (p : Int) + 4294967296) :
    Calls Try.prog 83 #[.string (str s), .int .i64 P'] w fun e w' => e = .returned (.int .i64 ((crc p s : Nat) : Int)) ∧ w' = w := by
  subst hP
  have hz := str_size s
  have HZ : Hid ((str s).size = s.length) := hz
  clear hz
  have hs2 : (str s).size ≤ 9223372036854775807 := by rw [HZ.out]; exact hs
  go_enter Try.func83, Try.ntmps83
  go_wp2
  go_loop [5, 6] (fun v i => ∃ (k : Nat) (r : Nat), k ≤ (str s).size ∧ i = .int .i64 k ∧ v = .int .i64 (r : Int) ∧ r < 4294967296 ∧ r = crcB p 4294967295 (allBits (s.take k))) (fun _ i => (str s).size - (intOf i).toNat)
  case atStart => exact ⟨0, 4294967295, Nat.zero_le _, rfl, rfl, by omega, rfl⟩
  case round =>
    obtain ⟨k, r, hk, rfl, rfl, hr1, hr⟩ := hrel
    have HR : Hid (r = crcB p 4294967295 (allBits (s.take k))) := hr
    clear hr
    by_cases hlt : k < (str s).size
    · have hlt2 : k < s.length := by rw [← HZ.out]; exact hlt
      go_wp2_with fail
      have eb : wrap64 (wrap64 (((str s)[k]'hlt).toNat : Int) * 16777216) = ((s[k].toNat * 16777216 : Nat) : Int) := by
        have hb := (s[k]).toNat_lt
        have e0 : ((str s)[k]'hlt).toNat = s[k].toNat := rfl
        rw [e0]
        unfold wrap64
        omega
      have hb := (s[k]).toNat_lt
      have ex : bits BinOp.xor IntKind.i64 (r : Int) (wrap64 (wrap64 (((str s)[k]'hlt).toNat : Int) * 16777216)) = ((r ^^^ (s[k].toNat * 16777216) : Nat) : Int) := by
        rw [eb, bits_xor_i64 _ _ (by omega) (by omega)]
      rw [ex]
      have hx : r ^^^ (s[k].toNat * 16777216) < 4294967296 := Nat.xor_lt_two_pow (n := 32) hr1 (by omega)
      have hd := divN_byte p h3 s[k] r hr1
      have HD : Hid (divN p 8 (r ^^^ (s[k].toNat * 16777216)) = crcB p r (bitsOf s[k])) := hd
      clear hd ex eb
      generalize hX : r ^^^ (s[k].toNat * 16777216) = X at *
      clear hX
      refine (divideByte_any X p _ hx h3 _ rfl).mono ?_
      rintro e w' ⟨rfl, rfl⟩
      have hlt3 : divN p 8 X < 4294967296 := by rw [HD.out]; exact crcB_lt h3 _ hr1
      have hfin : divN p 8 X = crcB p 4294967295 (allBits (s.take (k + 1))) := by
        rw [HD.out, HR.out, take_bytes s k hlt2]
        rw [allBits_append, allBits_one, crcB_append]
      have HF : Hid (divN p 8 X = crcB p 4294967295 (allBits (s.take (k + 1)))) := hfin
      clear hfin HD HR
      generalize divN p 8 X = Y at *
      go_wp2_with fail
      go_round
      case rel => exact ⟨k + 1, Y, by omega, by go_num, rfl, hlt3, HF.out⟩
      case measure => simp [intOf]; omega
    · have e1 : k = s.length := by rw [← HZ.out]; omega
      have e2 : crc p s = r ^^^ 4294967295 := by
        unfold crc; rw [HR.out, e1, List.take_of_length_le (Nat.le_refl _)]
      have e3 : bits .xor .i64 (r : Int) 4294967295 = ((crc p s : Nat) : Int) := by
        rw [e2, ← bits_xor_i64 r 4294967295 (by omega) (by omega)]; rfl
      have E3 : Hid (bits .xor .i64 (r : Int) 4294967295 = ((crc p s : Nat) : Int)) := e3
      clear e1 e2 e3 HR
      go_wp2_with fail
      go_ret
      exact ⟨ret_int E3.out, rfl⟩

set_option maxHeartbeats 1000000 in
theorem sum_any (s : List UInt8) (w : World) (hs : s.length ≤ 9223372036854775807) :
    Calls Try.prog 82 #[.string (str s)] w fun e w' => e = .returned (.int .i64 ((crc pSum s : Nat) : Int)) ∧ w' = w := by
  go_enter Try.func82, Try.ntmps82
  go_wp2_with fail
  refine (remainder_any s pSum _ hs (by decide) _ (by decide)).mono ?_
  rintro e w' ⟨rfl, rfl⟩
  go_wp2_with fail
  go_ret
  exact ⟨rfl, rfl⟩
set_option maxHeartbeats 1000000 in
theorem seal_any (s : List UInt8) (w : World) (hs : s.length ≤ 9223372036854775807) :
    Calls Try.prog 58 #[.string (str s)] w fun e w' => e = .returned (.int .i64 ((crc pSeal s : Nat) : Int)) ∧ w' = w := by
  go_enter Try.func58, Try.ntmps58
  go_wp2_with fail
  refine (remainder_any s pSeal _ hs (by decide) _ (by decide)).mono ?_
  rintro e w' ⟨rfl, rfl⟩
  go_wp2_with fail
  go_ret
  exact ⟨rfl, rfl⟩
end Go.Proofs.Ytmafnghokmcijaa
