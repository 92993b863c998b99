/- Texts of the proof, one behind the other; what each holds is said at its head. -/
import Derived.Test.YtdjpkgaicmklmabPartChained1
import Derived.Test.YtdjpkgaicmklmabPartChained0
import Derived.Deep.RegionHeld3
import Derived.BigQuiet
import Derived.Deep.QuietTactic
import Derived.Carry
/- The program's sums: divideByte, remainder, Sum, Seal, walked. -/
namespace Go.Proofs.Ytdjpkgaicmklmab
open Go.RowKit

theorem div1_i64 (p : Nat) (y : Nat) (hp : p < 4294967296) (hy : y < 4294967296) (h : (4294967295 : Int) < (y : Int) * 2) : bits .xor .i64 ((y : Int) * 2) ((p : Int) + 4294967296) = ((div1 p y : Nat) : Int) := by
  have e : ((y : Int) * 2) = ((2 * y : Nat) : Int) := by omega
  have e2 : ((p : Int) + 4294967296) = ((p + 4294967296 : Nat) : Int) := by omega
  rw [e, e2, bits_xor_i64 _ _ (by omega) (by omega)]
  unfold div1
  rw [if_pos (by omega)]
theorem div1_small (p : Nat) (y : Nat) (h : (y : Int) * 2 ≤ 4294967295) : (y : Int) * 2 = ((div1 p y : Nat) : Int) := by
  unfold div1
  rw [if_neg (by omega)]; omega
theorem div1_lt {p y : Nat} (hp : p < 4294967296) (hy : y < 4294967296) : div1 p y < 4294967296 := by
  have := div1_step p y false [] hp hy (by simp)
  simp [high] at this
  rw [this]
  exact cst_lt hp

set_option maxHeartbeats 1000000 in
theorem divideByte_any (x p : Nat) (w : World) (h1 : x < 4294967296) (h3 : p < 4294967296) (P' : Int) (hP : P' = (p : Int) + 4294967296) :
    Calls Try.prog 96 #[.int .i64 x, .int .i64 P'] w fun e w' => e = .returned (.int .i64 ((divN p 8 x : Nat) : Int)) ∧ w' = w := by
  subst hP
  go_enter Try.func96, Try.ntmps96
  go_wp2
  go_loop [0, 5] (fun v i => ∃ (k : Nat) (y : Nat), k ≤ 8 ∧ i = .int .i64 k ∧ v = .int .i64 (y : Int) ∧ y < 4294967296 ∧ divN p (8 - k) y = divN p 8 x) (fun _ i => 8 - (intOf i).toNat)
  case atStart => exact ⟨0, x, Nat.zero_le _, rfl, rfl, h1, rfl⟩
  case round =>
    obtain ⟨k, y, hk, rfl, rfl, hy1, hd⟩ := hrel
    have HD : Hid (divN p (8 - k) y = divN p 8 x) := hd
    clear hd
    by_cases hlt : k < 8
    · have e0 : divN p (8 - (k + 1)) (div1 p y) = divN p 8 x := by
        rw [← HD.out, show 8 - k = (8 - (k + 1)) + 1 by omega, divN]
      have E0 : Hid (divN p (8 - (k + 1)) (div1 p y) = divN p 8 x) := e0
      clear e0 HD
      go_wp2
      · have e1 := div1_i64 p y h3 hy1 (by assumption)
        go_round
        case rel => exact ⟨k + 1, div1 p y, by omega, by go_num, by rw [e1], div1_lt h3 hy1, E0.out⟩
        case measure => simp [intOf]; omega
      · have e1 := div1_small p y (by assumption)
        go_round
        case rel => exact ⟨k + 1, div1 p y, by omega, by go_num, by rw [e1], div1_lt h3 hy1, E0.out⟩
        case measure => simp [intOf]; omega
    · have e1 : k = 8 := by omega
      subst e1
      go_wp2
      go_ret
      exact ⟨ret_int (by rw [← HD.out]; rfl), rfl⟩

theorem take_bytes (s : List UInt8) (k : Nat) (h : k < s.length) : s.take (k + 1) = s.take k ++ [s[k]] := List.take_succ_eq_append_getElem h

set_option maxHeartbeats 2000000 in
theorem remainder_any (s : List UInt8) (p : Nat) (w : World) (hs : s.length ≤ 9223372036854775807) (h3 : p < 4294967296) (P' : Int) (hP : P' = (p : Int) + 4294967296) :
    Calls Try.prog 79 #[.string (str s), .int .i64 P'] w fun e w' => e = .returned (.int .i64 ((crc p s : Nat) : Int)) ∧ w' = w := by
  subst hP
  have hz := str_size s
  have HZ : Hid ((str s).size = s.length) := hz
  clear hz
  have hs2 : (str s).size ≤ 9223372036854775807 := by rw [HZ.out]; exact hs
  go_enter Try.func79, Try.ntmps79
  go_wp2
  go_loop [5, 6] (fun v i => ∃ (k : Nat) (r : Nat), k ≤ (str s).size ∧ i = .int .i64 k ∧ v = .int .i64 (r : Int) ∧ r < 4294967296 ∧ r = crcB p 4294967295 (allBits (s.take k))) (fun _ i => (str s).size - (intOf i).toNat)
  case atStart => exact ⟨0, 4294967295, Nat.zero_le _, rfl, rfl, by omega, rfl⟩
  case round =>
    obtain ⟨k, r, hk, rfl, rfl, hr1, hr⟩ := hrel
    have HR : Hid (r = crcB p 4294967295 (allBits (s.take k))) := hr
    clear hr
    by_cases hlt : k < (str s).size
    · have hlt2 : k < s.length := by rw [← HZ.out]; exact hlt
      go_wp2_with fail
      have eb : wrap64 (wrap64 (((str s)[k]'hlt).toNat : Int) * 16777216) = ((s[k].toNat * 16777216 : Nat) : Int) := by
        have hb := (s[k]).toNat_lt
        have e0 : ((str s)[k]'hlt).toNat = s[k].toNat := rfl
        rw [e0]
        unfold wrap64
        omega
      have hb := (s[k]).toNat_lt
      have ex : bits BinOp.xor IntKind.i64 (r : Int) (wrap64 (wrap64 (((str s)[k]'hlt).toNat : Int) * 16777216)) = ((r ^^^ (s[k].toNat * 16777216) : Nat) : Int) := by
        rw [eb, bits_xor_i64 _ _ (by omega) (by omega)]
      rw [ex]
      have hx : r ^^^ (s[k].toNat * 16777216) < 4294967296 := Nat.xor_lt_two_pow (n := 32) hr1 (by omega)
      have hd := divN_byte p h3 s[k] r hr1
      have HD : Hid (divN p 8 (r ^^^ (s[k].toNat * 16777216)) = crcB p r (bitsOf s[k])) := hd
      clear hd ex eb
      generalize hX : r ^^^ (s[k].toNat * 16777216) = X at *
      clear hX
      refine (divideByte_any X p _ hx h3 _ rfl).mono ?_
      rintro e w' ⟨rfl, rfl⟩
      have hlt3 : divN p 8 X < 4294967296 := by rw [HD.out]; exact crcB_lt h3 _ hr1
      have hfin : divN p 8 X = crcB p 4294967295 (allBits (s.take (k + 1))) := by
        rw [HD.out, HR.out, take_bytes s k hlt2]
        rw [allBits_append, allBits_one, crcB_append]
      have HF : Hid (divN p 8 X = crcB p 4294967295 (allBits (s.take (k + 1)))) := hfin
      clear hfin HD HR
      generalize divN p 8 X = Y at *
      go_wp2_with fail
      go_round
      case rel => exact ⟨k + 1, Y, by omega, by go_num, rfl, hlt3, HF.out⟩
      case measure => simp [intOf]; omega
    · have e1 : k = s.length := by rw [← HZ.out]; omega
      have e2 : crc p s = r ^^^ 4294967295 := by
        unfold crc; rw [HR.out, e1, List.take_of_length_le (Nat.le_refl _)]
      have e3 : bits .xor .i64 (r : Int) 4294967295 = ((crc p s : Nat) : Int) := by
        rw [e2, ← bits_xor_i64 r 4294967295 (by omega) (by omega)]; rfl
      have E3 : Hid (bits .xor .i64 (r : Int) 4294967295 = ((crc p s : Nat) : Int)) := e3
      clear e1 e2 e3 HR
      go_wp2_with fail
      go_ret
      exact ⟨ret_int E3.out, rfl⟩

set_option maxHeartbeats 1000000 in
theorem sum_any (s : List UInt8) (w : World) (hs : s.length ≤ 9223372036854775807) :
    Calls Try.prog 51 #[.string (str s)] w fun e w' => e = .returned (.int .i64 ((crc pSum s : Nat) : Int)) ∧ w' = w := by
  go_enter Try.func51, Try.ntmps51
  go_wp2_with fail
  refine (remainder_any s pSum _ hs (by decide) _ (by decide)).mono ?_
  rintro e w' ⟨rfl, rfl⟩
  go_wp2_with fail
  go_ret
  exact ⟨rfl, rfl⟩
set_option maxHeartbeats 1000000 in
theorem seal_any (s : List UInt8) (w : World) (hs : s.length ≤ 9223372036854775807) :
    Calls Try.prog 49 #[.string (str s)] w fun e w' => e = .returned (.int .i64 ((crc pSeal s : Nat) : Int)) ∧ w' = w := by
  go_enter Try.func49, Try.ntmps49
  go_wp2_with fail
  refine (remainder_any s pSeal _ hs (by decide) _ (by decide)).mono ?_
  rintro e w' ⟨rfl, rfl⟩
  go_wp2_with fail
  go_ret
  exact ⟨rfl, rfl⟩
end Go.Proofs.Ytdjpkgaicmklmab

/- Frames and bundles of both, walked. -/
namespace Go.Proofs.Ytdjpkgaicmklmab
open Go.RowKit
attribute [local go_sem] str_size str_append mk_append_str str_append_mk

/-- A frame. -/
def frameB (r : List UInt8) : List UInt8 := 245 :: 95 :: (byt r.length :: (r ++ fourI (crc pSum (byt r.length :: r))))
/-- A bundle of records. -/
def bodyB (l : List Fd) : List UInt8 := 80 :: 82 :: 67 :: 49 :: l.flatMap (fun f => frameB (recF f))
def bundleB (l : List Fd) : List UInt8 := bodyB l ++ fourI (crc pSeal (bodyB l))

theorem frameB_length (r : List UInt8) : (frameB r).length = r.length + 7 := by simp [frameB, fourI]
theorem bodyB_succ (l : List Fd) (f : Fd) : bodyB (l ++ [f]) = bodyB l ++ frameB (recF f) := by simp [bodyB]

theorem recF_length {f : Fd} (h : FdOk f) : (recF f).length ≤ 100 := by
  rcases h with ⟨s, b, rfl, h1, h2, h3⟩ | ⟨c, rfl, h1, h2⟩ | ⟨c, rfl, h1, h2, h3, h4⟩ | ⟨c, rfl, h1, h2⟩
  · have := numB_length s
    rw [recF_head]; unfold recHead; split <;> simp [fourI] <;> omega
  · have := numB_length c.site; have := numB_length c.count
    rw [recF_clock]; unfold recClock; simp; omega
  · have := numB_length c.id; have := numB_length c.site; have := numB_length c.count
    rw [recF_card]; unfold recCard; simp
    have e : c.text.data.size = c.text.size := rfl
    omega
  · have := numB_length c.id
    rw [recF_edit]; unfold recEdit; simp
    have e : c.text.data.size = c.text.size := rfl
    omega

theorem bodyB_length (l : List Fd) (h : ∀ f, f ∈ l → FdOk f) : (bodyB l).length ≤ 4 + 107 * l.length := by
  have : ∀ l : List Fd, (∀ f, f ∈ l → FdOk f) → (l.flatMap (fun f => frameB (recF f))).length ≤ 107 * l.length := by
    intro l
    induction l with
    | nil => intro _; simp
    | cons f l ih =>
      intro h
      have h1 := recF_length (h f (by simp))
      have h2 := ih (fun x hx => h x (by simp [hx]))
      simp only [List.flatMap_cons, List.length_append, frameB_length, List.length_cons]
      omega
  have := this l h
  simp only [bodyB, List.length_cons]
  omega

theorem crc_le (p : Nat) (hp : p < 4294967296) (l : List UInt8) : 0 ≤ ((crc p l : Nat) : Int) ∧ ((crc p l : Nat) : Int) ≤ 4294967295 := by
  have := crc_lt hp l; omega

set_option maxRecDepth 100000 in
set_option maxHeartbeats 1000000 in
theorem frame_any (r : List UInt8) (w : World) (hr : r.length ≤ 255) :
    Calls Try.prog 48 #[.string (str r)] w fun e w' => e = .returned (.string (str (frameB r))) ∧ Below w.heap.size w w' := by
  have E : Hid (245 :: 95 :: (byt r.length :: (r ++ fourI (crc pSum (byt r.length :: r)))) = frameB r) := rfl
  have l4 : ∀ n, (fourI n).length ≤ 4 := fun _ => Nat.le_refl _
  go_enter Try.func48, Try.ntmps48
  go_wp2_with fail
  refine (oneByte_any _ _ (by omega) (by omega)).mono ?_
  rintro e w1 ⟨rfl, hb1⟩
  go_wp2_with fail
  refine (sum_any (byt r.length :: r) _ (by simp; omega)).mono ?_
  rintro e w2 ⟨rfl, rfl⟩
  obtain ⟨c1, c2⟩ := crc_le pSum (by decide) (byt r.length :: r)
  generalize crc pSum (byt r.length :: r) = C at *
  go_wp2_with fail
  refine (fourBytes_any _ _ c1 c2).mono ?_
  rintro e w3 ⟨rfl, hb3⟩
  have l5 := l4 (C : Int)
  generalize fourI (C : Int) = t at *
  clear l4
  go_wp2_with fail
  go_ret
  exact ⟨ret_str E.out, hb1.trans (hb3.mono hb1.size)⟩

theorem Fit.ok {R : Rep} (hF : Fit R) {s b : Int} (hs : Num s) (hb1 : 0 ≤ b) (hb2 : b ≤ 4294967295) : ∀ f, f ∈ recsOf s b R → FdOk f := by
  intro f h
  simp only [recsOf, recs3, recs2, recs1, List.mem_append, List.mem_cons, List.mem_map, List.mem_range] at h
  rcases h with ((rfl | ⟨i, hi, rfl⟩) | ⟨i, hi, rfl⟩) | ⟨i, hi, rfl⟩
  · exact Or.inl ⟨s, b, rfl, hs, hb1, hb2⟩
  · obtain ⟨g1, g2⟩ := hF.c1 i hi
    exact Or.inr (Or.inl ⟨_, rfl, g1, g2⟩)
  · obtain ⟨g1, g2, g3, g4⟩ := hF.d1 i hi
    exact Or.inr (Or.inr (Or.inl ⟨_, rfl, g1, g2, g3, g4⟩))
  · obtain ⟨g1, g2⟩ := hF.e1 i hi
    exact Or.inr (Or.inr (Or.inr ⟨_, rfl, g1, g2⟩))

set_option maxRecDepth 100000 in
set_option maxHeartbeats 4000000 in
theorem bundle_any (s b : Int) (R : Rep) (a1 a2 a3 : Option Addr) (k1 k2 k3 : Nat) (w : World) (hR : Has w R a1 a2 a3) (hF : Fit R) (hs : Num s) (hb1 : 0 ≤ b) (hb2 : b ≤ 4294967295) :
    Calls Try.prog 32 #[.agg (lnkA s b R a1 a2 a3 k1 k2 k3)] w fun e w' => e = .returned (.string (str (bundleB (recsOf s b R)))) ∧ Below w.heap.size w w' := by
  have m1 := hF.n1; have m2 := hF.n2; have m3 := hF.n3
  have h0 : BoxL w s b R a1 a2 a3 k1 k2 k3 (w.alloc (.cells (lnkA s b R a1 a2 a3 k1 k2 k3) 45)) := Below.refl _ _
  have hrec := recordsOf_any s b R a1 a2 a3 k1 k2 k3 (w.alloc (.cells (lnkA s b R a1 a2 a3 k1 k2 k3) 45)) (hR.below (box_old h0)) hF hs hb1 hb2
  go_enter Try.func32, Try.ntmps32
  go_wp2_with fail
  refine hrec.mono ?_
  rintro e w1 ⟨ad, cap, N, rfl, hN, hv, hh⟩
  have h1 := box_old (box_step h0 hh)
  clear hh h0 hrec
  have hok := hF.ok hs hb1 hb2
  have hNb : N ≤ 3000001 := by rw [hN, recsOf_length]; omega
  generalize hll : recsOf s b R = l at *
  have HLL : Hid (recsOf s b R = l) := hll
  clear hll
  have HN : Hid (N = l.length) := hN
  have HO : Hid (∀ f, f ∈ l → FdOk f) := hok
  clear hN hok
  go_wp2_with fail
  go_loopw [4, 5, 6] (fun v u _ wr => ∃ (k : Nat) (B : List UInt8), k ≤ N ∧ u = .int .i64 k ∧ v = .string (str B) ∧ B = bodyB (l.take k) ∧ B.length ≤ 400000000 ∧ Below w1.heap.size w1 wr) (fun _ u _ _ => N - (intOf u).toNat)
  case atStart => exact ⟨0, [80, 82, 67, 49], Nat.zero_le _, rfl, rfl, rfl, by simp, Below.refl _ _⟩
  case round =>
    obtain ⟨k, B, hk, rfl, rfl, hB, hBl, hb⟩ := hrel
    have HB : Hid (B = bodyB (l.take k)) := hB
    clear hB
    by_cases hlt : k < N
    · have hl : k < l.length := by rw [← HN.out]; exact hlt
      have hvr := hv.keep hb
      obtain ⟨bb, o, _, hbl, hix, hc, _, _⟩ := hvr.at (P := Try.prog) (t := 33) (by kernel_rfl) (by kernel_rfl) hlt (k : Int) rfl
      have hcell : wr.cell? ⟨bb, o, none⟩ = some (.string (str (recF l[k]))) := by
        have := hc 0 (by omega)
        rw [Nat.add_zero, Nat.mul_one, Nat.add_zero, List.getElem?_map, List.getElem?_eq_getElem hl] at this
        exact this
      have hfk := HO.out l[k] (List.getElem_mem hl)
      have hfl := recF_length hfk
      have hbod : bodyB (l.take (k + 1)) = B ++ frameB (recF l[k]) := by
        rw [List.take_succ_eq_append_getElem hl, bodyB_succ, HB.out]
      have hbl2 := bodyB_length (l.take (k + 1)) (fun f hf => HO.out f (List.mem_of_mem_take hf))
      rw [hbod] at hbl2
      have hfr := frameB_length (recF l[k])
      have hk3 : (l.take (k + 1)).length ≤ 3000001 := by rw [List.length_take]; have := HN.out; omega
      have hbl3 : (B ++ frameB (recF l[k])).length ≤ 400000000 := by omega
      have HD : Hid (bodyB (l.take (k + 1)) = B ++ frameB (recF l[k])) := hbod
      clear hc hbod hbl2 hk3 hvr HB hfk
      generalize recF l[k] = r at *
      have hfr2 : (frameB r).length ≤ 200 := by omega
      clear hfr
      go_wp2_with fail
      refine (frame_any r _ (by omega)).mono ?_
      rintro e w2 ⟨rfl, hh⟩
      have hb3 : Below w1.heap.size w1 w2 := hb.trans (hh.mono hb.size)
      clear hh
      generalize frameB r = fr at *
      rw [List.length_append] at hbl3
      go_wp2_with fail
      go_roundw
      case rel => exact ⟨k + 1, B ++ fr, by omega, by go_num, rfl, HD.out.symm, by simp; omega, hb3⟩
      case measure => simp [intOf]; omega
    · have e1 : k = N := by omega
      have E : Hid (B = bodyB l) := by
        have h := HB.out
        rw [e1, HN.out, List.take_of_length_le (Nat.le_refl _)] at h; exact h
      clear e1 HB
      go_wp2_with fail
      refine (seal_any B _ (by omega)).mono ?_
      rintro e w2 ⟨rfl, rfl⟩
      obtain ⟨c1, c2⟩ := crc_le pSeal (by decide) B
      have F : Hid (B ++ fourI (crc pSeal B) = bundleB l) := by show _ = _; rw [E.out]; rfl
      generalize crc pSeal B = C at *
      go_wp2_with fail
      refine (fourBytes_any _ _ c1 c2).mono ?_
      rintro e w3 ⟨rfl, hh⟩
      have l5 : (fourI (C : Int)).length ≤ 4 := Nat.le_refl _
      generalize fourI (C : Int) = t at *
      go_wp2_with fail
      go_ret
      exact ⟨ret_str (by rw [HLL.out]; exact F.out), h1.trans ((hb.trans (hh.mono hb.size)).mono h1.size)⟩
end Go.Proofs.Ytdjpkgaicmklmab

/- A bundle is of one list of records: numbers end themselves, frames tell their length. -/
namespace Go.Proofs.Ytdjpkgaicmklmab
open Go.RowKit

theorem byt_inj {a b : Int} (ha : 0 ≤ a) (ha2 : a < 256) (hb : 0 ≤ b) (hb2 : b < 256) (h : byt a = byt b) : a = b := by
  unfold byt at h
  have := congrArg UInt8.toNat h
  simp only [UInt8.toNat_ofNat'] at this
  omega

/-- Numbers end themselves. -/
theorem numI_free : ∀ (k : Nat) (a b : Int), 0 ≤ a → 0 ≤ b → a < 128 ^ (k + 1) → b < 128 ^ (k + 1) → ∀ x y : List UInt8, (numI k a).map byt ++ x = (numI k b).map byt ++ y → a = b ∧ x = y
  | 0, a, b, ha, hb, la, lb, x, y, h => by
    simp [numI] at h la lb
    exact ⟨byt_inj ha (by omega) hb (by omega) h.1, h.2⟩
  | k + 1, a, b, ha, hb, la, lb, x, y, h => by
    have e : (128 : Int) ^ (k + 1 + 1) = 128 ^ (k + 1) * 128 := Int.pow_succ ..
    simp only [numI] at h
    split at h <;> split at h
    · simp at h; exact ⟨byt_inj ha (by omega) hb (by omega) h.1, h.2⟩
    · simp at h
      have := byt_inj ha (by omega) (by omega) (by omega) h.1
      omega
    · simp at h
      have := byt_inj (by omega) (by omega) hb (by omega) h.1
      omega
    · simp only [List.map_cons, List.cons_append, List.cons.injEq] at h
      have h1 := byt_inj (by omega) (by omega) (by omega) (by omega) h.1
      have h2 := numI_free k (a / 128) (b / 128) (by omega) (by omega) (Int.ediv_lt_of_lt_mul (by omega) (by rw [← e]; exact la)) (Int.ediv_lt_of_lt_mul (by omega) (by rw [← e]; exact lb)) x y h.2
      exact ⟨by omega, h2.2⟩
theorem numB_free {a b : Int} (ha : Num a) (hb : Num b) {x y : List UInt8} (h : numB a ++ x = numB b ++ y) : a = b ∧ x = y :=
  numI_free 9 a b ha.1 hb.1 (Int.lt_of_le_of_lt ha.2 (by decide)) (Int.lt_of_le_of_lt hb.2 (by decide)) x y h

theorem ba_ext {a b : ByteArray} (h : a.data.toList = b.data.toList) : a = b := by
  cases a; cases b; simp at h; simp [h]

/-- A record's bytes are of one record. -/
theorem recF_inj {f g : Fd} (hf : FdOk f) (hg : FdOk g) (h : recF f = recF g) (hs : f.seq = 0) (hs2 : g.seq = 0) (hb : f.base = 0) (hb2 : g.base = 0) : f = g := by
  rcases hf with ⟨s, b, rfl, hns, -, -⟩ | ⟨c, rfl, n1, n2⟩ | ⟨c, rfl, n1, n2, n3, -⟩ | ⟨c, rfl, n1, -⟩ <;>
  rcases hg with ⟨s', b', rfl, hns', -, -⟩ | ⟨c', rfl, m1, m2⟩ | ⟨c', rfl, m1, m2, m3, -⟩ | ⟨c', rfl, m1, -⟩ <;>
  simp only [recF_head, recF_clock, recF_card, recF_edit, recHead, recClock, recCard, recEdit, List.cons.injEq] at h
  all_goals first
    | (exact absurd h.1 (by decide))
    | skip
  · have e1 : s = 0 := hs
    have e2 : s' = 0 := hs2
    have e3 : b = 0 := hb
    have e4 : b' = 0 := hb2
    subst e1 e2 e3 e4; rfl
  · obtain ⟨e1, h2⟩ := numB_free n1 m1 h.2
    obtain ⟨e2, -⟩ := numB_free n2 m2 (x := []) (y := []) (by simpa using h2)
    cases c; cases c'; simp at e1 e2; subst e1 e2; rfl
  · obtain ⟨e1, h2⟩ := numB_free n1 m1 h.2
    obtain ⟨e2, h3⟩ := numB_free n2 m2 h2
    obtain ⟨e3, h4⟩ := numB_free n3 m3 h3
    simp only [List.cons.injEq] at h4
    have e4 : c.gone = c'.gone := by
      have := h4.1
      cases hg1 : c.gone <;> cases hg2 : c'.gone <;> simp [hg1, hg2] at this ⊢
    have e5 := ba_ext h4.2
    cases c; cases c'; simp at e1 e2 e3 e4 e5; subst e1 e2 e3 e4 e5; rfl
  · obtain ⟨e1, h2⟩ := numB_free n1 m1 h.2
    have e5 := ba_ext h2
    cases c; cases c'; simp at e1 e5; subst e1 e5; rfl

/-- Frames tell their length. -/
theorem frameB_free {r s : List UInt8} (hr : r.length ≤ 255) (hs : s.length ≤ 255) {x y : List UInt8} (h : frameB r ++ x = frameB s ++ y) : r = s ∧ x = y := by
  simp only [frameB, List.cons_append, List.cons.injEq, List.append_assoc] at h
  obtain ⟨-, -, h1, h2⟩ := h
  have hl : r.length = s.length := by
    have := byt_inj (a := (r.length : Int)) (b := (s.length : Int)) (by omega) (by omega) (by omega) (by omega) h1; omega
  obtain ⟨e1, e2⟩ := List.append_inj h2 hl
  subst e1
  exact ⟨rfl, List.append_cancel_left e2⟩

theorem frames_inj : ∀ (l m : List Fd), (∀ f, f ∈ l → FdOk f ∧ f.seq = 0 ∧ f.base = 0) → (∀ f, f ∈ m → FdOk f ∧ f.seq = 0 ∧ f.base = 0) → l.flatMap (fun f => frameB (recF f)) = m.flatMap (fun f => frameB (recF f)) → l = m
  | [], [], _, _, _ => rfl
  | [], g :: m, _, _, h => by simp [frameB] at h
  | f :: l, [], _, _, h => by simp [frameB] at h
  | f :: l, g :: m, hl, hm, h => by
    simp only [List.flatMap_cons] at h
    have a := hl f (List.mem_cons_self ..)
    have b := hm g (List.mem_cons_self ..)
    obtain ⟨e1, e2⟩ := frameB_free (by have := recF_length a.1; omega) (by have := recF_length b.1; omega) h
    have := recF_inj a.1 b.1 e1 a.2.1 b.2.1 a.2.2 b.2.2
    subst this
    rw [frames_inj l m (fun x hx => hl x (List.mem_cons_of_mem _ hx)) (fun x hx => hm x (List.mem_cons_of_mem _ hx)) e2]

theorem bundleB_inj {l m : List Fd} (hl : ∀ f, f ∈ l → FdOk f ∧ f.seq = 0 ∧ f.base = 0) (hm : ∀ f, f ∈ m → FdOk f ∧ f.seq = 0 ∧ f.base = 0) (h : bundleB l = bundleB m) : l = m := by
  unfold bundleB at h
  have e : (bodyB l).length = (bodyB m).length := by
    have := congrArg List.length h
    simp [fourI] at this; exact this
  obtain ⟨h, -⟩ := List.append_inj h e
  simp only [bodyB, List.cons.injEq, true_and] at h
  exact frames_inj l m hl hm h

/-- All records have no sequence and no base. -/
theorem recsOf_zero (R : Rep) : ∀ f, f ∈ recsOf 0 0 R → f.seq = 0 ∧ f.base = 0 := by
  intro f hf
  simp only [recsOf, recs3, recs2, recs1, List.mem_append, List.mem_cons, List.mem_map] at hf
  rcases hf with ((rfl | ⟨i, _, rfl⟩) | ⟨i, _, rfl⟩) | ⟨i, _, rfl⟩ <;> exact ⟨rfl, rfl⟩

/-- Two replicas are the same. -/
structure Same (R T : Rep) : Prop where
  n1 : R.n1 = T.n1
  n2 : R.n2 = T.n2
  n3 : R.n3 = T.n3
  c : ∀ i, i < R.n1 → R.c i = T.c i
  d : ∀ i, i < R.n2 → R.d i = T.d i
  e : ∀ i, i < R.n3 → R.e i = T.e i

theorem filter_kind (R : Rep) (k : Int) : (recsOf 0 0 R).filter (fun f => f.kind == k) =
    (if k = 4 then [fdHead 0 0] else []) ++ (if k = 1 then (List.range R.n1).map (fun i => fdClock (R.c i)) else []) ++ (if k = 2 then (List.range R.n2).map (fun i => fdCard (R.d i)) else []) ++ (if k = 3 then (List.range R.n3).map (fun i => fdEdit (R.e i)) else []) := by
  have h : ∀ (n : Nat) (f : Nat → Fd) (q : Int), (∀ i, (f i).kind = q) → ((List.range n).map f).filter (fun f => f.kind == k) = if k = q then (List.range n).map f else [] := by
    intro n f q hq
    split
    · rename_i e; subst e
      rw [List.filter_eq_self]; intro x hx; obtain ⟨i, _, rfl⟩ := List.mem_map.1 hx; simp [hq]
    · rename_i e
      rw [List.filter_eq_nil_iff]; intro x hx; obtain ⟨i, _, rfl⟩ := List.mem_map.1 hx; simp [hq]; omega
  unfold recsOf recs3 recs2 recs1
  rw [List.filter_append, List.filter_append, h R.n3 _ 3 (fun _ => rfl), h R.n2 _ 2 (fun _ => rfl), List.filter_cons, h R.n1 _ 1 (fun _ => rfl)]
  congr 2
  by_cases e : k = 4
  · subst e; simp [fdHead]
  · rw [if_neg (by show ¬ ((4 : Int) == k) = true; simp; omega), if_neg e]; simp

theorem map_range_inj {α : Type} {n m : Nat} {f g : Nat → α} (h : (List.range n).map f = (List.range m).map g) : n = m ∧ ∀ i, i < n → f i = g i := by
  have e : n = m := by simpa using congrArg List.length h
  subst e
  refine ⟨rfl, fun i hi => ?_⟩
  have := congrArg (fun l => l[i]?) h
  simpa [hi] using this

theorem recsOf_inj {R T : Rep} (h : recsOf 0 0 R = recsOf 0 0 T) : Same R T := by
  have k1 := congrArg (List.filter (fun f => f.kind == 1)) h
  have k2 := congrArg (List.filter (fun f => f.kind == 2)) h
  have k3 := congrArg (List.filter (fun f => f.kind == 3)) h
  rw [filter_kind, filter_kind] at k1 k2 k3
  simp at k1 k2 k3
  obtain ⟨a1, b1⟩ := map_range_inj k1
  obtain ⟨a2, b2⟩ := map_range_inj k2
  obtain ⟨a3, b3⟩ := map_range_inj k3
  refine ⟨a1, a2, a3, fun i hi => ?_, fun i hi => ?_, fun i hi => ?_⟩
  · have := b1 i hi
    simp [fdClock] at this
    cases hr : R.c i; cases ht : T.c i; simp [hr, ht] at this; simp [this]
  · have := b2 i hi
    simp [fdCard] at this
    cases hr : R.d i; cases ht : T.d i; simp [hr, ht] at this; simp [this]
  · have := b3 i hi
    simp [fdEdit] at this
    cases hr : R.e i; cases ht : T.e i; simp [hr, ht] at this; simp [this]

theorem Same.recs {R T : Rep} (h : Same R T) : recsOf 0 0 R = recsOf 0 0 T := by
  have e1 : (List.range R.n1).map (fun i => fdClock (R.c i)) = (List.range R.n1).map (fun i => fdClock (T.c i)) := List.map_congr_left fun i hi => by rw [h.c i (List.mem_range.1 hi)]
  have e2 : (List.range R.n2).map (fun i => fdCard (R.d i)) = (List.range R.n2).map (fun i => fdCard (T.d i)) := List.map_congr_left fun i hi => by rw [h.d i (List.mem_range.1 hi)]
  have e3 : (List.range R.n3).map (fun i => fdEdit (R.e i)) = (List.range R.n3).map (fun i => fdEdit (T.e i)) := List.map_congr_left fun i hi => by rw [h.e i (List.mem_range.1 hi)]
  unfold recsOf recs3 recs2 recs1
  rw [e1, e2, e3, ← h.n1, ← h.n2, ← h.n3]

/-- A bundle is of one sound replica. -/
theorem bundle_same {R T : Rep} (hR : Fit R) (hT : Fit T) : bundleB (recsOf 0 0 R) = bundleB (recsOf 0 0 T) ↔ Same R T := by
  constructor
  · intro h
    refine recsOf_inj (bundleB_inj (fun f hf => ⟨hR.ok ⟨by omega, by omega⟩ (by omega) (by omega) f hf, recsOf_zero R f hf⟩) (fun f hf => ⟨hT.ok ⟨by omega, by omega⟩ (by omega) (by omega) f hf, recsOf_zero T f hf⟩) h)
  · intro h; rw [h.recs]

/-- How many bytes a number has. -/
def bytesI : Nat → Int → Nat
  | 0, _ => 1
  | k + 1, n => if n < 128 then 1 else bytesI k (n / 128) + 1
theorem numI_bytes : ∀ (k : Nat) (n : Int), (numI k n).length = bytesI k n
  | 0, n => rfl
  | k + 1, n => by
    simp only [numI, bytesI]; split
    · rfl
    · simp [numI_bytes k (n / 128)]
theorem numB_bytes (n : Int) : (numB n).length = bytesI 9 n := by simp [numB, numI_bytes]

/-- How long the frames of records are. -/
def lenF (f : Fd) : Nat := (recF f).length + 7
def lenL (l : List Fd) : Nat := (l.map lenF).sum
theorem bundleB_length (l : List Fd) : (bundleB l).length = 8 + lenL l := by
  have : ∀ l : List Fd, (l.flatMap (fun f => frameB (recF f))).length = lenL l := by
    intro l; induction l with
    | nil => rfl
    | cons f l ih => simp only [List.flatMap_cons, List.length_append, ih, frameB_length, lenL, List.map_cons, List.sum_cons, lenF]
  unfold bundleB bodyB
  simp [fourI, this]; omega
theorem lenL_snoc (l : List Fd) (f : Fd) : lenL (l ++ [f]) = lenL l + lenF f := by simp [lenL]
theorem lenF_clock (c : Ck) : lenF (fdClock c) = 8 + bytesI 9 c.site + bytesI 9 c.count := by
  unfold lenF; rw [recF_clock, recClock, List.length_cons, List.length_append, numB_bytes, numB_bytes]; omega
theorem lenF_card (c : Cd) : lenF (fdCard c) = 9 + bytesI 9 c.id + bytesI 9 c.site + bytesI 9 c.count + c.text.size := by
  have : c.text.data.toList.length = c.text.size := Array.length_toList
  unfold lenF; rw [recF_card, recCard, List.length_cons, List.length_append, List.length_append, List.length_append, List.length_cons, numB_bytes, numB_bytes, numB_bytes]; omega
theorem lenF_edit (c : Ed) : lenF (fdEdit c) = 8 + bytesI 9 c.id + c.text.size := by
  have : c.text.data.toList.length = c.text.size := Array.length_toList
  unfold lenF; rw [recF_edit, recEdit, List.length_cons, List.length_append, numB_bytes]; omega
theorem lenF_head : lenF (fdHead 0 0) = 9 := by
  unfold lenF; rw [recF_head]; rfl
end Go.Proofs.Ytdjpkgaicmklmab

/- The reference's bundle, walked. -/
namespace Go.Proofs.Ytdjpkgaicmklmab
open Go.RowKit
attribute [local go_sem] str_size str_append mk_append_str str_append_mk

end Go.Proofs.Ytdjpkgaicmklmab

/- parcellaw.handed: a copy of a replica with spare room, walked. -/
namespace Go.Proofs.Ytdjpkgaicmklmab
open Go.RowKit

abbrev mk1 : List Value := [.int .i64 (-7), .int .i64 0]
abbrev mk2 : List Value := [.int .i64 (-7), .int .i64 0, .int .i64 0, .bool false, .string ⟨#[]⟩]
abbrev mk3 : List Value := [.int .i64 (-7), .string ⟨#[]⟩]
abbrev z1 : List Value := [.int .i64 0, .int .i64 0]
abbrev z2 : List Value := [.int .i64 0, .int .i64 0, .int .i64 0, .bool false, .string ⟨#[]⟩]
abbrev z3 : List Value := [.int .i64 0, .string ⟨#[]⟩]

/-- A copy of a replica, with two marks behind each row. -/
structure Handed (w : World) (R : Rep) (b1 b2 b3 : Option Addr) (g1 g2 g3 : Nat) : Prop where
  e1 : b1 = some ⟨g1, 0, none⟩
  e2 : b2 = some ⟨g2, 0, none⟩
  e3 : b3 = some ⟨g3, 0, none⟩
  o1 : Own w g1 72 2 ((List.range R.n1).map (fun i => (R.c i).cells) ++ [mk1, mk1])
  o2 : Own w g2 68 5 ((List.range R.n2).map (fun i => (R.d i).cells) ++ [mk2, mk2])
  o3 : Own w g3 61 2 ((List.range R.n3).map (fun i => (R.e i).cells) ++ [mk3, mk3])
  d12 : g1 < g2
  d23 : g2 < g3

/-- Two places behind a row, the first i of them marked. -/
def mrk (i : Nat) (m z : List Value) : List (List Value) := if i = 0 then [z, z] else if i = 1 then [m, z] else [m, m]
theorem mrk_start (n : Nat) (f : Nat → List Value) (m z : List Value) : (List.range n).map f ++ (List.replicate (n + 2) z).drop n = (List.range n).map f ++ mrk 0 m z := by
  congr 1
  rw [List.drop_replicate, show n + 2 - n = 2 by omega]; rfl
theorem mrk_length (n i : Nat) (f : Nat → List Value) (m z : List Value) : ((List.range n).map f ++ mrk i m z).length = n + 2 := by
  unfold mrk; split; (simp); split <;> simp
theorem mrk_step (n i : Nat) (f : Nat → List Value) (m z : List Value) (hi : i < 2) : ((List.range n).map f ++ mrk i m z).set (n + i) m = (List.range n).map f ++ mrk (i + 1) m z := by
  rw [List.set_append]
  simp only [List.length_map, List.length_range]
  rw [if_neg (by omega), show n + i - n = i by omega]
  congr 1
  rcases (by omega : i = 0 ∨ i = 1) with rfl | rfl <;> rfl
theorem mrk_end (m z : List Value) : mrk 2 m z = [m, m] := rfl

/-- The world behind the parameter's box and the result's cell. -/
abbrev W2 (w : World) (R : Rep) (a1 a2 a3 : Option Addr) (k1 k2 k3 : Nat) : World :=
  (w.alloc (.cells #[.slice a1 R.n1 k1, .slice a2 R.n2 k2, .slice a3 R.n3 k3] 28)).alloc (.cells #[.slice none 0 0, .slice none 0 0, .slice none 0 0] 28)
abbrev Box2 (w : World) (R : Rep) (a1 a2 a3 : Option Addr) (k1 k2 k3 : Nat) (wr : World) : Prop := Below (w.heap.size + 2) (W2 w R a1 a2 a3 k1 k2 k3) wr

theorem Box2.cells {w : World} {R : Rep} {a1 a2 a3 : Option Addr} {k1 k2 k3 : Nat} {wr : World} (hb : Box2 w R a1 a2 a3 k1 k2 k3 wr) :
    wr.cell? ⟨w.heap.size, 0, none⟩ = some (.slice a1 R.n1 k1) ∧ wr.cell? ⟨w.heap.size, 1, none⟩ = some (.slice a2 R.n2 k2) ∧ wr.cell? ⟨w.heap.size, 2, none⟩ = some (.slice a3 R.n3 k3) := by
  refine ⟨?_, ?_, ?_⟩
  · rw [hb.cell (p := ⟨w.heap.size, 0, none⟩) (by simp)]; simp
  · rw [hb.cell (p := ⟨w.heap.size, 1, none⟩) (by simp)]; simp
  · rw [hb.cell (p := ⟨w.heap.size, 2, none⟩) (by simp)]; simp
theorem Box2.size {w : World} {R : Rep} {a1 a2 a3 : Option Addr} {k1 k2 k3 : Nat} {wr : World} (hb : Box2 w R a1 a2 a3 k1 k2 k3 wr) : w.heap.size + 2 ≤ wr.heap.size := by
  have := Below.size hb; simpa using this
theorem Box2.res {w : World} {R : Rep} {a1 a2 a3 : Option Addr} {k1 k2 k3 : Nat} {wr : World} (hb : Box2 w R a1 a2 a3 k1 k2 k3 wr) :
    (wr.cell? ⟨w.heap.size + 1, 0, none⟩ = some (.slice none 0 0) ∧ wr.cell? ⟨w.heap.size + 1, 1, none⟩ = some (.slice none 0 0) ∧ wr.cell? ⟨w.heap.size + 1, 2, none⟩ = some (.slice none 0 0)) ∧
    (∀ j, wr.frozen? ⟨w.heap.size + 1, j, none⟩ = false) := by
  refine ⟨⟨?_, ?_, ?_⟩, fun j => ?_⟩
  · rw [hb.cell (p := ⟨w.heap.size + 1, 0, none⟩) (by simp)]; simp
  · rw [hb.cell (p := ⟨w.heap.size + 1, 1, none⟩) (by simp)]; simp
  · rw [hb.cell (p := ⟨w.heap.size + 1, 2, none⟩) (by simp)]; simp
  · rw [hb.frozen (p := ⟨w.heap.size + 1, j, none⟩) (by simp)]; simp
theorem Box2.old {w : World} {R : Rep} {a1 a2 a3 : Option Addr} {k1 k2 k3 : Nat} {wr : World} (hb : Box2 w R a1 a2 a3 k1 k2 k3 wr) : Below w.heap.size w wr :=
  (((Below.refl _ w).alloc (Nat.le_refl _) _).alloc (by simp) _).trans (hb.mono (by omega))
theorem Box2.step {w : World} {R : Rep} {a1 a2 a3 : Option Addr} {k1 k2 k3 : Nat} {wr w' : World} (hb : Box2 w R a1 a2 a3 k1 k2 k3 wr) (h : Below wr.heap.size wr w') : Box2 w R a1 a2 a3 k1 k2 k3 w' :=
  Below.trans hb (h.mono hb.size)

theorem set3 (wr : World) (b : Nat) (x y z u0 u1 u2 : Value) (h0 : wr.cell? ⟨b, 0, none⟩ = some u0) (h1 : wr.cell? ⟨b, 1, none⟩ = some u1) (h2 : wr.cell? ⟨b, 2, none⟩ = some u2) :
    ∃ X, X = (((wr.setCell ⟨b, 0, none⟩ x).setCell ⟨b, 1, none⟩ y).setCell ⟨b, 2, none⟩ z).drew ∧ X.cell? ⟨b, 0, none⟩ = some x ∧ X.cell? ⟨b, 1, none⟩ = some y ∧ X.cell? ⟨b, 2, none⟩ = some z ∧ Upd b wr X := by
  refine ⟨_, rfl, ?_, ?_, ?_, ((((Upd.refl b wr).setCell ⟨b, 0, none⟩ rfl x).setCell ⟨b, 1, none⟩ rfl y).setCell ⟨b, 2, none⟩ rfl z).drew⟩ <;> simp [go_sem, h0, h1, h2]
theorem cells_len1 (x : Ck) : x.cells.length = 2 := rfl
theorem ones1 (x : Ck) : ∀ v, v ∈ x.cells → v.oneCell' = true := by intro v h; simp at h; rcases h with rfl | rfl <;> rfl
theorem ones2 (x : Cd) : ∀ v, v ∈ x.cells → v.oneCell' = true := by intro v h; simp at h; rcases h with rfl | rfl | rfl | rfl | rfl <;> rfl
theorem ones3 (x : Ed) : ∀ v, v ∈ x.cells → v.oneCell' = true := by intro v h; simp at h; rcases h with rfl | rfl <;> rfl

end Go.Proofs.Ytdjpkgaicmklmab

/- parcellaw.sameReplica and parcellaw.still, walked, where the two replicas are the same. -/
namespace Go.Proofs.Ytdjpkgaicmklmab
open Go.RowKit

/-- Two boxes. -/
abbrev BoxS (w : World) (R : Rep) (a1 a2 a3 b1 b2 b3 : Option Addr) (k1 k2 k3 l1 l2 l3 : Nat) (wr : World) : Prop :=
  Below (w.heap.size + 2) ((w.alloc (.cells #[.slice a1 R.n1 k1, .slice a2 R.n2 k2, .slice a3 R.n3 k3] 28)).alloc (.cells #[.slice b1 R.n1 l1, .slice b2 R.n2 l2, .slice b3 R.n3 l3] 28)) wr

theorem BoxS.cells {w : World} {R : Rep} {a1 a2 a3 b1 b2 b3 : Option Addr} {k1 k2 k3 l1 l2 l3 : Nat} {wr : World} (hb : BoxS w R a1 a2 a3 b1 b2 b3 k1 k2 k3 l1 l2 l3 wr) :
    (wr.cell? ⟨w.heap.size, 0, none⟩ = some (.slice a1 R.n1 k1) ∧ wr.cell? ⟨w.heap.size, 1, none⟩ = some (.slice a2 R.n2 k2) ∧ wr.cell? ⟨w.heap.size, 2, none⟩ = some (.slice a3 R.n3 k3)) ∧
    wr.cell? ⟨w.heap.size + 1, 0, none⟩ = some (.slice b1 R.n1 l1) ∧ wr.cell? ⟨w.heap.size + 1, 1, none⟩ = some (.slice b2 R.n2 l2) ∧ wr.cell? ⟨w.heap.size + 1, 2, none⟩ = some (.slice b3 R.n3 l3) := by
  refine ⟨⟨?_, ?_, ?_⟩, ?_, ?_, ?_⟩
  · rw [hb.cell (p := ⟨w.heap.size, 0, none⟩) (by simp)]; simp
  · rw [hb.cell (p := ⟨w.heap.size, 1, none⟩) (by simp)]; simp
  · rw [hb.cell (p := ⟨w.heap.size, 2, none⟩) (by simp)]; simp
  · rw [hb.cell (p := ⟨w.heap.size + 1, 0, none⟩) (by simp)]; simp
  · rw [hb.cell (p := ⟨w.heap.size + 1, 1, none⟩) (by simp)]; simp
  · rw [hb.cell (p := ⟨w.heap.size + 1, 2, none⟩) (by simp)]; simp
theorem BoxS.old {w : World} {R : Rep} {a1 a2 a3 b1 b2 b3 : Option Addr} {k1 k2 k3 l1 l2 l3 : Nat} {wr : World} (hb : BoxS w R a1 a2 a3 b1 b2 b3 k1 k2 k3 l1 l2 l3 wr) : Below w.heap.size w wr :=
  (((Below.refl _ w).alloc (Nat.le_refl _) _).alloc (by simp) _).trans (hb.mono (by omega))
theorem BoxS.size {w : World} {R : Rep} {a1 a2 a3 b1 b2 b3 : Option Addr} {k1 k2 k3 l1 l2 l3 : Nat} {wr : World} (hb : BoxS w R a1 a2 a3 b1 b2 b3 k1 k2 k3 l1 l2 l3 wr) : w.heap.size + 2 ≤ wr.heap.size := by
  have := Below.size hb; simpa using this

theorem Own.mark {w : World} {g e m n i : Nat} {f : Nat → List Value} {mk : List Value} (h : Own w g e m ((List.range n).map f ++ [mk, mk])) (hi : i < 2) (hm : 0 < m) {v : Value} (hv : mk[0]? = some v) : w.cell? ⟨g, (n + i) * m, none⟩ = some v := by
  have hc := h.cell (n + i) 0 (by simp; omega) hm
  rw [Nat.add_zero] at hc
  rw [hc]
  have hg : ((List.range n).map f ++ [mk, mk]).getD (n + i) [] = mk := by
    rw [List.getD, List.getElem?_append_right (by simp)]
    simp only [List.length_map, List.length_range, show n + i - n = i by omega]
    rcases (by omega : i = 0 ∨ i = 1) with rfl | rfl <;> rfl
  rw [hg, hv]

theorem Handed.has {w : World} {R : Rep} {a1 a2 a3 b1 b2 b3 : Option Addr} {g1 g2 g3 : Nat} (h : Handed w R b1 b2 b3 g1 g2 g3) {w0 : World} (hR : Has w0 R a1 a2 a3) : Has w R b1 b2 b3 := by
  refine ⟨?_, ?_, ?_, hR.b1, hR.b2, hR.b3, hR.y1, hR.y2, hR.y3⟩
  · rw [h.e1]; refine h.o1.lies R.n1 _ (by simp) fun i hi => ?_
    rw [List.getD, List.getElem?_append_left (by simpa using hi)]; simp [hi]
  · rw [h.e2]; refine h.o2.lies R.n2 _ (by simp) fun i hi => ?_
    rw [List.getD, List.getElem?_append_left (by simpa using hi)]; simp [hi]
  · rw [h.e3]; refine h.o3.lies R.n3 _ (by simp) fun i hi => ?_
    rw [List.getD, List.getElem?_append_left (by simpa using hi)]; simp [hi]

theorem Handed.below {w w' : World} {R : Rep} {b1 b2 b3 : Option Addr} {g1 g2 g3 : Nat} (h : Handed w R b1 b2 b3 g1 g2 g3) (hb : Below w.heap.size w w') : Handed w' R b1 b2 b3 g1 g2 g3 :=
  ⟨h.e1, h.e2, h.e3, h.o1.below hb h.o1.lt, h.o2.below hb h.o2.lt, h.o3.below hb h.o3.lt, h.d12, h.d23⟩

theorem boxS_step {w : World} {R : Rep} {a1 a2 a3 b1 b2 b3 : Option Addr} {k1 k2 k3 l1 l2 l3 : Nat} {wr w' : World} (hb : BoxS w R a1 a2 a3 b1 b2 b3 k1 k2 k3 l1 l2 l3 wr) (h : Below wr.heap.size wr w') : BoxS w R a1 a2 a3 b1 b2 b3 k1 k2 k3 l1 l2 l3 w' :=
  Below.trans hb (h.mono hb.size)

end Go.Proofs.Ytdjpkgaicmklmab

/- parcelref.numbered, walked. -/
namespace Go.Proofs.Ytdjpkgaicmklmab
open Go.RowKit

end Go.Proofs.Ytdjpkgaicmklmab

/- parcelref.texted, walked. -/
namespace Go.Proofs.Ytdjpkgaicmklmab
open Go.RowKit

end Go.Proofs.Ytdjpkgaicmklmab

/- parcelref.rising, walked. -/
namespace Go.Proofs.Ytdjpkgaicmklmab
open Go.RowKit

end Go.Proofs.Ytdjpkgaicmklmab

/- parcelref.Clocked, walked. -/
namespace Go.Proofs.Ytdjpkgaicmklmab
open Go.RowKit

end Go.Proofs.Ytdjpkgaicmklmab

/- sound.wrongNumber, walked. -/
namespace Go.Proofs.Ytdjpkgaicmklmab
open Go.RowKit

set_option maxHeartbeats 2000000 in
theorem wrongNumber_any (R : Rep) (a1 a2 a3 : Option Addr) (k1 k2 k3 : Nat) (w : World) (hR : Has w R a1 a2 a3) :
    Calls Try.prog 42 #[repV R a1 a2 a3 k1 k2 k3] w fun e w' => e = .returned (.bool R.numB) ∧ Below w.heap.size w w' := by
  have b1 := hR.b1; have b2 := hR.b2; have b3 := hR.b3
  go_enter Try.func42, Try.ntmps42
  go_wp2
  go_loopw [3] (fun i wr => ∃ k : Nat, k ≤ R.n1 ∧ i = .int .i64 k ∧ anyTo R.num1 k = false ∧ BoxR w R a1 a2 a3 k1 k2 k3 wr) (fun i _ => R.n1 - (intOf i).toNat)
  case atStart => exact ⟨0, Nat.zero_le _, rfl, rfl, Below.refl _ _⟩
  case round =>
    obtain ⟨k, hk, rfl, hno, hb⟩ := hrel
    obtain ⟨x1, x2, x3⟩ := box3 hb
    have HN : Hid (anyTo R.num1 k = false) := hno
    clear hno
    by_cases hlt : k < R.n1
    · obtain ⟨b, o, hbl, hix, hs, hc⟩ := (hR.below (below_box hb)).l1.clock k1 hlt
      go_wp2
      go_quiet ((go_at_call 71; exact Calls.quiet_of_same (wrongSiteOrCount_any _ _ _)))
      go_wp2
      · have hp : R.num1 k = true := by unfold Rep.num1; assumption
        go_ret
        exact ⟨ret_bool (by simp [Rep.numB, anyTo_hit hlt hp]), below_drewN (below_box hb) _⟩
      · have hp : R.num1 k = false := by unfold Rep.num1; assumption
        go_roundw
        case rel => exact ⟨k + 1, by omega, by go_num, anyTo_no HN.out hp, below_drewN hb _⟩
        case measure => simp [intOf]; omega
    · have e1 : k = R.n1 := by omega
      have N1 : Hid (anyTo R.num1 R.n1 = false) := e1 ▸ HN.out
      clear HN e1
      go_wp2
      go_loopw [4] (fun i wr => ∃ k : Nat, k ≤ R.n2 ∧ i = .int .i64 k ∧ anyTo R.num2 k = false ∧ BoxR w R a1 a2 a3 k1 k2 k3 wr) (fun i _ => R.n2 - (intOf i).toNat)
      case atStart => exact ⟨0, Nat.zero_le _, rfl, rfl, hb⟩
      case round =>
        clear x1 x2 x3 hb hk
        obtain ⟨k, hk, rfl, hno, hb⟩ := hrel
        obtain ⟨x1, x2, x3⟩ := box3 hb
        have HN : Hid (anyTo R.num2 k = false) := hno
        clear hno
        by_cases hlt : k < R.n2
        · obtain ⟨b, o, hbl, hix, hi, hs, hc, -, -⟩ := (hR.below (below_box hb)).l2.card k2 hlt
          go_wp2
          go_quiet ((go_at_call 71; exact Calls.quiet_of_same (wrongSiteOrCount_any _ _ _)))
          go_wp2_with (go_at_call 72; refine (outOfRange_any _ _ _).mono ?_; rintro e w' ⟨rfl, rfl⟩)
          · have hp : R.num2 k = true := by unfold Rep.num2; simp [*]
            go_ret
            exact ⟨ret_bool (by simp [Rep.numB, anyTo_hit hlt hp]), below_drewN (below_box hb) _⟩
          · have hp : R.num2 k = true := by unfold Rep.num2; simp [*]
            go_ret
            exact ⟨ret_bool (by simp [Rep.numB, anyTo_hit hlt hp]), below_drewN (below_box hb) _⟩
          · have hp : R.num2 k = false := by unfold Rep.num2; simp [*]
            go_roundw
            case rel => exact ⟨k + 1, by omega, by go_num, anyTo_no HN.out hp, below_drewN hb _⟩
            case measure => simp [intOf]; omega
        · have e1 : k = R.n2 := by omega
          have N2 : Hid (anyTo R.num2 R.n2 = false) := e1 ▸ HN.out
          clear HN e1
          go_wp2
          go_loopw [5] (fun i wr => ∃ k : Nat, k ≤ R.n3 ∧ i = .int .i64 k ∧ anyTo R.num3 k = false ∧ BoxR w R a1 a2 a3 k1 k2 k3 wr) (fun i _ => R.n3 - (intOf i).toNat)
          case atStart => exact ⟨0, Nat.zero_le _, rfl, rfl, hb⟩
          case round =>
            clear x1 x2 x3 hb hk
            obtain ⟨k, hk, rfl, hno, hb⟩ := hrel
            obtain ⟨x1, x2, x3⟩ := box3 hb
            have HN : Hid (anyTo R.num3 k = false) := hno
            clear hno
            by_cases hlt : k < R.n3
            · obtain ⟨b, o, hbl, hix, hi, -⟩ := (hR.below (below_box hb)).l3.edit k3 hlt
              go_wp2_with (go_at_call 72; refine (outOfRange_any _ _ _).mono ?_; rintro e w' ⟨rfl, rfl⟩)
              · have hp : R.num3 k = true := by unfold Rep.num3; assumption
                go_ret
                exact ⟨ret_bool (by simp [Rep.numB, anyTo_hit hlt hp]), below_box hb⟩
              · have hp : R.num3 k = false := by unfold Rep.num3; assumption
                go_roundw
                case rel => exact ⟨k + 1, by omega, by go_num, anyTo_no HN.out hp, hb⟩
                case measure => simp [intOf]; omega
            · have e1 : k = R.n3 := by omega
              have N3 : Hid (anyTo R.num3 R.n3 = false) := e1 ▸ HN.out
              clear HN e1
              go_wp2
              go_ret
              exact ⟨ret_bool (by simp [Rep.numB, N1.out, N2.out, N3.out]), below_box hb⟩


end Go.Proofs.Ytdjpkgaicmklmab

/- sound.wrongText, walked. -/
namespace Go.Proofs.Ytdjpkgaicmklmab
open Go.RowKit

set_option maxHeartbeats 2000000 in
theorem wrongText_any (R : Rep) (a1 a2 a3 : Option Addr) (k1 k2 k3 : Nat) (w : World) (hR : Has w R a1 a2 a3) :
    Calls Try.prog 43 #[repV R a1 a2 a3 k1 k2 k3] w fun e w' => e = .returned (.bool R.txtB) ∧ Below w.heap.size w w' := by
  have b1 := hR.b1; have b2 := hR.b2; have b3 := hR.b3
  go_enter Try.func43, Try.ntmps43
  go_wp2
  go_loopw [3] (fun i wr => ∃ k : Nat, k ≤ R.n2 ∧ i = .int .i64 k ∧ anyTo R.txt2 k = false ∧ BoxR w R a1 a2 a3 k1 k2 k3 wr) (fun i _ => R.n2 - (intOf i).toNat)
  case atStart => exact ⟨0, Nat.zero_le _, rfl, rfl, Below.refl _ _⟩
  case round =>
    obtain ⟨k, hk, rfl, hno, hb⟩ := hrel
    obtain ⟨x1, x2, x3⟩ := box3 hb
    have HN : Hid (anyTo R.txt2 k = false) := hno
    clear hno
    by_cases hlt : k < R.n2
    · obtain ⟨b, o, hbl, hix, -, -, -, hg, ht⟩ := (hR.below (below_box hb)).l2.card k2 hlt
      go_wp2
      · have hp : R.txt2 k = true := by unfold Rep.txt2 longB; simp [‹(60 : Int) < ((R.d k).text.size : Int)›]
        go_ret
        exact ⟨ret_bool (by simp [Rep.txtB, anyTo_hit hlt hp]), below_box hb⟩
      · have hp : R.txt2 k = true := by unfold Rep.txt2; simp only [‹(R.d k).gone = true›, ‹(!(R.d k).text.toList.isEmpty) = true›]; simp
        go_ret
        exact ⟨ret_bool (by simp [Rep.txtB, anyTo_hit hlt hp]), below_box hb⟩
      · have hp : R.txt2 k = false := by
          have h1 : ((R.d k).text.size : Int) ≤ 60 := by assumption
          unfold Rep.txt2 longB; simp only [‹(!(R.d k).text.toList.isEmpty) = false›]; simp; omega
        go_roundw
        case rel => exact ⟨k + 1, by omega, by go_num, anyTo_no HN.out hp, hb⟩
        case measure => simp [intOf]; omega
      · have hp : R.txt2 k = false := by
          have h1 : ((R.d k).text.size : Int) ≤ 60 := by assumption
          have h2 : ¬ (R.d k).gone = true := by assumption
          unfold Rep.txt2 longB; simp [h2]; omega
        go_roundw
        case rel => exact ⟨k + 1, by omega, by go_num, anyTo_no HN.out hp, hb⟩
        case measure => simp [intOf]; omega
    · have e1 : k = R.n2 := by omega
      have N1 : Hid (anyTo R.txt2 R.n2 = false) := e1 ▸ HN.out
      clear HN e1
      go_wp2
      go_loopw [4] (fun i wr => ∃ k : Nat, k ≤ R.n3 ∧ i = .int .i64 k ∧ anyTo R.txt3 k = false ∧ BoxR w R a1 a2 a3 k1 k2 k3 wr) (fun i _ => R.n3 - (intOf i).toNat)
      case atStart => exact ⟨0, Nat.zero_le _, rfl, rfl, hb⟩
      case round =>
        clear x1 x2 x3 hb hk
        obtain ⟨k, hk, rfl, hno, hb⟩ := hrel
        obtain ⟨x1, x2, x3⟩ := box3 hb
        have HN : Hid (anyTo R.txt3 k = false) := hno
        clear hno
        by_cases hlt : k < R.n3
        · obtain ⟨b, o, hbl, hix, -, ht⟩ := (hR.below (below_box hb)).l3.edit k3 hlt
          go_wp2
          · have hp : R.txt3 k = true := by unfold Rep.txt3 longB; simp [‹(60 : Int) < ((R.e k).text.size : Int)›]
            go_ret
            exact ⟨ret_bool (by simp [Rep.txtB, anyTo_hit hlt hp]), below_box hb⟩
          · have hp : R.txt3 k = false := by
              have h1 : ((R.e k).text.size : Int) ≤ 60 := by assumption
              unfold Rep.txt3 longB; simp; omega
            go_roundw
            case rel => exact ⟨k + 1, by omega, by go_num, anyTo_no HN.out hp, hb⟩
            case measure => simp [intOf]; omega
        · have e1 : k = R.n3 := by omega
          have N2 : Hid (anyTo R.txt3 R.n3 = false) := e1 ▸ HN.out
          clear HN e1
          go_wp2
          go_ret
          exact ⟨ret_bool (by simp [Rep.txtB, N1.out, N2.out]), below_box hb⟩


end Go.Proofs.Ytdjpkgaicmklmab

/- sound.notRising, walked. -/
namespace Go.Proofs.Ytdjpkgaicmklmab
open Go.RowKit

set_option maxHeartbeats 2000000 in
theorem notRising_any (R : Rep) (a1 a2 a3 : Option Addr) (k1 k2 k3 : Nat) (w : World) (hR : Has w R a1 a2 a3) :
    Calls Try.prog 44 #[repV R a1 a2 a3 k1 k2 k3] w fun e w' => e = .returned (.bool R.risB) ∧ Below w.heap.size w w' := by
  have b1 := hR.b1; have b2 := hR.b2; have b3 := hR.b3
  go_enter Try.func44, Try.ntmps44
  go_wp2
  go_loopw [3] (fun i wr => ∃ k : Nat, k ≤ R.n1 - 1 ∧ i = .int .i64 ((k : Int) + 1) ∧ anyTo R.ris1 k = false ∧ BoxR w R a1 a2 a3 k1 k2 k3 wr) (fun i _ => R.n1 - (intOf i).toNat)
  case atStart => exact ⟨0, Nat.zero_le _, rfl, rfl, Below.refl _ _⟩
  case round =>
    obtain ⟨k, hk, rfl, hno, hb⟩ := hrel
    obtain ⟨x1, x2, x3⟩ := box3 hb
    have HN : Hid (anyTo R.ris1 k = false) := hno
    clear hno
    by_cases hlt : k + 1 < R.n1
    · obtain ⟨b, o, hbl, hix, hs, -⟩ := (hR.below (below_box hb)).l1.clock k1 (show k < R.n1 by omega)
      obtain ⟨b', o', hbl', hix', hs', -⟩ := (hR.below (below_box hb)).l1.clock k1 hlt
      rw [show ((k + 1 : Nat) : Int) = (k : Int) + 1 from by omega] at hix'
      go_wp2
      go_quiet (fail)
      go_wp2
      · have hp : R.ris1 k = true := by unfold Rep.ris1; simp [‹(R.c (k + 1)).site ≤ (R.c k).site›]
        go_ret
        exact ⟨ret_bool (by simp [Rep.risB, anyTo_hit (show k < R.n1 - 1 by omega) hp]), below_drewN (below_box hb) _⟩
      · have hp : R.ris1 k = false := by
          have h1 : (R.c k).site < (R.c (k + 1)).site := by assumption
          unfold Rep.ris1; simp; omega
        go_roundw
        case rel => exact ⟨k + 1, by omega, by go_num, anyTo_no HN.out hp, below_drewN hb _⟩
        case measure => simp [intOf]; omega
    · have e1 : k = R.n1 - 1 := by omega
      have N1 : Hid (anyTo R.ris1 (R.n1 - 1) = false) := e1 ▸ HN.out
      clear HN e1
      go_wp2
      go_loopw [4] (fun i wr => ∃ k : Nat, k ≤ R.n2 - 1 ∧ i = .int .i64 ((k : Int) + 1) ∧ anyTo R.ris2 k = false ∧ BoxR w R a1 a2 a3 k1 k2 k3 wr) (fun i _ => R.n2 - (intOf i).toNat)
      case atStart => exact ⟨0, Nat.zero_le _, rfl, rfl, hb⟩
      case round =>
        clear x1 x2 x3 hb hk hlt
        obtain ⟨k, hk, rfl, hno, hb⟩ := hrel
        obtain ⟨x1, x2, x3⟩ := box3 hb
        have HN : Hid (anyTo R.ris2 k = false) := hno
        clear hno
        by_cases hlt : k + 1 < R.n2
        · obtain ⟨b, o, hbl, hix, hs, -, -, -, -⟩ := (hR.below (below_box hb)).l2.card k2 (show k < R.n2 by omega)
          obtain ⟨b', o', hbl', hix', hs', -, -, -, -⟩ := (hR.below (below_box hb)).l2.card k2 hlt
          rw [show ((k + 1 : Nat) : Int) = (k : Int) + 1 from by omega] at hix'
          go_wp2
          go_quiet (fail)
          go_wp2
          · have hp : R.ris2 k = true := by unfold Rep.ris2; simp [‹(R.d (k + 1)).id ≤ (R.d k).id›]
            go_ret
            exact ⟨ret_bool (by simp [Rep.risB, anyTo_hit (show k < R.n2 - 1 by omega) hp]), below_drewN (below_box hb) _⟩
          · have hp : R.ris2 k = false := by
              have h1 : (R.d k).id < (R.d (k + 1)).id := by assumption
              unfold Rep.ris2; simp; omega
            go_roundw
            case rel => exact ⟨k + 1, by omega, by go_num, anyTo_no HN.out hp, below_drewN hb _⟩
            case measure => simp [intOf]; omega
        · have e1 : k = R.n2 - 1 := by omega
          have N2 : Hid (anyTo R.ris2 (R.n2 - 1) = false) := e1 ▸ HN.out
          clear HN e1
          go_wp2
          go_ret
          exact ⟨ret_bool (by simp [Rep.risB, N1.out, N2.out]), below_box hb⟩

end Go.Proofs.Ytdjpkgaicmklmab

/- replicas.CountOf and sound.uncovered, walked. -/
namespace Go.Proofs.Ytdjpkgaicmklmab
open Go.RowKit

set_option maxHeartbeats 1000000 in
theorem countOf_any (a : Option Addr) (n cap : Nat) (c : Nat → Ck) (site : Int) (w : World) (hn : n ≤ 140737488355328) (hL : Lies w a n 2 (fun i => (c i).cells)) :
    Calls Try.prog 73 #[.slice a n cap, .int .i64 site] w fun e w' => e = .returned (.int .i64 ((clockTo c site n).getD 0)) ∧ w' = w := by
  go_enter Try.func73, Try.ntmps73
  go_wp2
  go_loop [5] (fun i => ∃ k : Nat, k ≤ n ∧ i = .int .i64 k ∧ clockTo c site k = none) (fun i => n - (intOf i).toNat)
  case atStart => exact ⟨0, Nat.zero_le _, rfl, rfl⟩
  case round =>
    obtain ⟨k, hk, rfl, hno⟩ := hrel
    have HN : Hid (clockTo c site k = none) := hno
    clear hno
    by_cases hlt : k < n
    · obtain ⟨b, o, hbl, hix, hs, hc⟩ := hL.clock cap hlt
      go_wp2
      · have hp : (c k).site = site := by simpa using ‹((c k).site == site) = true›
        go_ret
        exact ⟨ret_int (by rw [clockTo_hit hlt HN.out hp]; rfl), rfl⟩
      · have hp : ¬ (c k).site = site := by simpa using ‹((c k).site == site) = false›
        go_round
        case rel => exact ⟨k + 1, by omega, by go_num, clockTo_no HN.out hp⟩
        case measure => simp [intOf]; omega
    · have e1 : k = n := by omega
      have N1 : Hid (clockTo c site n = none) := e1 ▸ HN.out
      clear HN e1
      go_wp2
      go_ret
      exact ⟨ret_int (by rw [N1.out]; rfl), rfl⟩

theorem Lies.drewN {w : World} {a : Option Addr} {n m : Nat} {f : Nat → List Value} (h : Lies w a n m f) (q : Nat) : Lies (w.drewN q) a n m f := h.below (below_drewN (Below.refl _ _) _)

set_option maxHeartbeats 1000000 in
theorem uncovered_any (R : Rep) (a1 a2 a3 : Option Addr) (k1 k2 k3 : Nat) (w : World) (hR : Has w R a1 a2 a3) :
    Calls Try.prog 45 #[repV R a1 a2 a3 k1 k2 k3] w fun e w' => e = .returned (.bool R.uncB) ∧ Below w.heap.size w w' := by
  have b1 := hR.b1; have b2 := hR.b2; have b3 := hR.b3
  go_enter Try.func45, Try.ntmps45
  go_wp2
  go_loopw [3] (fun i wr => ∃ k : Nat, k ≤ R.n2 ∧ i = .int .i64 k ∧ anyTo R.unc k = false ∧ BoxR w R a1 a2 a3 k1 k2 k3 wr) (fun i _ => R.n2 - (intOf i).toNat)
  case atStart => exact ⟨0, Nat.zero_le _, rfl, rfl, Below.refl _ _⟩
  case round =>
    obtain ⟨k, hk, rfl, hno, hb⟩ := hrel
    obtain ⟨x1, x2, x3⟩ := box3 hb
    have HN : Hid (anyTo R.unc k = false) := hno
    clear hno
    by_cases hlt : k < R.n2
    · obtain ⟨b, o, hbl, hix, -, hs, hc, -, -⟩ := (hR.below (below_box hb)).l2.card k2 hlt
      have hL := (hR.below (below_box hb)).l1
      go_wp2
      go_quiet ((go_at_call 73; exact Calls.quiet_of_same (countOf_any _ _ _ R.c _ _ (by omega) (by exact hL.drewN _))))
      go_wp2
      · have hp : R.unc k = true := by unfold Rep.unc Rep.clk; simp [‹(clockTo R.c (R.d k).site R.n1).getD 0 < (R.d k).count›]
        go_ret
        exact ⟨ret_bool (by simp [Rep.uncB, anyTo_hit hlt hp]), below_drewN (below_box hb) _⟩
      · have hp : R.unc k = false := by
          have h1 : (R.d k).count ≤ (clockTo R.c (R.d k).site R.n1).getD 0 := by assumption
          unfold Rep.unc Rep.clk; simp; omega
        go_roundw
        case rel => exact ⟨k + 1, by omega, by go_num, anyTo_no HN.out hp, below_drewN hb _⟩
        case measure => simp [intOf]; omega
    · have e1 : k = R.n2 := by omega
      have N1 : Hid (anyTo R.unc R.n2 = false) := e1 ▸ HN.out
      clear HN e1
      go_wp2
      go_ret
      exact ⟨ret_bool (by simp [Rep.uncB, N1.out]), below_box hb⟩

end Go.Proofs.Ytdjpkgaicmklmab

/- sound.TooMany, sound.Check and parcel.Check, walked. -/
namespace Go.Proofs.Ytdjpkgaicmklmab
open Go.RowKit

set_option maxHeartbeats 1000000 in
theorem tooMany_any (R : Rep) (a1 a2 a3 : Option Addr) (k1 k2 k3 : Nat) (w : World) (hR : Has w R a1 a2 a3) :
    Calls Try.prog 38 #[repV R a1 a2 a3 k1 k2 k3] w fun e w' => e = .returned (.bool R.manyB) ∧ Below w.heap.size w w' := by
  have b1 := hR.b1; have b2 := hR.b2; have b3 := hR.b3
  go_enter Try.func38, Try.ntmps38
  go_wp2
  all_goals (go_ret; refine ⟨ret_bool ?_, (Below.refl _ _).alloc (Nat.le_refl _) _⟩; unfold Rep.manyB; rw [Bool.eq_iff_iff]; simp; try omega)

/-- The world behind a call made with the box laid. -/
theorem boxR_step {w wr w1 : World} {R : Rep} {a1 a2 a3 : Option Addr} {k1 k2 k3 : Nat} (hb : BoxR w R a1 a2 a3 k1 k2 k3 wr) (h : Below wr.heap.size wr w1) : BoxR w R a1 a2 a3 k1 k2 k3 w1 :=
  hb.trans (h.mono (by have := hb.size; simpa using this))

set_option maxHeartbeats 2000000 in
theorem check_any (R : Rep) (a1 a2 a3 : Option Addr) (k1 k2 k3 : Nat) (w : World) (hR : Has w R a1 a2 a3) :
    Calls Try.prog 31 #[repV R a1 a2 a3 k1 k2 k3] w fun e w' => e = .returned (.int .i64 R.chk) ∧ Below w.heap.size w w' := by
  have hb0 : BoxR w R a1 a2 a3 k1 k2 k3 (w.alloc (.cells #[.slice a1 R.n1 k1, .slice a2 R.n2 k2, .slice a3 R.n3 k3] 28)) := Below.refl _ _
  go_enter Try.func31, Try.ntmps31
  go_wp2_with fail
  refine (tooMany_any R a1 a2 a3 k1 k2 k3 _ (hR.below (below_box hb0))).mono ?_
  rintro e w1 ⟨rfl, h1⟩
  have hb1 := boxR_step hb0 h1
  obtain ⟨x1, x2, x3⟩ := box3 hb1
  clear h1 hb0
  cases g1 : R.manyB
  case true =>
    go_wp2_with fail
    go_ret
    exact ⟨ret_int (by simp [Rep.chk, g1]), below_box hb1⟩
  go_wp2_with fail
  refine (wrongNumber_any R a1 a2 a3 k1 k2 k3 _ (hR.below (below_box hb1))).mono ?_
  rintro e w2 ⟨rfl, h1⟩
  have hb2 := boxR_step hb1 h1
  clear x1 x2 x3 h1 hb1
  obtain ⟨x1, x2, x3⟩ := box3 hb2
  cases g2 : R.numB
  case true =>
    go_wp2_with fail
    go_ret
    exact ⟨ret_int (by simp [Rep.chk, g1, g2]), below_box hb2⟩
  go_wp2_with fail
  refine (wrongText_any R a1 a2 a3 k1 k2 k3 _ (hR.below (below_box hb2))).mono ?_
  rintro e w3 ⟨rfl, h1⟩
  have hb3 := boxR_step hb2 h1
  clear x1 x2 x3 h1 hb2
  obtain ⟨x1, x2, x3⟩ := box3 hb3
  cases g3 : R.txtB
  case true =>
    go_wp2_with fail
    go_ret
    exact ⟨ret_int (by simp [Rep.chk, g1, g2, g3]), below_box hb3⟩
  go_wp2_with fail
  refine (notRising_any R a1 a2 a3 k1 k2 k3 _ (hR.below (below_box hb3))).mono ?_
  rintro e w4 ⟨rfl, h1⟩
  have hb4 := boxR_step hb3 h1
  clear x1 x2 x3 h1 hb3
  obtain ⟨x1, x2, x3⟩ := box3 hb4
  cases g4 : R.risB
  case true =>
    go_wp2_with fail
    go_ret
    exact ⟨ret_int (by simp [Rep.chk, g1, g2, g3, g4]), below_box hb4⟩
  go_wp2_with fail
  refine (uncovered_any R a1 a2 a3 k1 k2 k3 _ (hR.below (below_box hb4))).mono ?_
  rintro e w5 ⟨rfl, h1⟩
  have hb5 := boxR_step hb4 h1
  clear x1 x2 x3 h1 hb4
  obtain ⟨x1, x2, x3⟩ := box3 hb5
  cases g5 : R.uncB
  case true =>
    go_wp2_with fail
    go_ret
    exact ⟨ret_int (by simp [Rep.chk, g1, g2, g3, g4, g5]), below_box hb5⟩
  go_wp2_with fail
  refine (clashing_any a2 R.n2 k2 R.d _ hR.b2 (hR.below (below_box hb5)).l2).mono ?_
  rintro e w6 ⟨rfl, h1⟩
  have hb6 := boxR_step hb5 h1
  clear x1 x2 x3 h1 hb5
  have hcl : anyTo (fun i => anyTo (fun k => stampB (R.d i) (R.d k)) i) R.n2 = R.clashB := rfl
  rw [hcl]
  clear hcl
  cases g6 : R.clashB
  case true =>
    go_wp2_with fail
    go_ret
    exact ⟨ret_int (by simp [Rep.chk, g1, g2, g3, g4, g5, g6]), below_box hb6⟩
  go_wp2_with fail
  go_ret
  exact ⟨ret_int (by simp [Rep.chk, g1, g2, g3, g4, g5, g6]), below_box hb6⟩

end Go.Proofs.Ytdjpkgaicmklmab

/- parcelref.Check, walked. -/
namespace Go.Proofs.Ytdjpkgaicmklmab
open Go.RowKit

end Go.Proofs.Ytdjpkgaicmklmab

/- parcellaw.Checks: called with any replica that lies in memory it answers true, and nothing that was there has turned. -/
namespace Go.Proofs.Ytdjpkgaicmklmab
open Go.RowKit

theorem below_step2 {w w1 wr : World} {R : Rep} {a1 a2 a3 : Option Addr} {k1 k2 k3 : Nat} {o : Obj} (hb : BoxR w R a1 a2 a3 k1 k2 k3 w1) (h : Below (w1.heap.size + 1) (w1.alloc o) wr) : BoxR w R a1 a2 a3 k1 k2 k3 wr :=
  boxR_step hb (below_box h)

end Go.Proofs.Ytdjpkgaicmklmab

/- Export of both, and parcellaw.Exports: called with any replica that lies in memory it answers true. -/
namespace Go.Proofs.Ytdjpkgaicmklmab
open Go.RowKit

/-- A sound replica can be written. -/
theorem Rep.fit {R : Rep} (h : R.chk = 0) : Fit R := by
  have g1 : R.manyB = false := by
    cases hh : R.manyB
    · rfl
    · simp [Rep.chk, hh] at h
  have g2 : R.numB = false := by
    cases hh : R.numB
    · rfl
    · simp [Rep.chk, g1, hh] at h
  have g3 : R.txtB = false := by
    cases hh : R.txtB
    · rfl
    · simp [Rep.chk, g1, g2, hh] at h
  have hm : R.n1 ≤ 8 ∧ R.n2 ≤ 40 ∧ R.n3 ≤ 16 := by
    unfold Rep.manyB at g1; simp at g1; omega
  unfold Rep.numB at g2
  simp only [Bool.or_eq_false_iff] at g2
  unfold Rep.txtB at g3
  simp only [Bool.or_eq_false_iff] at g3
  have num : ∀ n m : Int, outB n m = false → m ≤ 4611686018427387904 → Num n := by
    intro n m hh hm
    unfold outB at hh
    simp at hh
    exact ⟨by omega, by omega⟩
  have none_of : ∀ (p : Nat → Bool) (n : Nat), anyTo p n = false → ∀ i, i < n → p i = false := by
    intro p n hh i hi
    cases hp : p i
    · rfl
    · rw [anyTo_hit hi hp] at hh; cases hh
  have long : ∀ t : ByteArray, longB t = false → t.size ≤ 60 := by
    intro t ht
    unfold longB at ht
    simp at ht
    omega
  refine ⟨by omega, by omega, by omega, fun i hi => ?_, fun i hi => ?_, fun i hi => ?_⟩
  · have h1 := none_of _ _ g2.1 i hi
    unfold Rep.num1 scB at h1
    simp only [Bool.or_eq_false_iff] at h1
    exact ⟨num _ _ h1.1 (by decide), num _ _ h1.2 (by decide)⟩
  · have h1 := none_of _ _ g2.2.1 i hi
    unfold Rep.num2 scB at h1
    simp only [Bool.or_eq_false_iff] at h1
    have h2 := none_of _ _ g3.1 i hi
    unfold Rep.txt2 at h2
    simp only [Bool.or_eq_false_iff] at h2
    exact ⟨num _ _ h1.2 (by decide), num _ _ h1.1.1 (by decide), num _ _ h1.1.2 (by decide), long _ h2.1⟩
  · have h1 := none_of _ _ g2.2.2 i hi
    unfold Rep.num3 at h1
    have h2 := none_of _ _ g3.2 i hi
    unfold Rep.txt3 at h2
    exact ⟨num _ _ h1 (by decide), long _ h2⟩

/-- The answer of Export. -/
def Rep.exp (R : Rep) : List UInt8 := if R.chk = 0 then bundleB (recsOf 0 0 R) else []

set_option maxRecDepth 100000 in
set_option maxHeartbeats 2000000 in
theorem export_any (R : Rep) (a1 a2 a3 : Option Addr) (k1 k2 k3 : Nat) (w : World) (hR : Has w R a1 a2 a3) :
    Calls Try.prog 10 #[repV R a1 a2 a3 k1 k2 k3] w fun e w' => e = .returned (.tuple #[.string (str R.exp), .int .i64 R.chk]) ∧ Below w.heap.size w w' := by
  have hb0 : BoxR w R a1 a2 a3 k1 k2 k3 (w.alloc (.cells #[.slice a1 R.n1 k1, .slice a2 R.n2 k2, .slice a3 R.n3 k3] 28)) := Below.refl _ _
  go_enter Try.func10, Try.ntmps10
  go_wp2_with fail
  refine (check_any R a1 a2 a3 k1 k2 k3 _ (hR.below (below_box hb0))).mono ?_
  rintro e w1 ⟨rfl, h1⟩
  have hb1 := boxR_step hb0 h1
  clear h1 hb0
  by_cases hc : R.chk = 0
  · have E : Hid (R.exp = bundleB (recsOf 0 0 R)) := by show _ = _; unfold Rep.exp; rw [if_pos hc]
    have hF := Rep.fit hc
    obtain ⟨x1, x2, x3⟩ := box3 hb1
    rw [hc]
    have HC : Hid (R.chk = 0) := hc
    clear hc
    go_wp2_with fail
    refine (bundle_any 0 0 R a1 a2 a3 k1 k2 k3 _ (hR.below (below_box hb1)) hF ⟨by decide, by decide⟩ (by decide) (by decide)).mono ?_
    rintro e w2 ⟨rfl, h2⟩
    have hb2 := boxR_step hb1 h2
    go_wp2_with fail
    go_ret2
    exact ⟨by rw [E.out, HC.out]; rfl, below_box hb2⟩
  · have E : Hid (R.exp = []) := by show _ = _; unfold Rep.exp; rw [if_neg hc]
    have hcb : (R.chk != 0) = true := by simp [hc]
    clear hc
    go_wp2_with fail
    go_ret2
    exact ⟨by rw [E.out]; rfl, below_box hb1⟩

end Go.Proofs.Ytdjpkgaicmklmab

/- parcelkeep's bytes and same, walked. -/
namespace Go.Proofs.Ytdjpkgaicmklmab
open Go.RowKit

theorem bytesI_le : ∀ (k : Nat) (n : Int), bytesI k n ≤ k + 1
  | 0, n => by simp [bytesI]
  | k + 1, n => by
    simp only [bytesI]; split
    · omega
    · have := bytesI_le k (n / 128); omega
theorem bytesI_small (k : Nat) (n : Int) (h : n < 128) : bytesI k n = 1 := by
  cases k with
  | zero => rfl
  | succ k => simp [bytesI, h]

/-- The two parameters' boxes. -/
abbrev BoxT (w : World) (R T : Rep) (a1 a2 a3 b1 b2 b3 : Option Addr) (k1 k2 k3 l1 l2 l3 : Nat) (wr : World) : Prop :=
  Below (w.heap.size + 2) ((w.alloc (.cells #[.slice a1 R.n1 k1, .slice a2 R.n2 k2, .slice a3 R.n3 k3] 28)).alloc (.cells #[.slice b1 T.n1 l1, .slice b2 T.n2 l2, .slice b3 T.n3 l3] 28)) wr
theorem BoxT.cells {w : World} {R T : Rep} {a1 a2 a3 b1 b2 b3 : Option Addr} {k1 k2 k3 l1 l2 l3 : Nat} {wr : World} (hb : BoxT w R T a1 a2 a3 b1 b2 b3 k1 k2 k3 l1 l2 l3 wr) :
    (wr.cell? ⟨w.heap.size, 0, none⟩ = some (.slice a1 R.n1 k1) ∧ wr.cell? ⟨w.heap.size, 1, none⟩ = some (.slice a2 R.n2 k2) ∧ wr.cell? ⟨w.heap.size, 2, none⟩ = some (.slice a3 R.n3 k3)) ∧
    (wr.cell? ⟨w.heap.size + 1, 0, none⟩ = some (.slice b1 T.n1 l1) ∧ wr.cell? ⟨w.heap.size + 1, 1, none⟩ = some (.slice b2 T.n2 l2) ∧ wr.cell? ⟨w.heap.size + 1, 2, none⟩ = some (.slice b3 T.n3 l3)) := by
  refine ⟨⟨?_, ?_, ?_⟩, ?_, ?_, ?_⟩
  · rw [hb.cell (p := ⟨w.heap.size, 0, none⟩) (by simp)]; simp
  · rw [hb.cell (p := ⟨w.heap.size, 1, none⟩) (by simp)]; simp
  · rw [hb.cell (p := ⟨w.heap.size, 2, none⟩) (by simp)]; simp
  · rw [hb.cell (p := ⟨w.heap.size + 1, 0, none⟩) (by simp)]; simp
  · rw [hb.cell (p := ⟨w.heap.size + 1, 1, none⟩) (by simp)]; simp
  · rw [hb.cell (p := ⟨w.heap.size + 1, 2, none⟩) (by simp)]; simp
theorem BoxT.old {w : World} {R T : Rep} {a1 a2 a3 b1 b2 b3 : Option Addr} {k1 k2 k3 l1 l2 l3 : Nat} {wr : World} (hb : BoxT w R T a1 a2 a3 b1 b2 b3 k1 k2 k3 l1 l2 l3 wr) : Below w.heap.size w wr :=
  (((Below.refl _ w).alloc (Nat.le_refl _) _).alloc (by simp) _).trans (hb.mono (by omega))

theorem ret_same {R T : Rep} {b : Bool} (h : b = true ↔ Same R T) : ∃ b', Ending.returned (.bool b) = .returned (.bool b') ∧ (b' = true ↔ Same R T) := ⟨b, rfl, h⟩
theorem not_same {R T : Rep} (h : ¬ Same R T) : (false = true ↔ Same R T) := ⟨fun e => (by cases e), fun e => absurd e h⟩

theorem ba_beq {x y : ByteArray} (h : ¬ x = y) : (x == y) = false := by
  cases x with | mk a => cases y with | mk b =>
  have : ¬ a = b := fun e => h (by rw [e])
  show (a == b) = false
  rw [beq_eq_false_iff_ne]; exact this
theorem bl_beq {x y : ByteArray} (h : ¬ x = y) : (x.toList == y.toList) = false := by
  rw [← beq_toListBytes]; exact ba_beq h
theorem ck_ne {x y : Ck} (h : ¬ x = y) : ¬ x.site = y.site ∨ (x.site = y.site ∧ ¬ x.count = y.count) := by
  by_cases h1 : x.site = y.site
  · exact Or.inr ⟨h1, fun h2 => h (by cases x; cases y; simp at h1 h2; simp [h1, h2])⟩
  · exact Or.inl h1
theorem cd_ne {x y : Cd} (h : ¬ x = y) : ¬ x.id = y.id ∨ (x.id = y.id ∧ ¬ x.site = y.site) ∨ (x.id = y.id ∧ x.site = y.site ∧ ¬ x.count = y.count) ∨ (x.id = y.id ∧ x.site = y.site ∧ x.count = y.count ∧ ¬ x.gone = y.gone) ∨ (x.id = y.id ∧ x.site = y.site ∧ x.count = y.count ∧ x.gone = y.gone ∧ ¬ x.text = y.text) := by
  by_cases h1 : x.id = y.id
  · by_cases h2 : x.site = y.site
    · by_cases h3 : x.count = y.count
      · by_cases h4 : x.gone = y.gone
        · exact Or.inr (Or.inr (Or.inr (Or.inr ⟨h1, h2, h3, h4, fun h5 => h (by cases x; cases y; simp at h1 h2 h3 h4 h5; simp [h1, h2, h3, h4, h5])⟩)))
        · exact Or.inr (Or.inr (Or.inr (Or.inl ⟨h1, h2, h3, h4⟩)))
      · exact Or.inr (Or.inr (Or.inl ⟨h1, h2, h3⟩))
    · exact Or.inr (Or.inl ⟨h1, h2⟩)
  · exact Or.inl h1
theorem ed_ne {x y : Ed} (h : ¬ x = y) : ¬ x.id = y.id ∨ (x.id = y.id ∧ ¬ x.text = y.text) := by
  by_cases h1 : x.id = y.id
  · exact Or.inr ⟨h1, fun h2 => h (by cases x; cases y; simp at h1 h2; simp [h1, h2])⟩
  · exact Or.inl h1

set_option maxRecDepth 100000 in
set_option maxHeartbeats 4000000 in
theorem same_len (R : Rep) (tc : Nat → Ck) (td : Nat → Cd) (te : Nat → Ed) (a1 a2 a3 b1 b2 b3 : Option Addr) (k1 k2 k3 l1 l2 l3 : Nat) (w : World) (hA : Has w R a1 a2 a3) (hB : Has w ⟨R.n1, R.n2, R.n3, tc, td, te⟩ b1 b2 b3) :
    Calls Try.prog 16 #[repV R a1 a2 a3 k1 k2 k3, repV R b1 b2 b3 l1 l2 l3] w fun e w' => ∃ b, (e = .returned (.bool b) ∧ (b = true ↔ Same R ⟨R.n1, R.n2, R.n3, tc, td, te⟩)) ∧ Below w.heap.size w w' := by
  have y1 := hA.b1; have y2 := hA.b2; have y3 := hA.b3
  go_enter Try.func16, Try.ntmps16
  go_wp2
  go_loopw [5] (fun i wr => ∃ k : Nat, k ≤ R.n1 ∧ i = .int .i64 k ∧ (∀ j, j < k → R.c j = tc j) ∧ BoxS w R a1 a2 a3 b1 b2 b3 k1 k2 k3 l1 l2 l3 wr) (fun i _ => R.n1 - (intOf i).toNat)
  case atStart => exact ⟨0, Nat.zero_le _, rfl, fun j h => by omega, Below.refl _ _⟩
  case round =>
    obtain ⟨k, hk, rfl, hj, hb⟩ := hrel
    have HJ1 : Hid (∀ j, j < k → R.c j = tc j) := hj
    clear hj
    obtain ⟨⟨x1, x2, x3⟩, z1, z2, z3⟩ := hb.cells
    by_cases hlt : k < R.n1
    · obtain ⟨b, o, hbl, hix, p1, p2⟩ := (hA.below hb.old).l1.clock k1 hlt
      obtain ⟨b', o', hbl', hix', q1, q2⟩ := (hB.below hb.old).l1.clock l1 hlt
      by_cases he : R.c k = tc k
      · have HE : Hid (R.c k = tc k) := he
        rw [he] at p1 p2
        clear he
        go_wp2
        go_quiet (fail)
        go_wp2
        go_roundw
        case rel => exact ⟨k + 1, by omega, by go_num, fun j h => by rcases Nat.lt_succ_iff_lt_or_eq.1 h with h | rfl; exact HJ1.out j h; exact HE.out, below_drewN hb _⟩
        case measure => simp [intOf]; omega
      · have HS : Hid (¬ Same R ⟨R.n1, R.n2, R.n3, tc, td, te⟩) := fun h => he (h.c k hlt)
        have hne := ck_ne he
        clear he
        rcases hne with hne | ⟨r1, hne⟩
        · go_wp2
          go_quiet (fail)
          go_wp2
          go_ret
          exact ⟨_, ⟨rfl, not_same HS.out⟩, BoxS.old (below_drewN hb _)⟩
        · rw [r1] at p1
          clear r1
          go_wp2
          go_quiet (fail)
          go_wp2
          go_ret
          exact ⟨_, ⟨rfl, not_same HS.out⟩, BoxS.old (below_drewN hb _)⟩
    · have E1 : Hid (k = R.n1) := by show _ = _; omega
      have J1 : Hid (∀ j, j < R.n1 → R.c j = tc j) := fun j h => HJ1.out j (by have := E1.out; omega)
      clear HJ1 E1
      go_wp2
      go_loopw [6] (fun i wr => ∃ k : Nat, k ≤ R.n2 ∧ i = .int .i64 k ∧ (∀ j, j < k → R.d j = td j) ∧ BoxS w R a1 a2 a3 b1 b2 b3 k1 k2 k3 l1 l2 l3 wr) (fun i _ => R.n2 - (intOf i).toNat)
      case atStart => exact ⟨0, Nat.zero_le _, rfl, fun j h => by omega, hb⟩
      case round =>
        clear x1 x2 x3 z1 z2 z3 hb hk hlt
        obtain ⟨k, hk, rfl, hj, hb⟩ := hrel
        have HJ2 : Hid (∀ j, j < k → R.d j = td j) := hj
        clear hj
        obtain ⟨⟨x1, x2, x3⟩, z1, z2, z3⟩ := hb.cells
        by_cases hlt : k < R.n2
        · obtain ⟨b, o, hbl, hix, p1, p2, p3, p4, p5⟩ := (hA.below hb.old).l2.card k2 hlt
          obtain ⟨b', o', hbl', hix', q1, q2, q3, q4, q5⟩ := (hB.below hb.old).l2.card l2 hlt
          by_cases he : R.d k = td k
          · have HE : Hid (R.d k = td k) := he
            rw [he] at p1 p2 p3 p4 p5
            clear he
            go_wp2
            go_quiet (fail)
            go_wp2
            go_roundw
            case rel => exact ⟨k + 1, by omega, by go_num, fun j h => by rcases Nat.lt_succ_iff_lt_or_eq.1 h with h | rfl; exact HJ2.out j h; exact HE.out, below_drewN hb _⟩
            case measure => simp [intOf]; omega
          · have HS : Hid (¬ Same R ⟨R.n1, R.n2, R.n3, tc, td, te⟩) := fun h => he (h.d k hlt)
            have hne := cd_ne he
            clear he
            rcases hne with hne | ⟨r1, hne⟩ | ⟨r1, r2, hne⟩ | ⟨r1, r2, r3, hne⟩ | ⟨r1, r2, r3, r4, hne⟩
            · go_wp2
              go_quiet (fail)
              go_wp2
              go_ret
              exact ⟨_, ⟨rfl, not_same HS.out⟩, BoxS.old (below_drewN hb _)⟩
            · rw [r1] at p1
              clear r1
              go_wp2
              go_quiet (fail)
              go_wp2
              go_ret
              exact ⟨_, ⟨rfl, not_same HS.out⟩, BoxS.old (below_drewN hb _)⟩
            · rw [r1] at p1
              clear r1
              rw [r2] at p2
              clear r2
              go_wp2
              go_quiet (fail)
              go_wp2
              go_ret
              exact ⟨_, ⟨rfl, not_same HS.out⟩, BoxS.old (below_drewN hb _)⟩
            · rw [r1] at p1
              clear r1
              rw [r2] at p2
              clear r2
              rw [r3] at p3
              clear r3
              go_wp2
              go_quiet (fail)
              go_wp2
              go_ret
              exact ⟨_, ⟨rfl, not_same HS.out⟩, BoxS.old (below_drewN hb _)⟩
            · rw [r1] at p1
              clear r1
              rw [r2] at p2
              clear r2
              rw [r3] at p3
              clear r3
              rw [r4] at p4
              clear r4
              have hnb := ba_beq hne
              have hnl := bl_beq hne
              clear hne
              go_wp2
              go_quiet (fail)
              go_wp2
              go_ret
              exact ⟨_, ⟨rfl, not_same HS.out⟩, BoxS.old (below_drewN hb _)⟩
        · have E2 : Hid (k = R.n2) := by show _ = _; omega
          have J2 : Hid (∀ j, j < R.n2 → R.d j = td j) := fun j h => HJ2.out j (by have := E2.out; omega)
          clear HJ2 E2
          go_wp2
          go_loopw [7] (fun i wr => ∃ k : Nat, k ≤ R.n3 ∧ i = .int .i64 k ∧ (∀ j, j < k → R.e j = te j) ∧ BoxS w R a1 a2 a3 b1 b2 b3 k1 k2 k3 l1 l2 l3 wr) (fun i _ => R.n3 - (intOf i).toNat)
          case atStart => exact ⟨0, Nat.zero_le _, rfl, fun j h => by omega, hb⟩
          case round =>
            clear x1 x2 x3 z1 z2 z3 hb hk hlt
            obtain ⟨k, hk, rfl, hj, hb⟩ := hrel
            have HJ3 : Hid (∀ j, j < k → R.e j = te j) := hj
            clear hj
            obtain ⟨⟨x1, x2, x3⟩, z1, z2, z3⟩ := hb.cells
            by_cases hlt : k < R.n3
            · obtain ⟨b, o, hbl, hix, p1, p2⟩ := (hA.below hb.old).l3.edit k3 hlt
              obtain ⟨b', o', hbl', hix', q1, q2⟩ := (hB.below hb.old).l3.edit l3 hlt
              by_cases he : R.e k = te k
              · have HE : Hid (R.e k = te k) := he
                rw [he] at p1 p2
                clear he
                go_wp2
                go_quiet (fail)
                go_wp2
                go_roundw
                case rel => exact ⟨k + 1, by omega, by go_num, fun j h => by rcases Nat.lt_succ_iff_lt_or_eq.1 h with h | rfl; exact HJ3.out j h; exact HE.out, below_drewN hb _⟩
                case measure => simp [intOf]; omega
              · have HS : Hid (¬ Same R ⟨R.n1, R.n2, R.n3, tc, td, te⟩) := fun h => he (h.e k hlt)
                have hne := ed_ne he
                clear he
                rcases hne with hne | ⟨r1, hne⟩
                · go_wp2
                  go_quiet (fail)
                  go_wp2
                  go_ret
                  exact ⟨_, ⟨rfl, not_same HS.out⟩, BoxS.old (below_drewN hb _)⟩
                · rw [r1] at p1
                  clear r1
                  have hnb := ba_beq hne
                  have hnl := bl_beq hne
                  clear hne
                  go_wp2
                  go_quiet (fail)
                  go_wp2
                  go_ret
                  exact ⟨_, ⟨rfl, not_same HS.out⟩, BoxS.old (below_drewN hb _)⟩
            · have E3 : Hid (k = R.n3) := by show _ = _; omega
              have HS : Hid (Same R ⟨R.n1, R.n2, R.n3, tc, td, te⟩) := ⟨rfl, rfl, rfl, J1.out, J2.out, fun j h => HJ3.out j (by have := E3.out; omega)⟩
              go_wp2
              go_ret
              exact ⟨_, ⟨rfl, ⟨fun _ => HS.out, fun _ => rfl⟩⟩, hb.old⟩

set_option maxRecDepth 100000 in
set_option maxHeartbeats 4000000 in
theorem same_any (R T : Rep) (a1 a2 a3 b1 b2 b3 : Option Addr) (k1 k2 k3 l1 l2 l3 : Nat) (w : World) (hA : Has w R a1 a2 a3) (hB : Has w T b1 b2 b3) :
    Calls Try.prog 16 #[repV R a1 a2 a3 k1 k2 k3, repV T b1 b2 b3 l1 l2 l3] w fun e w' => ∃ b, (e = .returned (.bool b) ∧ (b = true ↔ Same R T)) ∧ Below w.heap.size w w' := by
  have y1 := hA.b1; have y2 := hA.b2; have y3 := hA.b3
  have u1 := hB.b1; have u2 := hB.b2; have u3 := hB.b3
  have h0 : BoxT w R T a1 a2 a3 b1 b2 b3 k1 k2 k3 l1 l2 l3 ((w.alloc (.cells #[.slice a1 R.n1 k1, .slice a2 R.n2 k2, .slice a3 R.n3 k3] 28)).alloc (.cells #[.slice b1 T.n1 l1, .slice b2 T.n2 l2, .slice b3 T.n3 l3] 28)) := Below.refl _ _
  have HO : Hid (Below w.heap.size w ((w.alloc (.cells #[.slice a1 R.n1 k1, .slice a2 R.n2 k2, .slice a3 R.n3 k3] 28)).alloc (.cells #[.slice b1 T.n1 l1, .slice b2 T.n2 l2, .slice b3 T.n3 l3] 28))) := h0.old
  clear h0
  by_cases n1 : R.n1 = T.n1
  case neg =>
    have HS : Hid (¬ Same R T) := fun h => n1 h.n1
    have nb : ((R.n1 : Int) != (T.n1 : Int)) = true := by simp; omega
    go_enter Try.func16, Try.ntmps16
    go_wp2
    go_ret
    exact ⟨_, ⟨rfl, not_same HS.out⟩, HO.out⟩
  by_cases n2 : R.n2 = T.n2
  case neg =>
    have HS : Hid (¬ Same R T) := fun h => n2 h.n2
    have nb : ((R.n2 : Int) != (T.n2 : Int)) = true := by simp; omega
    have na : ((R.n1 : Int) != (T.n1 : Int)) = false := by simp; omega
    clear n1
    go_enter Try.func16, Try.ntmps16
    go_wp2
    go_ret
    exact ⟨_, ⟨rfl, not_same HS.out⟩, HO.out⟩
  by_cases n3 : R.n3 = T.n3
  case neg =>
    have HS : Hid (¬ Same R T) := fun h => n3 h.n3
    have nb : ((R.n3 : Int) != (T.n3 : Int)) = true := by simp; omega
    have na : ((R.n1 : Int) != (T.n1 : Int)) = false := by simp; omega
    have nc : ((R.n2 : Int) != (T.n2 : Int)) = false := by simp; omega
    clear n1 n2
    go_enter Try.func16, Try.ntmps16
    go_wp2
    go_ret
    exact ⟨_, ⟨rfl, not_same HS.out⟩, HO.out⟩
  obtain ⟨m1, m2, m3, tc, td, te⟩ := T
  have n1 : R.n1 = m1 := n1
  have n2 : R.n2 = m2 := n2
  have n3 : R.n3 = m3 := n3
  subst n1 n2 n3
  exact same_len R tc td te a1 a2 a3 b1 b2 b3 k1 k2 k3 l1 l2 l3 w hA hB
end Go.Proofs.Ytdjpkgaicmklmab

/- parcelkeep.records, walked: what a bundle's records are and where, and how long it is. -/
namespace Go.Proofs.Ytdjpkgaicmklmab
open Go.RowKit

/-- Each block but the list's own is as it was. -/
def Kept (ad : Option Addr) (w w' : World) : Prop := ∀ k, k < w.heap.size → (∀ b, ad = some b → b.block ≠ k) → w'.heap[k]? = w.heap[k]?

section
variable {P : Program} {w : World} {ops : Array Oper} {rest : List Oper} {o : Oper} {a : Act} {Q : Exit → Act → World → Prop}

/-- 'l = append(l, x)', and what is elsewhere stays. -/
theorem wpList_push2 (hgd : o.guard = none) (s x : Operand) (t : TypeId) (ho : o.op = .call { callee := .builtin .append, args := #[s, x], argTypes := #[t, t] })
    (B e m bytes : Nat) (z : Value) (ht : P.underlying t = some (.slice e)) (hinfo : (P.info? e).map (fun i => (i.zero, i.size, i.bytes)) = some (some z, m, bytes)) (hzs : z.cells.size = m) (hm : 0 < m)
    (ad : Option Addr) (n cap : Nat) (xs : List Value) (hs : a.eval s = .slice ad n cap) (hown : Vec w B e m ad n cap xs)
    (ad1 : Addr) (c : Nat) (row : List Value) (hx : a.eval x = .slice (some ad1) 1 c) (hl : row.length = m) (hnews : ∀ j u, row[j]? = some u → w.cell? (ad1.add j) = some u) (h1 : ∀ u, u ∈ row → u.oneCell' = true)
    (hbytes : (n + 1) * bytes ≤ 140737488355328) (hn : n < 9223372036854775807) (hB : B ≤ w.heap.size)
    (h : ∀ ad' cap' w', Vec w' B e m ad' (n + 1) cap' (xs ++ row) → Below B w w' → Kept ad w w' → wpList P ops Q rest (a.put o.dst (.slice ad' (n + 1) cap')) w') : wpList P ops Q (o :: rest) a w := by
  obtain ⟨i, hi, hzz⟩ := Option.map_eq_some_iff.1 hinfo
  simp only [Prod.mk.injEq] at hzz
  obtain ⟨hz, hsz, hby⟩ := hzz
  refine wpList_append_lies w hgd s x t ho B e i z m bytes ht hi hz hsz hby hzs hm (.slice ad n cap) n xs hs hown ad1 1 c row hx (by rw [hl, Nat.one_mul]) hnews h1 (by omega) (by unfold maxLen; omega) hbytes hB w.heap.size rfl ?_
  intro g cap' w' ho' hgr _ _
  refine h (some ⟨g, 0, none⟩) cap' w' ho' ?_ ?_
  · exact (Below.refl _ _).grown hgr hB (fun k hk => (World.ownsRow.lt hown k hk).1)
  · intro k hk hne
    refine hgr.block k hk ?_
    cases ad with
    | none => simp [Value.ownBlock]
    | some b => simp [Value.ownBlock]; exact fun e => hne b rfl e.symm
end

/-- The variable's box is as it was behind the append. -/
theorem Kept.box {wr w' : World} {o1 o2 : Obj} {B e m : Nat} {ad : Option Addr} {n cap : Nat} {xs : List Value} (hk : Kept ad ((wr.alloc o1).alloc o2) w') (hv : Vec wr B e m ad n cap xs) : w'.heap[wr.heap.size]? = some o1 := by
  rw [hk wr.heap.size (by simp; omega) ?_]
  · show ((wr.heap.push o1).push o2)[wr.heap.size]? = _
    rw [Array.getElem?_push, if_neg (by simp), Array.getElem?_push, if_pos rfl]
  · intro b hb
    subst hb
    have := World.ownsRow.lt hv b.block rfl
    omega
theorem box_cell {w : World} {g : Nat} {cs : Array Value} {t : TypeId} (h : w.heap[g]? = some (.cells cs t)) (j : Nat) : w.cell? ⟨g, j, none⟩ = cs[j]? := by
  simp [World.cell?, h]

/-- A record at its place. -/
def Fd.put (f : Fd) (p : Nat) : Fd := { f with at_ := p }
/-- Records one directly behind the other, from a place on. -/
def atL : Nat → List Fd → List Fd
  | _, [] => []
  | p, f :: l => f.put p :: atL (p + lenF f) l
theorem atL_snoc (f : Fd) : ∀ (p : Nat) (l : List Fd), atL p (l ++ [f]) = atL p l ++ [f.put (p + lenL l)]
  | p, [] => by simp [atL, lenL]
  | p, g :: l => by
    simp only [List.cons_append, atL, atL_snoc f (p + lenF g) l]
    simp [lenL]
    congr 1; omega
theorem atL_length : ∀ (p : Nat) (l : List Fd), (atL p l).length = l.length
  | _, [] => rfl
  | p, f :: l => by simp [atL, atL_length (p + lenF f) l]
theorem ones9 (f : Fd) : ∀ v, v ∈ f.cells → v.oneCell' = true := by intro v h; simp at h; rcases h with rfl | rfl | rfl | rfl | rfl | rfl | rfl | rfl | rfl <;> rfl

end Go.Proofs.Ytdjpkgaicmklmab

/- parcelkeep.Only: called with any writes and numbers it answers true. -/
namespace Go.Proofs.Ytdjpkgaicmklmab
open Go.RowKit

/-- A list of writes that comes in. -/
structure Ws (w : World) (a : Option Addr) (n : Nat) (f : Nat → Wr) : Prop where
  lies : Lies w a n 4 (fun i => (f i).cells)
  few : n ≤ 140737488355328
  ok : ∀ i, i < n → I64 (f i).site ∧ I64 (f i).id
structure Ns (w : World) (a : Option Addr) (n : Nat) (f : Nat → Int) : Prop where
  lies : Lies w a n 1 (iCells f)
  few : n ≤ 140737488355328
  ok : ∀ i, i < n → I64 (f i)

theorem state_call {S : Seen} {aw am ae : Option Addr} {cw cm ce ne : Nat} {ef : Nat → Wr} {w0 w : World} (hb : Below w0.heap.size w0 w) (hW : Ws w0 aw S.n S.w) (hM : Ns w0 am S.m S.f) (hE : Ws w0 ae ne ef) (kw : S.n ≤ cw) :
    Calls Try.prog 9 #[.slice aw S.n cw, .slice am S.m cm, .slice ae ne ce] w fun e w' =>
      ∃ a1 a2 a3 k1 k2 k3, e = .returned (repV (stateR S ne ef) a1 a2 a3 k1 k2 k3) ∧ Has w' (stateR S ne ef) a1 a2 a3 ∧ Below w.heap.size w w' :=
  state_any S aw am ae cw cm ce ne ef w (hW.lies.below hb) (hM.lies.below hb) (hE.lies.below hb) kw hW.few hM.few hE.few hW.ok hM.ok (fun i hi => (hE.ok i hi).2)

/-- A replica in a variable, while a statement runs. -/
structure InC (w w1 : World) (R : Rep) (a1 a2 a3 : Option Addr) (k1 k2 k3 : Nat) (wX : World) : Prop where
  bR : BoxR w1 R a1 a2 a3 k1 k2 k3 wX
  hR : Has wX R a1 a2 a3
  old : Below w.heap.size w wX
theorem InC.step {w w1 : World} {R : Rep} {a1 a2 a3 : Option Addr} {k1 k2 k3 : Nat} {wX wY : World} (h : InC w w1 R a1 a2 a3 k1 k2 k3 wX) (hb : Below wX.heap.size wX wY) : InC w w1 R a1 a2 a3 k1 k2 k3 wY :=
  ⟨boxR_step h.bR hb, h.hR.below hb, h.old.trans (hb.mono h.old.size)⟩

/-- Two replicas in variables. -/
structure In2 (w w1 w2 : World) (R T : Rep) (a1 a2 a3 b1 b2 b3 : Option Addr) (k1 k2 k3 l1 l2 l3 : Nat) (wX : World) : Prop where
  bR : BoxR w1 R a1 a2 a3 k1 k2 k3 wX
  bT : BoxR w2 T b1 b2 b3 l1 l2 l3 wX
  hR : Has wX R a1 a2 a3
  hT : Has wX T b1 b2 b3
  old : Below w.heap.size w wX
theorem In2.step {w w1 w2 : World} {R T : Rep} {a1 a2 a3 b1 b2 b3 : Option Addr} {k1 k2 k3 l1 l2 l3 : Nat} {wX wY : World} (h : In2 w w1 w2 R T a1 a2 a3 b1 b2 b3 k1 k2 k3 l1 l2 l3 wX) (hb : Below wX.heap.size wX wY) : In2 w w1 w2 R T a1 a2 a3 b1 b2 b3 k1 k2 k3 l1 l2 l3 wY :=
  ⟨boxR_step h.bR hb, boxR_step h.bT hb, h.hR.below hb, h.hT.below hb, h.old.trans (hb.mono h.old.size)⟩

end Go.Proofs.Ytdjpkgaicmklmab

/- Lists of writes and of numbers that come in, opened. -/
namespace Go.Proofs.Ytdjpkgaicmklmab
open Go.ChangeShapes Go.WideShapes Go.ChangeAt Go.RowKit Go.Joins Go.Deep

section
variable {H : Type} {enc : TypeId × Value → H} {w : World} {base : Nat} {spare : Nat → Bool} {held : Bool}

theorem wf_i64 {n : Int} (h : (Lit.int .i64 n).wf = true) : I64 n := by
  simp [Lit.wf] at h
  exact h

theorem Try.cellsWrite : Try.prog.cellsOf 65 = 4 := by kernel_rfl
theorem Try.bytesWrite : Try.prog.bytesOf 65 = 40 := by kernel_rfl
theorem Try.bytesInt : Try.prog.bytesOf 3 = 8 := by kernel_rfl
theorem list4 {α : Type} {l : List α} (h : l.length = 4) : ∃ a b c d, l = [a, b, c, d] := by
  match l, h with
  | [a, b, c, d], _ => exact ⟨a, b, c, d, rfl⟩

/-- Writes whose numbers are ints. -/
def WrI : Type := { x : Wr // I64 x.site ∧ I64 x.id }
theorem read_write {n : Nat} {cs : List Value} {x : DataW H × List MemPlace} (h : DataW.trod enc Try.prog w base spare held n 65 cs = some x) : ∃ c : WrI, cs = c.1.cells := by
  obtain ⟨xs, k, _, _, hl, hlen, hf⟩ := DataW.trod_struct Try.underlying65 h
  rw [Try.cellsWrite] at hl
  obtain ⟨c0, c1, c2, c3, rfl⟩ := list4 hl
  obtain ⟨y0, y1, y2, y3, rfl⟩ := list4 (show xs.length = 4 from hlen)
  have g0 := hf 0 _ rfl
  have g1 := hf 1 _ rfl
  have g2 := hf 2 _ rfl
  have g3 := hf 3 _ rfl
  simp [Try.cellsInt, Try.cellsString, Try.cellsBool] at g0 g1 g2 g3
  obtain ⟨n0, e0, _, w0⟩ := DataW.trod_int Try.underlying3 g0
  obtain ⟨n1, e1, _, w1⟩ := DataW.trod_int Try.underlying3 g1
  obtain ⟨n2, e2, _⟩ := DataW.trod_bool Try.underlying4 g2
  obtain ⟨n3, e3, _⟩ := DataW.trod_string Try.underlying9 g3
  simp at e0 e1 e2 e3
  subst e0 e1 e2 e3
  exact ⟨⟨⟨n0, n1, n2, n3⟩, wf_i64 w0, wf_i64 w1⟩, rfl⟩
def IntI : Type := { x : Int // I64 x }
theorem read_int {n : Nat} {cs : List Value} {x : DataW H × List MemPlace} (h : DataW.trod enc Try.prog w base spare held n 3 cs = some x) : ∃ c : IntI, cs = [.int .i64 c.1] := by
  obtain ⟨n0, e0, _, w0⟩ := DataW.trod_int Try.underlying3 h
  exact ⟨⟨n0, wf_i64 w0⟩, e0⟩

set_option maxRecDepth 100000 in
/-- A list of writes. -/
theorem open_writes {r : Reach} {b0 : Nat} {v : Value} {d : DataW H} {p : List MemPlace} (hok : Value.okWide Try.prog w r b0 22 v) (h : DataW.Trod enc Try.prog w 0 (fun _ => true) held 22 v d p) (hw : ∀ q, q ∈ d.weights Try.prog 22 → q ≤ reachBytes) :
    ∃ (a : Option Addr) (n k : Nat) (f : Nat → Wr), v = .slice a n k ∧ Ws w a n f ∧ n ≤ k := by
  have : Inhabited WrI := ⟨⟨⟨0, 0, false, ⟨#[]⟩⟩, ⟨by decide, by decide⟩, ⟨by decide, by decide⟩⟩⟩
  obtain ⟨x, y, z, rfl⟩ := okWide_slice Try.underlying22 hok
  obtain ⟨fuel, hh⟩ := h
  obtain ⟨a, n, k, f, hv, hl, hk, hx⟩ := read_rows (fun c : WrI => c.1.cells) 4 Try.underlying22 Try.cellsWrite (by omega) (fun _ _ _ hh => read_write hh) hh
  have z := weigh Try.underlying22 Try.bytesWrite hk hx hw
  unfold reachBytes at z
  exact ⟨a, n, k, fun i => (f i).1, hv, ⟨hl, by omega, fun i _ => (f i).2⟩, hk⟩
set_option maxRecDepth 100000 in
/-- A list of numbers. -/
theorem open_nums {r : Reach} {b0 : Nat} {v : Value} {d : DataW H} {p : List MemPlace} (hok : Value.okWide Try.prog w r b0 23 v) (h : DataW.Trod enc Try.prog w 0 (fun _ => true) held 23 v d p) (hw : ∀ q, q ∈ d.weights Try.prog 23 → q ≤ reachBytes) :
    ∃ (a : Option Addr) (n k : Nat) (f : Nat → Int), v = .slice a n k ∧ Ns w a n f := by
  have : Inhabited IntI := ⟨⟨0, by decide, by decide⟩⟩
  obtain ⟨x, y, z, rfl⟩ := okWide_slice Try.underlying23 hok
  obtain ⟨fuel, hh⟩ := h
  obtain ⟨a, n, k, f, hv, hl, hk, hx⟩ := read_rows (fun c : IntI => [Value.int .i64 c.1]) 1 Try.underlying23 Try.cellsInt (by omega) (fun _ _ _ hh => read_int hh) hh
  have z := weigh Try.underlying23 Try.bytesInt hk hx hw
  unfold reachBytes at z
  exact ⟨a, n, k, fun i => (f i).1, hv, ⟨hl, by omega, fun i _ => (f i).2⟩⟩

variable {P : Program}
theorem trodAll_five {t0 t1 t2 t3 t4 : TypeId} {args : Array Value} {ds : List (DataW H)} {ps : List MemPlace} (h : DataW.TrodAll enc P w base spare held [t0, t1, t2, t3, t4] args.toList ds ps) :
    ∃ v0 v1 v2 v3 v4 d0 d1 d2 d3 d4 p0 p1 p2 p3 p4, args = #[v0, v1, v2, v3, v4] ∧ ds = [d0, d1, d2, d3, d4] ∧ ps = p0 ++ (p1 ++ (p2 ++ (p3 ++ p4))) ∧ DataW.Trod enc P w base spare held t0 v0 d0 p0 ∧ DataW.Trod enc P w base spare held t1 v1 d1 p1 ∧ DataW.Trod enc P w base spare held t2 v2 d2 p2 ∧ DataW.Trod enc P w base spare held t3 v3 d3 p3 ∧ DataW.Trod enc P w base spare held t4 v4 d4 p4 := by
  obtain ⟨v0, vs0, d0, ds0, p0, q0, hargs, rfl, rfl, hd0, r0⟩ := trodAll_cons h
  obtain ⟨v1, vs1, d1, ds1, p1, q1, rfl, rfl, rfl, hd1, r1⟩ := trodAll_cons r0
  obtain ⟨v2, vs2, d2, ds2, p2, q2, rfl, rfl, rfl, hd2, r2⟩ := trodAll_cons r1
  obtain ⟨v3, vs3, d3, ds3, p3, q3, rfl, rfl, rfl, hd3, r3⟩ := trodAll_cons r2
  obtain ⟨v4, vs4, d4, ds4, p4, q4, rfl, rfl, rfl, hd4, r4⟩ := trodAll_cons r3
  obtain ⟨rfl, rfl, rfl⟩ := trodAll_nil r4
  exact ⟨v0, v1, v2, v3, v4, d0, d1, d2, d3, d4, p0, p1, p2, p3, p4, by cases args; simp_all, rfl, by simp, hd0, hd1, hd2, hd3, hd4⟩
theorem trodAll_mk5 {t0 t1 t2 t3 t4 : TypeId} {v0 v1 v2 v3 v4 : Value} {d0 d1 d2 d3 d4 : DataW H} {p0 p1 p2 p3 p4 : List MemPlace} (h0 : DataW.Trod enc P w base spare held t0 v0 d0 p0) (h1 : DataW.Trod enc P w base spare held t1 v1 d1 p1) (h2 : DataW.Trod enc P w base spare held t2 v2 d2 p2)
    (h3 : DataW.Trod enc P w base spare held t3 v3 d3 p3) (h4 : DataW.Trod enc P w base spare held t4 v4 d4 p4) : DataW.TrodAll enc P w base spare held [t0, t1, t2, t3, t4] [v0, v1, v2, v3, v4] [d0, d1, d2, d3, d4] (p0 ++ (p1 ++ (p2 ++ (p3 ++ p4)))) :=
  ⟨p0, _, h0, trodAll_mk4 h1 h2 h3 h4, rfl⟩
end
end Go.Proofs.Ytdjpkgaicmklmab

/- Rising lists as maps: look up, put, lay one over another: without the program. -/
namespace Go.Proofs.Ytdjpkgaicmklmab
open Go.RowKit

section
variable {α : Type} (key : α → Int)
def putK (f : α → α → α) : List α → α → List α
  | [], c => [c]
  | o :: l, c => if key o < key c then o :: putK f l c else if key o = key c then f o c :: l else c :: o :: l
def look : List α → Int → Option α
  | [], _ => none
  | x :: l, k => if key x = k then some x else look l k
def Asc (l : List α) : Prop := l.Pairwise (fun x y => key x < key y)

theorem look_mem {l : List α} {k : Int} {x : α} (h : look key l k = some x) : x ∈ l ∧ key x = k := by
  induction l with
  | nil => simp [look] at h
  | cons y l ih =>
    simp only [look] at h
    split at h
    · rename_i e; injection h with h; subst h; exact ⟨by simp, e⟩
    · obtain ⟨a, b⟩ := ih h; exact ⟨by simp [a], b⟩
theorem look_none {l : List α} {k : Int} (h : ∀ x ∈ l, key x ≠ k) : look key l k = none := by
  induction l with
  | nil => rfl
  | cons y l ih => rw [look, if_neg (h y (by simp)), ih (fun x hx => h x (by simp [hx]))]
theorem look_some {l : List α} (h : Asc key l) {x : α} (hx : x ∈ l) : look key l (key x) = some x := by
  induction l with
  | nil => simp at hx
  | cons y l ih =>
    simp only [Asc, List.pairwise_cons] at h
    rcases List.mem_cons.mp hx with rfl | hx
    · simp [look]
    · rw [look, if_neg (by have := h.1 x hx; omega), ih h.2 hx]
theorem asc_ext : ∀ {l m : List α}, Asc key l → Asc key m → (∀ k, look key l k = look key m k) → l = m
  | [], [], _, _, _ => rfl
  | [], y :: m, _, _, h => by have := h (key y); simp [look] at this
  | x :: l, [], _, _, h => by have := h (key x); simp [look] at this
  | x :: l, y :: m, hl, hm, h => by
    have h1 := h (key x)
    have h2 := h (key y)
    simp only [Asc, List.pairwise_cons] at hl hm
    have hxy : key x = key y := by
      rcases Int.lt_trichotomy (key x) (key y) with hh | hh | hh
      · exfalso
        have : look key (y :: m) (key x) = none := look_none key (fun z hz => by
          rcases List.mem_cons.mp hz with rfl | hz
          · omega
          · have := hm.1 z hz; omega)
        rw [this] at h1; simp [look] at h1
      · exact hh
      · exfalso
        have : look key (x :: l) (key y) = none := look_none key (fun z hz => by
          rcases List.mem_cons.mp hz with rfl | hz
          · omega
          · have := hl.1 z hz; omega)
        rw [this] at h2; simp [look] at h2
    have hx : x = y := by
      rw [look, if_pos rfl, look, if_pos hxy.symm] at h1; injection h1
    subst hx
    congr 1
    refine asc_ext hl.2 hm.2 (fun k => ?_)
    by_cases hk : key x = k
    · rw [look_none key (fun z hz => by have := hl.1 z hz; omega), look_none key (fun z hz => by have := hm.1 z hz; omega)]
    · have := h k; rw [look, if_neg hk, look, if_neg hk] at this; exact this

variable {f : α → α → α} (hf : ∀ o c, key o = key c → key (f o c) = key c)
include hf
theorem putK_key {l : List α} {c x : α} (h : x ∈ putK key f l c) : key x = key c ∨ x ∈ l := by
  induction l with
  | nil => simp [putK] at h; exact Or.inl (by rw [h])
  | cons o l ih =>
    simp only [putK] at h
    split at h
    · rcases List.mem_cons.mp h with rfl | h
      · exact Or.inr (by simp)
      · rcases ih h with h | h
        · exact Or.inl h
        · exact Or.inr (by simp [h])
    · split at h
      · rename_i e
        rcases List.mem_cons.mp h with rfl | h
        · exact Or.inl (hf o c e)
        · exact Or.inr (by simp [h])
      · rcases List.mem_cons.mp h with rfl | h
        · exact Or.inl rfl
        · exact Or.inr h
theorem putK_asc {l : List α} {c : α} (h : Asc key l) : Asc key (putK key f l c) := by
  induction l with
  | nil => simp [putK, Asc]
  | cons o l ih =>
    simp only [Asc, List.pairwise_cons] at h
    simp only [putK]
    split
    · simp only [Asc, List.pairwise_cons]
      refine ⟨fun x hx => ?_, ih h.2⟩
      rcases putK_key key hf hx with e | hx
      · omega
      · exact h.1 x hx
    · split
      · rename_i e
        simp only [Asc, List.pairwise_cons]
        refine ⟨fun x hx => ?_, h.2⟩
        have := h.1 x hx
        rw [hf o c e]; omega
      · simp only [Asc, List.pairwise_cons]
        refine ⟨fun x hx => ?_, h.1, h.2⟩
        rcases List.mem_cons.mp hx with rfl | hx
        · omega
        · have := h.1 x hx; omega
/-- What a list has under a key, once more is put. -/
def over (f : α → α → α) (a b : Option α) : Option α :=
  match a, b with
  | none, b => b
  | a, none => a
  | some x, some y => some (f x y)
omit hf in
theorem over_none (a : Option α) : over f a none = a := by cases a <;> rfl
theorem look_put {l : List α} {c : α} (h : Asc key l) (k : Int) : look key (putK key f l c) k = if k = key c then over f (look key l k) (some c) else look key l k := by
  induction l with
  | nil => simp only [putK, look, over]; by_cases e : k = key c <;> simp [e]; intro h; exact absurd h.symm e
  | cons o l ih =>
    simp only [Asc, List.pairwise_cons] at h
    have ih := ih h.2
    simp only [putK]
    split
    · rename_i h1
      simp only [look]
      by_cases e : key o = k
      · rw [if_pos e, if_pos e, if_neg (by omega)]
      · rw [if_neg e, if_neg e, ih]
    · rename_i h1
      split
      · rename_i h2
        simp only [look]
        rw [hf o c h2]
        by_cases e : k = key c
        · rw [if_pos e.symm, if_pos e, if_pos (by omega)]; rfl
        · rw [if_neg (fun x => e x.symm), if_neg e, if_neg (by omega)]
      · rename_i h2
        simp only [look]
        by_cases e : k = key c
        · rw [if_pos e.symm, if_pos e, if_neg (by omega), look_none key (fun x hx => by have := h.1 x hx; omega)]; rfl
        · rw [if_neg (fun x => e x.symm), if_neg e]
/-- A list laid over another. -/
def layK (f : α → α → α) (a b : List α) : List α := b.foldl (putK key f) a
theorem layK_asc : ∀ {a b : List α}, Asc key a → Asc key (layK key f a b)
  | _, [], h => h
  | a, c :: b, h => layK_asc (a := putK key f a c) (b := b) (putK_asc key hf h)
theorem look_lay : ∀ {a b : List α}, Asc key a → Asc key b → ∀ k, look key (layK key f a b) k = over f (look key a k) (look key b k)
  | a, [], _, _, k => by simp only [layK, List.foldl_nil, look]; rw [over_none]
  | a, c :: b, ha, hb, k => by
    simp only [Asc, List.pairwise_cons] at hb
    have := look_lay (a := putK key f a c) (b := b) (putK_asc key hf ha) hb.2 k
    rw [show layK key f a (c :: b) = layK key f (putK key f a c) b from rfl, this, look_put key hf ha, look]
    by_cases e : k = key c
    · rw [if_pos e, if_pos e.symm, look_none key (l := b) (fun x hx => by have := hb.1 x hx; omega), over_none]
    · rw [if_neg e, if_neg (fun x => e x.symm)]
end
end Go.Proofs.Ytdjpkgaicmklmab

/- Merging replicas that have seen some first writes is seeing what either has seen: cards and counts, without the program. -/
namespace Go.Proofs.Ytdjpkgaicmklmab
open Go.RowKit

def keepC (o c : Cd) : Cd := if laterB c o then c else o
theorem keepC_id (o c : Cd) (h : o.id = c.id) : (keepC o c).id = c.id := by unfold keepC; split <;> simp [h]
theorem placed_put : ∀ (l : List Cd) (c : Cd), placedL l c = putK Cd.id keepC l c
  | [], _ => rfl
  | o :: l, c => by simp only [placedL, putK, keepC]; rw [placed_put l c]
/-- The merged cards. -/
def mergeC (a b : List Cd) : List Cd := layK Cd.id keepC a b

/-- Cards of one stamp are one card. -/
def Sole (U : Cd → Prop) : Prop := ∀ x y, U x → U y → x.site = y.site → x.count = y.count → x = y
theorem keep_comm {U : Cd → Prop} (hU : Sole U) {x y : Cd} (hx : U x) (hy : U y) : keepC x y = keepC y x := by
  unfold keepC laterB
  by_cases h1 : x.count < y.count
  · simp [h1, show ¬ y.count < x.count by omega, show ¬ x.count = y.count by omega]
  · by_cases h2 : y.count < x.count
    · simp [h2, show ¬ x.count < y.count by omega, show ¬ y.count = x.count by omega]
    · have e : x.count = y.count := by omega
      by_cases h3 : x.site < y.site
      · simp [e, h3, show ¬ y.site < x.site by omega]
      · by_cases h4 : y.site < x.site
        · simp [e, h4, show ¬ x.site < y.site by omega]
        · rw [hU x y hx hy (by omega) e]
theorem keep_assoc (x y z : Cd) : keepC (keepC x y) z = keepC x (keepC y z) := by
  have key : ∀ a b : Cd, laterB a b = true ↔ (b.count < a.count ∨ (a.count = b.count ∧ b.site < a.site)) := by intro a b; simp [laterB]
  unfold keepC
  by_cases h1 : laterB y x = true
  · by_cases h2 : laterB z y = true
    · have : laterB z x = true := by rw [key] at *; omega
      simp [h1, h2, this]
    · simp [h1, h2]
  · by_cases h2 : laterB z y = true
    · simp [h1, h2]
    · have : ¬ laterB z x = true := by rw [key] at *; omega
      simp [h1, h2, this]
theorem keep_self (x : Cd) : keepC x x = x := by unfold keepC; split <;> rfl
theorem keep_or (x y : Cd) : keepC x y = x ∨ keepC x y = y := by unfold keepC; split <;> simp

def OptU (U : Cd → Prop) (a : Option Cd) : Prop := ∀ x, a = some x → U x
theorem over_u {U : Cd → Prop} {a b : Option Cd} (ha : OptU U a) (hb : OptU U b) : OptU U (over keepC a b) := by
  intro z hz
  cases a with
  | none => exact hb z (by simpa [over] using hz)
  | some x =>
    cases b with
    | none => exact ha z (by simpa [over] using hz)
    | some y =>
      simp only [over, Option.some.injEq] at hz
      rcases keep_or x y with h | h
      · exact ha z (by rw [← hz, h])
      · exact hb z (by rw [← hz, h])
theorem over_assoc (a b c : Option Cd) : over keepC (over keepC a b) c = over keepC a (over keepC b c) := by
  cases a <;> cases b <;> cases c <;> simp [over, keep_assoc]
theorem over_comm {U : Cd → Prop} (hU : Sole U) {a b : Option Cd} (ha : OptU U a) (hb : OptU U b) : over keepC a b = over keepC b a := by
  cases a with
  | none => rw [over_none]; rfl
  | some x =>
    cases b with
    | none => rfl
    | some y => simp only [over]; rw [keep_comm hU (ha x rfl) (hb y rfl)]
theorem over_self (a : Option Cd) : over keepC a a = a := by cases a <;> simp [over, keep_self]

/-- The writes of the site of the i-th, up to it. -/
def rankW (w : Nat → Wr) (k : Nat) : Nat → Int
  | 0 => 0
  | i + 1 => if siteIx (w i) = k then rankW w k i + 1 else rankW w k i
theorem rank_nonneg (w : Nat → Wr) (k : Nat) : ∀ i, 0 ≤ rankW w k i
  | 0 => by simp [rankW]
  | i + 1 => by have := rank_nonneg w k i; simp only [rankW]; split <;> omega
theorem rank_mono (w : Nat → Wr) (k : Nat) : ∀ i d, rankW w k i ≤ rankW w k (i + d)
  | i, 0 => Int.le_refl _
  | i, d + 1 => by have := rank_mono w k i d; rw [show i + (d + 1) = (i + d) + 1 from rfl]; simp only [rankW]; split <;> omega
/-- The card of the i-th write. -/
def cardW (w : Nat → Wr) (i : Nat) : Cd := cardOf (w i) (siteIx (w i)) (rankW w (siteIx (w i)) i + 1)
def IsW (w : Nat → Wr) (x : Cd) : Prop := ∃ i, x = cardW w i
theorem isW_sole (w : Nat → Wr) : Sole (IsW w) := by
  rintro x y ⟨i, rfl⟩ ⟨j, rfl⟩ hs hc
  simp only [cardW, cardOf] at hs hc
  have hk := siteL_inj _ _ (siteIx_lt (w i)) (siteIx_lt (w j)) hs
  have mono : ∀ a b : Nat, a < b → siteIx (w a) = siteIx (w b) → rankW w (siteIx (w a)) a < rankW w (siteIx (w b)) b := by
    intro a b hab e
    have h1 := rank_mono w (siteIx (w b)) (a + 1) (b - (a + 1))
    rw [show a + 1 + (b - (a + 1)) = b by omega] at h1
    have h2 : rankW w (siteIx (w b)) (a + 1) = rankW w (siteIx (w b)) a + 1 := by simp only [rankW]; rw [if_pos e]
    rw [e]; omega
  rcases Nat.lt_trichotomy i j with h | h | h
  · have := mono i j h hk; omega
  · rw [h]
  · have := mono j i h hk.symm; omega

def limS (S : Seen) (k : Nat) : Int := seenI S.m S.f k
/-- Counts: the writes there are, as many as are seen. -/
theorem counts_min (S : Seen) (hm : ∀ k, 0 ≤ limS S k) (k : Nat) (hk : k < 8) : ∀ i, (runS S i).1.getD k 0 = min (rankW S.w k i) (limS S k)
  | 0 => by
    have := hm k
    have e : (List.replicate 8 (0 : Int)).getD k 0 = 0 := by
      rw [List.getD, List.getElem?_replicate]; split <;> rfl
    simp only [runS, rankW, e]; omega
  | i + 1 => by
    have ih := counts_min S hm k hk i
    have hl := runS_length S i
    simp only [runS, stepS, rankW]
    have r0 := rank_nonneg S.w k i
    by_cases e : siteIx (S.w i) = k
    · rw [e, if_pos rfl]
      split
      · rename_i h; change limS S k ≤ _ at h; rw [ih] at h ⊢; omega
      · rename_i h; change ¬ limS S k ≤ _ at h
        rw [getD_set_self _ _ _ (by omega), ih] at *; omega
    · rw [if_neg e]
      split
      · exact ih
      · rw [getD_set_ne _ _ _ _ (fun h => e h.symm)]; exact ih

/-- The i-th write is seen just if its site's limit says so, and then with its own stamp. -/
theorem run_cards (S : Seen) (hm : ∀ k, 0 ≤ limS S k) (i : Nat) : (runS S (i + 1)).2 = if rankW S.w (siteIx (S.w i)) i < limS S (siteIx (S.w i)) then placedL (runS S i).2 (cardW S.w i) else (runS S i).2 := by
  have hc := counts_min S hm (siteIx (S.w i)) (siteIx_lt _) i
  simp only [runS, stepS]
  by_cases h : rankW S.w (siteIx (S.w i)) i < limS S (siteIx (S.w i))
  · rw [if_pos h, if_neg (by change ¬ limS S _ ≤ _; rw [hc]; omega)]
    simp only [cardW]
    rw [hc, show min (rankW S.w (siteIx (S.w i)) i) (limS S (siteIx (S.w i))) = rankW S.w (siteIx (S.w i)) i by omega]
  · rw [if_neg h, if_pos (by change limS S _ ≤ _; rw [hc]; omega)]

theorem run_asc (S : Seen) (i : Nat) : Asc Cd.id (runS S i).2 := (runS_good S i).2.1
theorem run_isW (S : Seen) (hm : ∀ k, 0 ≤ limS S k) : ∀ i, ∀ x ∈ (runS S i).2, IsW S.w x
  | 0, x, hx => by simp [runS] at hx
  | i + 1, x, hx => by
    rw [run_cards S hm i] at hx
    split at hx
    · rcases placedL_mem hx with rfl | hx
      · exact ⟨i, rfl⟩
      · exact run_isW S hm i x hx
    · exact run_isW S hm i x hx
theorem run_optU (S : Seen) (hm : ∀ k, 0 ≤ limS S k) (i : Nat) (k : Int) : OptU (IsW S.w) (look Cd.id (runS S i).2 k) := fun x hx => run_isW S hm i x (look_mem Cd.id hx).1
theorem run_look (S : Seen) (hm : ∀ k, 0 ≤ limS S k) (i : Nat) (k : Int) : look Cd.id (runS S (i + 1)).2 k =
    if rankW S.w (siteIx (S.w i)) i < limS S (siteIx (S.w i)) ∧ k = (cardW S.w i).id then over keepC (look Cd.id (runS S i).2 k) (some (cardW S.w i)) else look Cd.id (runS S i).2 k := by
  rw [run_cards S hm i]
  by_cases h : rankW S.w (siteIx (S.w i)) i < limS S (siteIx (S.w i))
  · rw [if_pos h, placed_put, look_put Cd.id (fun o c h => keepC_id o c h) (run_asc S i)]
    by_cases hk : k = (cardW S.w i).id
    · rw [if_pos hk, if_pos ⟨h, hk⟩]
    · rw [if_neg hk, if_neg (fun x => hk x.2)]
  · rw [if_neg h, if_neg (fun x => h x.1)]

/-- One sees what either of two others sees. -/
structure Most (S T M : Seen) : Prop where
  w1 : M.w = S.w
  w2 : T.w = S.w
  lim : ∀ k, k < 8 → limS M k = max (limS S k) (limS T k)
  p1 : ∀ k, 0 ≤ limS S k
  p2 : ∀ k, 0 ≤ limS T k
  p3 : ∀ k, 0 ≤ limS M k
theorem most_look {S T M : Seen} (h : Most S T M) (k : Int) : ∀ i, look Cd.id (runS M i).2 k = over keepC (look Cd.id (runS S i).2 k) (look Cd.id (runS T i).2 k)
  | 0 => by simp [runS, look, over]
  | i + 1 => by
    have ih := most_look h k i
    have u1 := run_optU S h.p1 i k
    have u2 := run_optU T h.p2 i k
    rw [h.w2] at u2
    have hl := h.lim (siteIx (S.w i)) (siteIx_lt _)
    have uc : OptU (IsW S.w) (some (cardW S.w i)) := fun x hx => ⟨i, by injection hx with hx; exact hx.symm⟩
    have hU := isW_sole S.w
    rw [run_look M h.p3, run_look S h.p1, run_look T h.p2, h.w1, h.w2, ih, hl]
    generalize look Cd.id (runS S i).2 k = a at *
    generalize look Cd.id (runS T i).2 k = b at *
    generalize hc : cardW S.w i = c at *
    by_cases hk : k = c.id
    · by_cases h1 : rankW S.w (siteIx (S.w i)) i < limS S (siteIx (S.w i))
      · by_cases h2 : rankW S.w (siteIx (S.w i)) i < limS T (siteIx (S.w i))
        · rw [if_pos ⟨by omega, hk⟩, if_pos ⟨h1, hk⟩, if_pos ⟨h2, hk⟩]
          rw [over_assoc a (some c), ← over_assoc (some c) b (some c), over_comm hU uc u2, over_assoc b, over_self, over_assoc]
        · rw [if_pos ⟨by omega, hk⟩, if_pos ⟨h1, hk⟩, if_neg (fun x => h2 x.1)]
          rw [over_assoc, over_assoc, over_comm hU u2 uc]
      · by_cases h2 : rankW S.w (siteIx (S.w i)) i < limS T (siteIx (S.w i))
        · rw [if_pos ⟨by omega, hk⟩, if_neg (fun x => h1 x.1), if_pos ⟨h2, hk⟩, over_assoc]
        · rw [if_neg (fun x => by have := x.1; omega), if_neg (fun x => h1 x.1), if_neg (fun x => h2 x.1)]
    · rw [if_neg (fun x => hk x.2), if_neg (fun x => hk x.2), if_neg (fun x => hk x.2)]
/-- The merged cards are those that see what either sees. -/
theorem most_cards {S T M : Seen} (h : Most S T M) (i : Nat) : mergeC (runS S i).2 (runS T i).2 = (runS M i).2 := by
  have hf : ∀ o c : Cd, o.id = c.id → (keepC o c).id = c.id := keepC_id
  refine asc_ext Cd.id (layK_asc Cd.id hf (run_asc S i)) (run_asc M i) (fun k => ?_)
  rw [most_look h k i]
  exact look_lay Cd.id hf (run_asc S i) (run_asc T i) k
theorem most_counts {S T M : Seen} (h : Most S T M) (i k : Nat) (hk : k < 8) : (runS M i).1.getD k 0 = max ((runS S i).1.getD k 0) ((runS T i).1.getD k 0) := by
  rw [counts_min M h.p3 k hk, counts_min S h.p1 k hk, counts_min T h.p2 k hk, h.lim k hk, h.w1, h.w2]; omega
end Go.Proofs.Ytdjpkgaicmklmab

