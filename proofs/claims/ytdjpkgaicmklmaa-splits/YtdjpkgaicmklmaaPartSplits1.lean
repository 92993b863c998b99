/- Texts of the proof, one behind the other; what each holds is said at its head. -/
import Derived.Test.YtdjpkgaicmklmaaPartSplits0
import Derived.Laws.Bits64
import Derived.Deep.RegionHeld3
/- A link's records in their order: the reference's records, walked. -/
namespace Go.Proofs.Ytdjpkgaicmklmaa
open Go.RowKit

def fcells (l : List Fd) : List Value := (l.map Fd.cells).flatten
theorem fcells_append (a b : List Fd) : fcells (a ++ b) = fcells a ++ fcells b := by simp [fcells]
theorem fcells_one (f : Fd) : fcells [f] = f.cells := by simp [fcells]

theorem new_cells2 (w : World) (o : Obj) (cs : List Value) (t : TypeId) : ∀ j u, cs[j]? = some u → ((w.alloc o).alloc (.cells cs.toArray t)).cell? ((⟨w.heap.size + 1, 0, none⟩ : Addr).add j) = some u := by
  intro j u h
  have := new_cells (w.alloc o) cs t j u h
  rwa [World.size_alloc] at this

set_option maxRecDepth 100000 in
set_option maxHeartbeats 4000000 in
theorem records_any (s b : Int) (R : Rep) (a1 a2 a3 : Option Addr) (k1 k2 k3 : Nat) (w : World) (hR : Has w R a1 a2 a3) (hF : Fit R) :
    Calls Try.prog 85 #[.agg (lnkA s b R a1 a2 a3 k1 k2 k3)] w fun e w' => ∃ ad cap N, e = .returned (.slice ad N cap) ∧ N = (recsOf s b R).length ∧ Vec w' w.heap.size 64 9 ad N cap (fcells (recsOf s b R)) ∧ Below w.heap.size w w' := by
  have m1 := hF.n1; have m2 := hF.n2; have m3 := hF.n3
  have h0 : BoxL w s b R a1 a2 a3 k1 k2 k3 (w.alloc (.cells (lnkA s b R a1 a2 a3 k1 k2 k3) 75)) := Below.refl _ _
  have z0 : w.heap.size + 1 ≤ (w.alloc (.cells (lnkA s b R a1 a2 a3 k1 k2 k3) 75)).heap.size := by simp
  have hv0 : Vec ((w.alloc (.cells (lnkA s b R a1 a2 a3 k1 k2 k3) 75)).alloc (.cells (fdHead s b).cells.toArray 64)) (w.heap.size + 1) 64 9 (some ⟨w.heap.size + 1, 0, none⟩) 1 1 (fcells (recs1 s b R 0)) := by
    have := Vec.lit (w.alloc (.cells (lnkA s b R a1 a2 a3 k1 k2 k3) 75)) (w.heap.size + 1) 64 9 1 (fdHead s b).cells z0 (by omega) rfl
    rw [World.size_alloc] at this
    simpa [recs1, fcells] using this
  have h1 := h0.alloc z0 (.cells (fdHead s b).cells.toArray 64)
  have HV : Hid (Vec ((w.alloc (.cells (lnkA s b R a1 a2 a3 k1 k2 k3) 75)).alloc (.cells (fdHead s b).cells.toArray 64)) (w.heap.size + 1) 64 9 (some ⟨w.heap.size + 1, 0, none⟩) 1 1 (fcells (recs1 s b R 0))) := hv0
  have HB : Hid (BoxL w s b R a1 a2 a3 k1 k2 k3 ((w.alloc (.cells (lnkA s b R a1 a2 a3 k1 k2 k3) 75)).alloc (.cells (fdHead s b).cells.toArray 64))) := h1
  clear hv0 h0 h1 z0
  go_enter Try.func85, Try.ntmps85
  go_wp2_with fail
  go_loopw [3, 4, 5] (fun v u _ wr => ∃ (k : Nat) (ad : Option Addr) (cap N : Nat), k ≤ R.n1 ∧ u = .int .i64 k ∧ v = .slice ad N cap ∧ N = 1 + k ∧ Vec wr (w.heap.size + 1) 64 9 ad N cap (fcells (recs1 s b R k)) ∧ BoxL w s b R a1 a2 a3 k1 k2 k3 wr) (fun _ u _ _ => R.n1 - (intOf u).toNat)
  case atStart => exact ⟨0, _, _, 1, Nat.zero_le _, rfl, rfl, rfl, HV.out, HB.out⟩
  case round =>
    clear HV HB
    obtain ⟨k, ad, cap, N, hk, rfl, rfl, hN, hv, hb⟩ := hrel
    have HN : Hid (N = 1 + k) := hN
    have hNb : N ≤ 3000001 := by omega
    clear hN
    obtain ⟨x0, x1, x2, x3, x4⟩ := hb.cells
    have z1 : w.heap.size + 1 ≤ wr.heap.size := by have := hb.size; simpa using this
    by_cases hlt : k < R.n1
    · obtain ⟨bb, o, hbl, hix, cs, cc⟩ := (hR.below (box_old hb)).l1.clock k1 hlt
      have hvx : ∀ o1 o2, Vec ((wr.alloc o1).alloc o2) (w.heap.size + 1) 64 9 ad N cap (fcells (recs1 s b R k)) := fun o1 o2 => hv.keep (((Below.refl _ wr).alloc (Nat.le_refl _) _).alloc (by simp) _)
      have HX : Hid (∀ o1 o2, Vec ((wr.alloc o1).alloc o2) (w.heap.size + 1) 64 9 ad N cap (fcells (recs1 s b R k))) := hvx
      clear hvx
      go_wp2_with (at_builtin; refine wpList_push (by rfl) _ _ 57 (by rfl) (w.heap.size + 1) 64 9 80 (.agg #[.int .i64 0, .int .i64 0, .int .i64 0, .int .i64 0, .int .i64 0, .int .i64 0, .int .i64 0, .bool false, .string ⟨#[]⟩]) Try.underlying57 (by kernel_rfl) rfl (by decide) ad N cap _ (by rfl) (HX.out _ _) _ _ (fdClock (R.c k)).cells (by rfl) rfl ?_ ?_ ?_ ?_ ?_ ?_; exact new_cells2 _ _ _ _; (simp [Value.oneCell', fdClock]); (omega); (omega); (simp; omega); intro ad' cap' w' hv' hb' hs')
      have h2 : BoxL w s b R a1 a2 a3 k1 k2 k3 w' := ((hb.alloc z1 _).alloc (by simp; omega) _).trans hb'
      have hv2 : Vec w' (w.heap.size + 1) 64 9 ad' (N + 1) cap' (fcells (recs1 s b R (k + 1))) := by
        rw [recs1_succ, fcells_append, fcells_one]; exact hv'
      go_roundw
      case rel => exact ⟨k + 1, ad', cap', N + 1, by omega, by go_num, rfl, by have := HN.out; omega, hv2, h2⟩
      case measure => simp [intOf]; omega
    · have e1 : k = R.n1 := by omega
      have hv0 : Vec wr (w.heap.size + 1) 64 9 ad N cap (fcells (recs2 s b R 0)) := by
        rw [recs2_zero, ← e1]; exact hv
      have N1 : Hid (N = 1 + R.n1) := by have := HN.out; show _ = _; omega
      clear e1 hv HN hk z1
      go_wp2_with fail
      go_loopw [3, 6, 7] (fun v u _ wr => ∃ (k : Nat) (ad : Option Addr) (cap N : Nat), k ≤ R.n2 ∧ u = .int .i64 k ∧ v = .slice ad N cap ∧ N = 1 + R.n1 + k ∧ Vec wr (w.heap.size + 1) 64 9 ad N cap (fcells (recs2 s b R k)) ∧ BoxL w s b R a1 a2 a3 k1 k2 k3 wr) (fun _ u _ _ => R.n2 - (intOf u).toNat)
      case atStart => exact ⟨0, _, _, N, Nat.zero_le _, rfl, rfl, N1.out, hv0, hb⟩
      case round =>
        clear hv0 hb x0 x1 x2 x3 x4 N1 hNb hlt
        obtain ⟨k, ad, cap, N, hk, rfl, rfl, hN, hv, hb⟩ := hrel
        have HN : Hid (N = 1 + R.n1 + k) := hN
        have hNb : N ≤ 3000001 := by omega
        clear hN
        obtain ⟨x0, x1, x2, x3, x4⟩ := hb.cells
        have z1 : w.heap.size + 1 ≤ wr.heap.size := by have := hb.size; simpa using this
        by_cases hlt : k < R.n2
        · obtain ⟨bb, o, hbl, hix, c1, c2, c3, c4, c5⟩ := (hR.below (box_old hb)).l2.card k2 hlt
          have hvx : ∀ o1 o2, Vec ((wr.alloc o1).alloc o2) (w.heap.size + 1) 64 9 ad N cap (fcells (recs2 s b R k)) := fun o1 o2 => hv.keep (((Below.refl _ wr).alloc (Nat.le_refl _) _).alloc (by simp) _)
          have HX : Hid (∀ o1 o2, Vec ((wr.alloc o1).alloc o2) (w.heap.size + 1) 64 9 ad N cap (fcells (recs2 s b R k))) := hvx
          clear hvx
          go_wp2_with (at_builtin; refine wpList_push (by rfl) _ _ 57 (by rfl) (w.heap.size + 1) 64 9 80 (.agg #[.int .i64 0, .int .i64 0, .int .i64 0, .int .i64 0, .int .i64 0, .int .i64 0, .int .i64 0, .bool false, .string ⟨#[]⟩]) Try.underlying57 (by kernel_rfl) rfl (by decide) ad N cap _ (by rfl) (HX.out _ _) _ _ (fdCard (R.d k)).cells (by rfl) rfl ?_ ?_ ?_ ?_ ?_ ?_; exact new_cells2 _ _ _ _; (simp [Value.oneCell', fdCard]); (omega); (omega); (simp; omega); intro ad' cap' w' hv' hb' hs')
          have h2 : BoxL w s b R a1 a2 a3 k1 k2 k3 w' := ((hb.alloc z1 _).alloc (by simp; omega) _).trans hb'
          have hv2 : Vec w' (w.heap.size + 1) 64 9 ad' (N + 1) cap' (fcells (recs2 s b R (k + 1))) := by
            rw [recs2_succ, fcells_append, fcells_one]; exact hv'
          go_roundw
          case rel => exact ⟨k + 1, ad', cap', N + 1, by omega, by go_num, rfl, by have := HN.out; omega, hv2, h2⟩
          case measure => simp [intOf]; omega
        · have e1 : k = R.n2 := by omega
          have hv0 : Vec wr (w.heap.size + 1) 64 9 ad N cap (fcells (recs3 s b R 0)) := by
            rw [recs3_zero, ← e1]; exact hv
          have N1 : Hid (N = 1 + R.n1 + R.n2) := by have := HN.out; show _ = _; omega
          clear e1 hv HN hk z1
          go_wp2_with fail
          go_loopw [3, 8, 9] (fun v u _ wr => ∃ (k : Nat) (ad : Option Addr) (cap N : Nat), k ≤ R.n3 ∧ u = .int .i64 k ∧ v = .slice ad N cap ∧ N = 1 + R.n1 + R.n2 + k ∧ Vec wr (w.heap.size + 1) 64 9 ad N cap (fcells (recs3 s b R k)) ∧ BoxL w s b R a1 a2 a3 k1 k2 k3 wr) (fun _ u _ _ => R.n3 - (intOf u).toNat)
          case atStart => exact ⟨0, _, _, N, Nat.zero_le _, rfl, rfl, N1.out, hv0, hb⟩
          case round =>
            clear hv0 hb x0 x1 x2 x3 x4 N1 hNb hlt
            obtain ⟨k, ad, cap, N, hk, rfl, rfl, hN, hv, hb⟩ := hrel
            have HN : Hid (N = 1 + R.n1 + R.n2 + k) := hN
            have hNb : N ≤ 3000001 := by omega
            clear hN
            obtain ⟨x0, x1, x2, x3, x4⟩ := hb.cells
            have z1 : w.heap.size + 1 ≤ wr.heap.size := by have := hb.size; simpa using this
            by_cases hlt : k < R.n3
            · obtain ⟨bb, o, hbl, hix, c1, c2⟩ := (hR.below (box_old hb)).l3.edit k3 hlt
              have hvx : ∀ o1 o2, Vec ((wr.alloc o1).alloc o2) (w.heap.size + 1) 64 9 ad N cap (fcells (recs3 s b R k)) := fun o1 o2 => hv.keep (((Below.refl _ wr).alloc (Nat.le_refl _) _).alloc (by simp) _)
              have HX : Hid (∀ o1 o2, Vec ((wr.alloc o1).alloc o2) (w.heap.size + 1) 64 9 ad N cap (fcells (recs3 s b R k))) := hvx
              clear hvx
              go_wp2_with (at_builtin; refine wpList_push (by rfl) _ _ 57 (by rfl) (w.heap.size + 1) 64 9 80 (.agg #[.int .i64 0, .int .i64 0, .int .i64 0, .int .i64 0, .int .i64 0, .int .i64 0, .int .i64 0, .bool false, .string ⟨#[]⟩]) Try.underlying57 (by kernel_rfl) rfl (by decide) ad N cap _ (by rfl) (HX.out _ _) _ _ (fdEdit (R.e k)).cells (by rfl) rfl ?_ ?_ ?_ ?_ ?_ ?_; exact new_cells2 _ _ _ _; (simp [Value.oneCell', fdEdit]); (omega); (omega); (simp; omega); intro ad' cap' w' hv' hb' hs')
              have h2 : BoxL w s b R a1 a2 a3 k1 k2 k3 w' := ((hb.alloc z1 _).alloc (by simp; omega) _).trans hb'
              have hv2 : Vec w' (w.heap.size + 1) 64 9 ad' (N + 1) cap' (fcells (recs3 s b R (k + 1))) := by
                rw [recs3_succ, fcells_append, fcells_one]; exact hv'
              go_roundw
              case rel => exact ⟨k + 1, ad', cap', N + 1, by omega, by go_num, rfl, by have := HN.out; omega, hv2, h2⟩
              case measure => simp [intOf]; omega
            · have e1 : k = R.n3 := by omega
              have hv0 : Vec wr (w.heap.size + 1) 64 9 ad N cap (fcells (recsOf s b R)) := by
                unfold recsOf; rw [← e1]; exact hv
              have N1 : Hid (N = (recsOf s b R).length) := by have := HN.out; show _ = _; rw [recsOf_length]; omega
              clear e1 hv HN hk z1
              go_wp2_with fail
              go_ret
              exact ⟨ad, cap, N, rfl, N1.out, hv0.mono (by omega), box_old hb⟩
end Go.Proofs.Ytdjpkgaicmklmaa

/- The sum of bytes, plainly: a register of 32 bits; by bits, by bytes, and by long division. -/
namespace Go.Proofs.Ytdjpkgaicmklmaa

/-- One bit is taken in; p: the polynomial without its first term. -/
def cst (p r : Nat) (b : Bool) : Nat := if (r.testBit 31 != b) then (2 * r % 4294967296) ^^^ p else 2 * r % 4294967296
def crcB (p r : Nat) (l : List Bool) : Nat := l.foldl (cst p) r
def bitsOf (x : UInt8) : List Bool := [x.toNat.testBit 7, x.toNat.testBit 6, x.toNat.testBit 5, x.toNat.testBit 4, x.toNat.testBit 3, x.toNat.testBit 2, x.toNat.testBit 1, x.toNat.testBit 0]
def allBits (l : List UInt8) : List Bool := l.flatMap bitsOf
/-- The sum (or seal) of bytes. -/
def crc (p : Nat) (l : List UInt8) : Nat := crcB p 4294967295 (allBits l) ^^^ 4294967295
def pSum : Nat := 79764919
def pSeal : Nat := 517762881

theorem cst_lt {p r : Nat} {b : Bool} (hp : p < 4294967296) : cst p r b < 4294967296 := by
  unfold cst
  split
  · exact Nat.xor_lt_two_pow (n := 32) (by omega) hp
  · omega
theorem crcB_lt {p : Nat} (hp : p < 4294967296) : ∀ (l : List Bool) {r : Nat}, r < 4294967296 → crcB p r l < 4294967296
  | [], _, h => h
  | _ :: l, _, _ => crcB_lt hp l (cst_lt hp)
theorem crc_lt {p : Nat} (hp : p < 4294967296) (l : List UInt8) : crc p l < 4294967296 := Nat.xor_lt_two_pow (n := 32) (crcB_lt hp _ (by omega)) (by omega)
theorem crcB_append (p r : Nat) (a b : List Bool) : crcB p r (a ++ b) = crcB p (crcB p r a) b := by simp [crcB]

theorem allBits_append (a b : List UInt8) : allBits (a ++ b) = allBits a ++ allBits b := by simp [allBits]
theorem allBits_one (x : UInt8) : allBits [x] = bitsOf x := by simp [allBits]
theorem allBits_length (l : List UInt8) : (allBits l).length = 8 * l.length := by
  induction l with
  | nil => rfl
  | cons x l ih => rw [show x :: l = [x] ++ l from rfl, allBits_append, allBits_one]; simp [ih, bitsOf]; omega

/-- The program's way: the register is shifted; if it runs over, the polynomial (with its first term) is laid upon it. -/
def div1 (p r : Nat) : Nat := if 4294967295 < 2 * r then (2 * r) ^^^ (p + 4294967296) else 2 * r

/-- Bits from the bit 31 down. -/
def high : List Bool → Nat
  | [] => 0
  | b :: l => (if b then 2147483648 else 0) + high l / 2

theorem high_lt : ∀ l, high l < 4294967296
  | [] => by simp [high]
  | b :: l => by have := high_lt l; simp only [high]; split <;> omega

theorem bit_high_top (b : Bool) (l : List Bool) : (high (b :: l)).testBit 31 = b := by
  have := high_lt l
  cases b
  · simp only [high]; exact Nat.testBit_lt_two_pow (by simp; omega)
  · simp only [high, if_true]
    rw [show (2147483648 : Nat) = 2 ^ 31 by decide, Nat.testBit_two_pow_add_eq]
    rw [Nat.testBit_lt_two_pow (by omega)]; rfl

/-- As long as what lies behind has even values: 'high l' ends in a nought for l shorter than 32. -/
theorem high_even : ∀ (l : List Bool) (k : Nat), l.length ≤ k → k ≤ 32 → high l % 2 ^ (32 - k) = 0
  | [], k, _, _ => by simp [high]
  | b :: l, k, h, hk => by
    have hl := high_even l (k - 1) (by simp at h; omega) (by omega)
    simp only [List.length_cons] at h
    have e : 32 - (k - 1) = (32 - k) + 1 := by omega
    rw [e, Nat.pow_succ] at hl
    have h1 : 2 ^ (32 - k) * 2 ∣ high l := Nat.dvd_of_mod_eq_zero hl
    obtain ⟨c, hc⟩ := h1
    simp only [high]
    have h2 : high l / 2 = 2 ^ (32 - k) * c := by rw [hc, Nat.mul_assoc, Nat.mul_comm 2 c, ← Nat.mul_assoc]; exact Nat.mul_div_cancel _ (by omega)
    have h3 : 2 ^ (32 - k) ∣ 2147483648 := by
      rw [show (2147483648 : Nat) = 2 ^ 31 by decide]
      exact Nat.pow_dvd_pow 2 (by omega)
    rw [h2]
    apply Nat.mod_eq_zero_of_dvd
    refine Nat.dvd_add ?_ (Nat.dvd_mul_right _ _)
    split
    · exact h3
    · exact Nat.dvd_zero _

theorem high_shift (b : Bool) (l : List Bool) (h : l.length ≤ 31) : 2 * high (b :: l) % 4294967296 = high l := by
  have he := high_even l 31 h (by omega)
  have := high_lt l
  simp only [high]
  simp at he
  split <;> omega

theorem xor_two_mul (a b : Nat) : 2 * (a ^^^ b) = (2 * a) ^^^ (2 * b) := by
  apply Nat.eq_of_testBit_eq
  intro i
  cases i with
  | zero => simp
  | succ i =>
    rw [Nat.testBit_xor, Nat.testBit_succ, Nat.testBit_succ, Nat.testBit_succ, Nat.mul_div_cancel_left _ (by omega), Nat.mul_div_cancel_left _ (by omega), Nat.mul_div_cancel_left _ (by omega), Nat.testBit_xor]

theorem xor_mod (a b : Nat) : (a ^^^ b) % 4294967296 = (a % 4294967296) ^^^ (b % 4294967296) := Nat.xor_mod_two_pow (n := 32)

theorem div1_step (p r : Nat) (b : Bool) (l : List Bool) (hp : p < 4294967296) (hr : r < 4294967296) (hl : l.length ≤ 31) : div1 p (r ^^^ high (b :: l)) = cst p r b ^^^ high l := by
  have hs : r ^^^ high (b :: l) < 4294967296 := Nat.xor_lt_two_pow (n := 32) hr (high_lt _)
  have htop : (r ^^^ high (b :: l)).testBit 31 = (r.testBit 31 != b) := by
    rw [Nat.testBit_xor, bit_high_top]
  have hmod : 2 * (r ^^^ high (b :: l)) % 4294967296 = (2 * r % 4294967296) ^^^ high l := by
    rw [xor_two_mul, xor_mod, high_shift b l hl]
  generalize r ^^^ high (b :: l) = s at hs htop hmod
  have hgt : (4294967295 < 2 * s) ↔ s.testBit 31 = true := by
    constructor
    · intro h
      rw [show s = 2 ^ 31 + (s - 2 ^ 31) by omega, Nat.testBit_two_pow_add_eq, Nat.testBit_lt_two_pow (by omega)]; rfl
    · intro h
      have := Nat.ge_two_pow_of_testBit h
      omega
  unfold div1 cst
  rw [← htop]
  by_cases h : s.testBit 31 = true
  · rw [if_pos (hgt.2 h), if_pos h]
    have h2 : 2 * s = 2 * s % 4294967296 + 4294967296 := by have := hgt.2 h; omega
    have e : (2 * s % 4294967296 + 4294967296) ^^^ (p + 4294967296) = (2 * s % 4294967296) ^^^ p := by
      have h1 : 2 * s % 4294967296 < 2 ^ 32 := by omega
      apply Nat.eq_of_testBit_eq
      intro i
      rw [Nat.add_comm _ 4294967296, Nat.add_comm p 4294967296, show (4294967296 : Nat) = 2 ^ 32 by decide]
      rcases Nat.lt_trichotomy i 32 with hi | hi | hi
      · rw [Nat.testBit_xor, Nat.testBit_xor, Nat.testBit_two_pow_add_gt hi, Nat.testBit_two_pow_add_gt hi]
      · subst hi
        rw [Nat.testBit_xor, Nat.testBit_xor, Nat.testBit_two_pow_add_eq, Nat.testBit_two_pow_add_eq, Nat.testBit_lt_two_pow h1, Nat.testBit_lt_two_pow (by omega : p < 2 ^ 32)]; rfl
      · have ha : 2 ^ 32 + 2 * s % 2 ^ 32 < 2 ^ i := Nat.lt_of_lt_of_le (by omega : _ < 2 ^ 33) (Nat.pow_le_pow_right (by omega) (by omega))
        have hb : 2 ^ 32 + p < 2 ^ i := Nat.lt_of_lt_of_le (by omega : _ < 2 ^ 33) (Nat.pow_le_pow_right (by omega) (by omega))
        rw [Nat.testBit_xor, Nat.testBit_xor, Nat.testBit_lt_two_pow ha, Nat.testBit_lt_two_pow hb, Nat.testBit_lt_two_pow (by omega : 2 * s % 2 ^ 32 < 2 ^ i), Nat.testBit_lt_two_pow (by omega : p < 2 ^ i)]
    rw [← h2] at e
    rw [e, hmod, Nat.xor_assoc, Nat.xor_assoc, Nat.xor_comm (high l)]
  · rw [if_neg (fun hh => h (hgt.1 hh)), if_neg h, ← hmod]
    have : ¬ 4294967295 < 2 * s := fun hh => h (hgt.1 hh)
    omega

/-- So many shifts. -/
def divN (p : Nat) : Nat → Nat → Nat
  | 0, r => r
  | k + 1, r => divN p k (div1 p r)

theorem divN_high (p : Nat) (hp : p < 4294967296) (b : List Bool) : ∀ (a : List Bool) (r : Nat), r < 4294967296 → (a ++ b).length ≤ 32 → divN p a.length (r ^^^ high (a ++ b)) = crcB p r a ^^^ high b
  | [], r, _, _ => by simp [divN, crcB]
  | x :: a, r, hr, hl => by
    simp only [List.cons_append, List.length_cons] at hl ⊢
    rw [divN, div1_step p r x (a ++ b) hp hr (by omega), divN_high p hp b a _ (cst_lt hp) (by omega)]
    rfl

theorem byte_high (x : UInt8) : x.toNat * 16777216 = high (bitsOf x) := by
  have hx := x.toNat_lt
  have e : ∀ n : Nat, n < 256 → n * 16777216 = high [n.testBit 7, n.testBit 6, n.testBit 5, n.testBit 4, n.testBit 3, n.testBit 2, n.testBit 1, n.testBit 0] := by decide +kernel
  exact e _ (by simpa using hx)

theorem divN_byte (p : Nat) (hp : p < 4294967296) (x : UInt8) (r : Nat) (hr : r < 4294967296) : divN p 8 (r ^^^ (x.toNat * 16777216)) = crcB p r (bitsOf x) := by
  rw [byte_high]
  have := divN_high p hp [] (bitsOf x) r hr (by simp [bitsOf])
  rw [List.append_nil] at this
  rw [show (8 : Nat) = (bitsOf x).length from rfl, this]
  simp [high]

theorem bits_xor_i64 (a b : Nat) (ha : a < 9223372036854775808) (hb : b < 9223372036854775808) : bits .xor .i64 (a : Int) (b : Int) = ((a ^^^ b : Nat) : Int) := by
  have hx : a ^^^ b < 2 ^ 63 := Nat.xor_lt_two_pow (by omega) (by omega)
  have h1 : (BitVec.ofInt 64 (a : Int)).toNat = a := by
    rw [BitVec.ofInt_natCast, BitVec.toNat_ofNat]; exact Nat.mod_eq_of_lt (by omega)
  have h2 : (BitVec.ofInt 64 (b : Int)).toNat = b := by
    rw [BitVec.ofInt_natCast, BitVec.toNat_ofNat]; exact Nat.mod_eq_of_lt (by omega)
  show IntKind.i64.wrap ((BitVec.ofInt 64 (a : Int) ^^^ BitVec.ofInt 64 (b : Int)).toNat : Int) = _
  rw [BitVec.toNat_xor, h1, h2]
  simp [IntKind.wrap, IntKind.bits, IntKind.signed]
  omega

theorem bits_and_one (a : Nat) (ha : a < 9223372036854775808) : bits .and .i64 (a : Int) 1 = ((a % 2 : Nat) : Int) := by
  have h1 : (BitVec.ofInt 64 (a : Int)).toNat = a := by
    rw [BitVec.ofInt_natCast, BitVec.toNat_ofNat]; exact Nat.mod_eq_of_lt (by omega)
  show IntKind.i64.wrap ((BitVec.ofInt 64 (a : Int) &&& BitVec.ofInt 64 1).toNat : Int) = _
  have h2 : (BitVec.ofInt 64 (1 : Int)).toNat = 1 := by decide
  rw [BitVec.toNat_and, h1, h2, Nat.and_one_is_mod]
  simp [IntKind.wrap, IntKind.bits, IntKind.signed]
  omega

theorem bit_test (a k : Nat) (ha : a < 9223372036854775808) : (bits .and .i64 ((a : Int) / 2 ^ k) 1 == 1) = a.testBit k := by
  have e : ((a : Int) / 2 ^ k) = ((a / 2 ^ k : Nat) : Int) := by
    rw [Int.natCast_ediv, Int.natCast_pow]; rfl
  rw [e, bits_and_one _ (Nat.lt_of_le_of_lt (Nat.div_le_self _ _) ha), Nat.testBit_eq_decide_div_mod_eq]
  by_cases h : a / 2 ^ k % 2 = 1
  · simp [h]
  · have h0 : a / 2 ^ k % 2 = 0 := by omega
    simp [h0]

theorem bitsOf_at (x : UInt8) (j : Nat) (h : j < 8) : (bitsOf x)[j]? = some (x.toNat.testBit (7 - j)) := by
  have : j = 0 ∨ j = 1 ∨ j = 2 ∨ j = 3 ∨ j = 4 ∨ j = 5 ∨ j = 6 ∨ j = 7 := by omega
  rcases this with rfl | rfl | rfl | rfl | rfl | rfl | rfl | rfl <;> rfl
theorem bitsOf_take (x : UInt8) (j : Nat) (h : j < 8) : (bitsOf x).take (j + 1) = (bitsOf x).take j ++ [x.toNat.testBit (7 - j)] := by
  have hl : j < (bitsOf x).length := h
  rw [List.take_succ_eq_append_getElem hl]
  have := bitsOf_at x j h
  rw [List.getElem?_eq_getElem hl] at this
  simp at this
  rw [this]
end Go.Proofs.Ytdjpkgaicmklmaa

/- The reference's bits of bytes, walked. -/
namespace Go.Proofs.Ytdjpkgaicmklmaa
open Go.RowKit

set_option maxRecDepth 100000 in
set_option maxHeartbeats 2000000 in
theorem bits_any (s : List UInt8) (w : World) (hs : s.length ≤ 8796093022208) :
    Calls Try.prog 135 #[.string (str s)] w fun e w' => ∃ ad cap, e = .returned (.slice ad (8 * s.length) cap) ∧ Vec w' w.heap.size 4 1 ad (8 * s.length) cap ((allBits s).map Value.bool) ∧ Below w.heap.size w w' := by
  have hz := str_size s
  have HZ : Hid ((str s).size = s.length) := hz
  clear hz
  have hs2 : (str s).size ≤ 8796093022208 := by rw [HZ.out]; exact hs
  go_enter Try.func135, Try.ntmps135
  go_wp2
  go_loopw [3, 4, 5] (fun v u _ wr => ∃ (i : Nat) (ad : Option Addr) (cap N : Nat), i ≤ (str s).size ∧ u = .int .i64 i ∧ v = .slice ad N cap ∧ N = 8 * i ∧ Vec wr w.heap.size 4 1 ad N cap ((allBits (s.take i)).map Value.bool) ∧ Below w.heap.size w wr) (fun _ u _ _ => (str s).size - (intOf u).toNat)
  case atStart => exact ⟨0, none, 0, 0, Nat.zero_le _, rfl, rfl, rfl, Vec.nil _ _ _ _, Below.refl _ _⟩
  case round =>
    obtain ⟨i, ad, cap, N, hi, rfl, rfl, hN, hv, hb⟩ := hrel
    have HN : Hid (N = 8 * i) := hN
    clear hN
    by_cases hlt : i < (str s).size
    · have hlt2 : i < s.length := by rw [← HZ.out]; exact hlt
      have hd1 : decide ((i : Int) < ((str s).size : Int)) = true := by simp; omega
      go_wp2
      go_loopw [3, 5] (fun v u wr => ∃ (j : Nat) (ad : Option Addr) (cap M : Nat), j ≤ 8 ∧ u = .int .i64 (7 - (j : Int)) ∧ v = .slice ad M cap ∧ M = N + j ∧ Vec wr w.heap.size 4 1 ad M cap ((allBits (s.take i) ++ (bitsOf s[i]).take j).map Value.bool) ∧ Below w.heap.size w wr) (fun _ u _ => (intOf u + 1).toNat)
      case atStart => exact ⟨0, ad, cap, N, Nat.zero_le _, rfl, rfl, rfl, by simpa using hv, hb⟩
      case round =>
        clear hv hb
        obtain ⟨j, ad, cap, M, hj, rfl, rfl, hM, hv, hb⟩ := hrel
        have HM : Hid (M = N + j) := hM
        have hMb : M ≤ 70368744177664 + 8 := by have := HN.out; omega
        clear hM
        by_cases hjt : j < 8
        · have hz := hb.size
          have ew : wrap64 (((str s)[i]'hlt).toNat : Int) = ((s[i].toNat : Nat) : Int) := by
            have h8 := (s[i]).toNat_lt
            have e0 : ((str s)[i]'hlt).toNat = s[i].toNat := rfl
            rw [e0]; unfold wrap64; omega
          have h8 := (s[i]).toNat_lt
          have eb : (bits BinOp.and IntKind.i64 (wrap64 (((str s)[i]'hlt).toNat : Int) / 2 ^ (7 - j)) 1 == 1) = s[i].toNat.testBit (7 - j) := by
            rw [ew, bit_test _ _ (by omega)]
          have EB : Hid ((bits BinOp.and IntKind.i64 (wrap64 (((str s)[i]'hlt).toNat : Int) / 2 ^ (7 - j)) 1 == 1) = s[i].toNat.testBit (7 - j)) := eb
          clear eb ew h8
          go_wp2_with (at_builtin; rw [EB.out]; refine wpList_push (by rfl) _ _ 155 (by rfl) w.heap.size 4 1 1 (.bool false) Try.underlying155 (by kernel_rfl) rfl (by decide) ad M cap _ (by rfl) (hv.keep ((Below.refl _ _).alloc (Nat.le_refl _) _)) _ _ [.bool (s[i].toNat.testBit (7 - j))] (by rfl) rfl ?_ ?_ ?_ ?_ ?_ ?_; exact new_cells _ _ _; (simp [Value.oneCell']); (omega); (omega); (simp; omega); intro ad' cap' w' hv' hb' hs')
          have hb2 : Below w.heap.size w w' := hb.trans (((Below.refl _ wr).alloc (Nat.le_refl _) _).mono hz |>.trans hb')
          have hv2 : Vec w' w.heap.size 4 1 ad' (M + 1) cap' ((allBits (s.take i) ++ (bitsOf s[i]).take (j + 1)).map Value.bool) := by
            rw [bitsOf_take _ _ hjt]; simpa using hv'
          go_roundw
          case rel => exact ⟨j + 1, ad', cap', M + 1, by omega, by go_num, rfl, by have := HM.out; omega, hv2, hb2⟩
          case measure => simp [intOf]; omega
        · have e1 : j = 8 := by omega
          have e2 : M = 8 * (i + 1) := by have := HM.out; have := HN.out; omega
          have hv2 : Vec wr w.heap.size 4 1 ad M cap ((allBits (s.take (i + 1))).map Value.bool) := by
            have h := hv
            rw [e1, show (bitsOf s[i]).take 8 = bitsOf s[i] from rfl] at h
            rw [List.take_succ_eq_append_getElem hlt2, allBits_append, allBits_one]; exact h
          have E2 : Hid (M = 8 * (i + 1)) := e2
          clear e1 e2 hv
          go_wp2_with fail
          go_roundw
          case rel => exact ⟨i + 1, ad, cap, M, by omega, by go_num, rfl, E2.out, hv2, hb⟩
          case measure => simp [intOf]; omega
    · have e1 : i = s.length := by rw [← HZ.out]; omega
      have e2 : N = 8 * s.length := by have := HN.out; omega
      have hv2 : Vec wr w.heap.size 4 1 ad (8 * s.length) cap ((allBits s).map Value.bool) := by
        have h := hv
        rw [e1, List.take_of_length_le (Nat.le_refl _), e2] at h; exact h
      have E2 : Hid (N = 8 * s.length) := e2
      clear e1 e2 hv HN
      go_wp2_with fail
      rw [E2.out]
      go_ret
      exact ⟨ad, cap, rfl, hv2, hb⟩
end Go.Proofs.Ytdjpkgaicmklmaa

/- Long division of bits comes to the register: the plain mathematics. -/
namespace Go.Proofs.Ytdjpkgaicmklmaa

/-- Bit j of the register, the highest first; behind the 32nd nothing. -/
def reg (c j : Nat) : Bool := decide (j < 32) && c.testBit (31 - j)
/-- Bit t of the bytes; noughts behind. -/
def msg (m : List Bool) (t : Nat) : Bool := m.getD t false
/-- What long division holds at t behind i steps. -/
def lfun (p : Nat) (m : List Bool) (i t : Nat) : Bool := reg (crcB p 4294967295 (m.take i)) (t - i) != msg m t
/-- .. and k places into the i-th step, where the divisor is laid upon it. -/
def gfun (p : Nat) (m : List Bool) (i k t : Nat) : Bool := lfun p m i t != (decide (i + 32 < t + k ∧ t ≤ i + 32) && p.testBit (i + 32 - t))

theorem reg_ones (j : Nat) : reg 4294967295 j = decide (j < 32) := by
  unfold reg
  by_cases h : j < 32
  · have : (4294967295 : Nat).testBit (31 - j) = true := by
      rw [show (4294967295 : Nat) = 2 ^ 32 - 1 by decide, Nat.testBit_two_pow_sub_one]; simp; omega
    simp [h, this]
  · simp [h]

theorem lfun_start (p : Nat) (m : List Bool) (t : Nat) : lfun p m 0 t = (decide (t < 32) != msg m t) := by
  unfold lfun; simp [crcB, reg_ones]

theorem crcB_take (p : Nat) (m : List Bool) (i : Nat) (h : i < m.length) : crcB p 4294967295 (m.take (i + 1)) = cst p (crcB p 4294967295 (m.take i)) m[i] := by
  rw [List.take_succ_eq_append_getElem h, crcB_append]; rfl

theorem lfun_top (p : Nat) (m : List Bool) (i : Nat) (h : i < m.length) : lfun p m i i = ((crcB p 4294967295 (m.take i)).testBit 31 != m[i]) := by
  unfold lfun reg msg
  simp [List.getD, List.getElem?_eq_getElem h]

theorem shl_bit (c j : Nat) (hj : j < 32) : (2 * c % 4294967296).testBit (31 - j) = reg c (j + 1) := by
  rw [show (4294967296 : Nat) = 2 ^ 32 by decide, Nat.testBit_mod_two_pow]
  unfold reg
  by_cases h : j + 1 < 32
  · have e : 31 - j = (31 - (j + 1)) + 1 := by omega
    rw [e, Nat.testBit_succ, Nat.mul_div_cancel_left _ (by omega)]
    simp [h]
    intro _
    omega
  · have e : 31 - j = 0 := by omega
    rw [e]
    simp [h]

/-- A step at which the first bit is not set. -/
theorem lfun_no (p : Nat) (m : List Bool) (i t : Nat) (h : i < m.length) (ht : i < t) (h0 : lfun p m i i = false) : lfun p m (i + 1) t = lfun p m i t := by
  rw [lfun_top p m i h] at h0
  unfold lfun
  rw [crcB_take p m i h]
  unfold cst
  rw [h0, if_neg (by simp)]
  have e : t - i = (t - (i + 1)) + 1 := by omega
  rw [e]
  congr 1
  by_cases hj : t - (i + 1) < 32
  · rw [← shl_bit _ _ hj]; unfold reg; simp [hj]
  · unfold reg; simp [hj]; omega

/-- A step at which it is. -/
theorem lfun_yes (p : Nat) (m : List Bool) (i t : Nat) (h : i < m.length) (ht : i < t) (h0 : lfun p m i i = true) : lfun p m (i + 1) t = gfun p m i 32 t := by
  rw [lfun_top p m i h] at h0
  unfold gfun lfun
  rw [crcB_take p m i h]
  unfold cst
  rw [h0, if_pos rfl]
  have e : t - i = (t - (i + 1)) + 1 := by omega
  rw [e]
  by_cases hj : t - (i + 1) < 32
  · have e2 : i + 32 - t = 31 - (t - (i + 1)) := by omega
    have e3 : (decide (i + 32 < t + 32 ∧ t ≤ i + 32)) = true := by simp; omega
    rw [e2, e3, ← shl_bit _ _ hj]
    unfold reg
    rw [Nat.testBit_xor]
    simp only [hj, decide_true, Bool.true_and]
    generalize (2 * _ % 4294967296).testBit _ = a
    generalize p.testBit _ = b
    generalize msg m t = c
    cases a <;> cases b <;> cases c <;> rfl
  · have e3 : (decide (i + 32 < t + 32 ∧ t ≤ i + 32)) = false := by simp; omega
    rw [e3]
    unfold reg
    have h1 : ¬ t - (i + 1) + 1 < 32 := by omega
    simp [hj, h1]

theorem gfun_start (p : Nat) (m : List Bool) (i t : Nat) : gfun p m i 0 t = lfun p m i t := by
  unfold gfun
  have : (decide (i + 32 < t + 0 ∧ t ≤ i + 32)) = false := by simp
  rw [this]; simp

theorem gfun_step (p : Nat) (m : List Bool) (i k t : Nat) (hk : k < 32) : gfun p m i (k + 1) t = if t = i + 32 - k ∧ p.testBit k = true then !gfun p m i k t else gfun p m i k t := by
  unfold gfun
  by_cases ht : t = i + 32 - k
  · have e1 : (decide (i + 32 < t + (k + 1) ∧ t ≤ i + 32)) = true := by simp; omega
    have e2 : (decide (i + 32 < t + k ∧ t ≤ i + 32)) = false := by simp; omega
    have e3 : i + 32 - t = k := by omega
    rw [e1, e2, e3]
    cases hb : p.testBit k
    · simp
    · simp [ht]
  · have e1 : (decide (i + 32 < t + (k + 1) ∧ t ≤ i + 32)) = (decide (i + 32 < t + k ∧ t ≤ i + 32)) := by
      rw [Bool.eq_iff_iff]; simp; omega
    rw [e1, if_neg (fun h => ht h.1)]

/-- What is read at the end. -/
theorem lfun_end (p : Nat) (m : List Bool) (k : Nat) (hk : k < 32) : lfun p m m.length (m.length + k) = (crcB p 4294967295 m).testBit (31 - k) := by
  unfold lfun reg msg
  have e1 : m.length + k - m.length = k := by omega
  rw [e1, List.take_of_length_le (Nat.le_refl _)]
  simp [hk, List.getD]

theorem gather (x k : Nat) (hk : k < 32) : x / 2 ^ (32 - (k + 1)) = 2 * (x / 2 ^ (32 - k)) + (x.testBit (31 - k)).toNat := by
  have e : 32 - k = (31 - k) + 1 := by omega
  have e2 : 32 - (k + 1) = 31 - k := by omega
  rw [e, e2, Nat.pow_succ, ← Nat.div_div_eq_div_mul, Nat.testBit_eq_decide_div_mod_eq]
  generalize x / 2 ^ (31 - k) = y
  by_cases h : y % 2 = 1
  · simp [h]; omega
  · simp [h]; omega

theorem not_bit (c k : Nat) (hk : k < 32) : (c ^^^ 4294967295).testBit (31 - k) = !c.testBit (31 - k) := by
  rw [Nat.testBit_xor]
  have : (4294967295 : Nat).testBit (31 - k) = true := by
    rw [show (4294967295 : Nat) = 2 ^ 32 - 1 by decide, Nat.testBit_two_pow_sub_one]; simp; omega
  rw [this]; simp
end Go.Proofs.Ytdjpkgaicmklmaa

/- The reference's long division, walked. -/
namespace Go.Proofs.Ytdjpkgaicmklmaa
open Go.RowKit

/-- Element i of a list of bools. -/
theorem Vec.boolAt {w : World} {B : Nat} {ad : Option Addr} {n cap : Nat} {L : List Bool} (h : Vec w B 4 1 ad n cap (L.map Value.bool)) (i : Nat) (x : Bool) (hx : L[i]? = some x) (N : Int) (hN : N = (i : Int)) :
    ∃ b o, B ≤ b ∧ b < w.heap.size ∧ (∀ w', (Instr.indexAt 155 (.slice ad n cap) (.int .i64 N)).run Try.prog w' = .ok (.pointer (some ⟨b, o, none⟩)) w') ∧
      w.cell? ⟨b, o, none⟩ = some (.bool x) ∧ w.frozen? ⟨b, o, none⟩ = false ∧ (∀ y, Vec (w.setCell ⟨b, o, none⟩ (.bool y)) B 4 1 ad n cap ((L.set i y).map Value.bool)) := by
  have hi : i < n := by
    have h1 := h.length
    have h2 : i < L.length := by
      rcases Nat.lt_or_ge i L.length with h | h
      · exact h
      · rw [List.getElem?_eq_none h] at hx; cases hx
    simp at h1; omega
  obtain ⟨b, o, hB, hl, hix, hc, hf, hs⟩ := h.at (P := Try.prog) (t := 155) (by kernel_rfl) (by kernel_rfl) hi N hN
  refine ⟨b, o, hB, hl, hix, ?_, ?_, fun y => ?_⟩
  · have := hc 0 (by omega)
    rw [Nat.add_zero, Nat.mul_one, Nat.add_zero, List.getElem?_map, hx] at this
    exact this
  · have := hf 0
    rwa [Nat.add_zero] at this
  · have := hs 0 (.bool y)
    rw [Nat.add_zero, Nat.mul_one, Nat.add_zero] at this
    rw [List.map_set]; exact this

/-- A list by its places. -/
def Fun (L : List Bool) (N a : Nat) (F : Nat → Bool) : Prop := L.length = N ∧ ∀ t, a ≤ t → t < N → L[t]? = some (F t)
theorem Fun.set {L : List Bool} {N a : Nat} {F G : Nat → Bool} (h : Fun L N a F) (i : Nat) (y : Bool) (hi : i < N) (hG : ∀ t, a ≤ t → t < N → G t = if t = i then y else F t) : Fun (L.set i y) N a G := by
  refine ⟨by simpa using h.1, fun t ha ht => ?_⟩
  rw [hG t ha ht]
  have := h.1
  by_cases e : t = i
  · subst e; rw [List.getElem?_set_self (by omega), if_pos rfl]
  · rw [List.getElem?_set_ne (fun h => e h.symm), if_neg e]; exact h.2 t ha ht

theorem fun_start (m : List Bool) : Fun (m ++ List.replicate 32 false) (m.length + 32) 0 (fun t => decide (t < 0) != msg m t) := by
  refine ⟨by simp, fun t _ ht => ?_⟩
  unfold msg
  by_cases h : t < m.length
  · rw [List.getElem?_append_left h]; simp [List.getD, List.getElem?_eq_getElem h]
  · rw [List.getElem?_append_right (by omega), List.getElem?_replicate, if_pos (by omega)]
    simp [List.getD, List.getElem?_eq_none (show m.length ≤ t by omega)]

set_option maxRecDepth 100000 in
set_option maxHeartbeats 8000000 in
theorem left_any (s : List UInt8) (p : Nat) (w : World) (hs : s.length ≤ 8796093022208) (hp : p < 4294967296) :
    Calls Try.prog 102 #[.string (str s), .int .i64 (p : Int)] w fun e w' => e = .returned (.int .i64 ((crc p s : Nat) : Int)) ∧ Below w.heap.size w w' := by
  go_enter Try.func102, Try.ntmps102
  go_wp2_with fail
  refine (bits_any s _ hs).mono ?_
  rintro e w1 ⟨ad, cap, rfl, hv, hb⟩
  have hlen := allBits_length s
  have hcrc : crc p s = crcB p 4294967295 (allBits s) ^^^ 4294967295 := rfl
  have HC : Hid (crc p s = crcB p 4294967295 (allBits s) ^^^ 4294967295) := hcrc
  clear hcrc
  generalize allBits s = m at *
  have hn8 : 8 * s.length ≤ 70368744177664 := by omega
  generalize 8 * s.length = n at *
  have HL : Hid (m.length = n) := hlen
  clear hlen
  go_wp2_with fail
  go_loopw [5, 7] (fun u v wr => ∃ (k : Nat) (ad : Option Addr) (cap N : Nat), k ≤ 32 ∧ v = .int .i64 k ∧ u = .slice ad N cap ∧ N = n + k ∧ Vec wr w.heap.size 4 1 ad N cap ((m ++ List.replicate k false).map Value.bool) ∧ Below w.heap.size w wr) (fun _ v _ => 32 - (intOf v).toNat)
  case atStart => exact ⟨0, ad, cap, n, by omega, rfl, rfl, rfl, by simpa using hv, hb⟩
  case round =>
    clear hv hb
    obtain ⟨k, ad, cap, N, hk, rfl, rfl, hN, hv, hb⟩ := hrel
    have HN : Hid (N = n + k) := hN
    have hNb : N ≤ 70368744177664 + 32 := by omega
    clear hN
    have hz := hb.size
    by_cases hlt : k < 32
    · go_wp2_with (at_builtin; refine wpList_push (by rfl) _ _ 155 (by rfl) w.heap.size 4 1 1 (.bool false) Try.underlying155 (by kernel_rfl) rfl (by decide) ad N cap _ (by rfl) (hv.keep ((Below.refl _ _).alloc (Nat.le_refl _) _)) _ _ [.bool false] (by rfl) rfl ?_ ?_ ?_ ?_ ?_ ?_; exact new_cells _ _ _; (simp [Value.oneCell']); (omega); (omega); (simp; omega); intro ad' cap' w' hv' hb' hs')
      have hb2 : Below w.heap.size w w' := hb.trans (((Below.refl _ wr).alloc (Nat.le_refl _) _).mono hz |>.trans hb')
      have hv2 : Vec w' w.heap.size 4 1 ad' (N + 1) cap' ((m ++ List.replicate (k + 1) false).map Value.bool) := by
        rw [List.replicate_succ', ← List.append_assoc, List.map_append]; exact hv'
      go_roundw
      case rel => exact ⟨k + 1, ad', cap', N + 1, by omega, by go_num, rfl, by have := HN.out; omega, hv2, hb2⟩
      case measure => simp [intOf]; omega
    · have e1 : k = 32 := by omega
      subst e1
      have hF : ∃ L, Vec wr w.heap.size 4 1 ad N cap (L.map Value.bool) ∧ Fun L N 0 (fun t => decide (t < 0) != msg m t) :=
        ⟨_, hv, by have := fun_start m; rw [HL.out, ← HN.out] at this; exact this⟩
      clear hv hlt
      go_wp2_with fail
      go_loopw [8] (fun v wr => ∃ (k : Nat) (L : List Bool), k ≤ 32 ∧ v = .int .i64 k ∧ Vec wr w.heap.size 4 1 ad N cap (L.map Value.bool) ∧ Fun L N 0 (fun t => decide (t < k) != msg m t) ∧ Below w.heap.size w wr) (fun v _ => 32 - (intOf v).toNat)
      case atStart =>
        obtain ⟨L, hL, hF⟩ := hF
        exact ⟨0, L, by omega, rfl, hL, hF, hb⟩
      case round =>
        clear hF hb hz hk
        obtain ⟨k, L, hk, rfl, hv, hF, hb⟩ := hrel
        have HF : Hid (Fun L N 0 (fun t => decide (t < k) != msg m t)) := hF
        clear hF
        by_cases hlt : k < 32
        · have hkN : k < N := by have := HN.out; omega
          have hxk : L[k]? = some (msg m k) := by have := HF.out.2 k (by omega) hkN; simpa using this
          generalize hx : msg m k = x at hxk
          have HX : Hid (msg m k = x) := hx
          clear hx
          obtain ⟨b, o, hB, hl, hix, hc, hf, hst⟩ := hv.boolAt k x hxk (k : Int) rfl
          have HS : Hid (∀ y, Vec (wr.setCell ⟨b, o, none⟩ (.bool y)) w.heap.size 4 1 ad N cap ((L.set k y).map Value.bool)) := hst
          clear hst hxk
          go_wp2_with fail
          go_roundw
          case rel =>
            refine ⟨k + 1, L.set k (!x), by omega, by go_num, HS.out _, HF.out.set k (!x) hkN fun t _ _ => ?_, hb.setCell hB _⟩
            by_cases e : t = k
            · subst e; rw [if_pos rfl, HX.out]; simp
            · rw [if_neg e]; congr 1; rw [Bool.eq_iff_iff]; simp; omega
          case measure => simp [intOf]; omega
        · have e1 : k = 32 := by omega
          subst e1
          have hF2 : Fun L N 0 (lfun p m 0) := ⟨HF.out.1, fun t h1 h2 => by rw [lfun_start]; exact HF.out.2 t h1 h2⟩
          have HF2 : Hid (Fun L N 0 (lfun p m 0)) := hF2
          clear hF2 HF hlt
          go_wp2_with fail
          go_loopw [9, 10] (fun v _ wr => ∃ (i : Nat) (L : List Bool), i ≤ n ∧ v = .int .i64 i ∧ Vec wr w.heap.size 4 1 ad N cap (L.map Value.bool) ∧ Fun L N i (lfun p m i) ∧ Below w.heap.size w wr) (fun v _ _ => n - (intOf v).toNat)
          case atStart => exact ⟨0, L, by omega, rfl, hv, HF2.out, hb⟩
          case round =>
            clear HF2 hv hb hk
            obtain ⟨i, L, hi, rfl, hv, hF, hb⟩ := hrel
            have HF : Hid (Fun L N i (lfun p m i)) := hF
            clear hF
            by_cases hlt : i < n
            · have hiN : i < N := by have := HN.out; omega
              have hxk : L[i]? = some (lfun p m i i) := HF.out.2 i (by omega) hiN
              obtain ⟨b, o, hB, hl, hix, hc, hf, hst⟩ := hv.boolAt i _ hxk (i : Int) rfl
              have HS : Hid (∀ y, Vec (wr.setCell ⟨b, o, none⟩ (.bool y)) w.heap.size 4 1 ad N cap ((L.set i y).map Value.bool)) := hst
              have him : i < m.length := by rw [HL.out]; exact hlt
              have hd1 : decide ((i : Int) < (n : Int)) = true := by simp; omega
              clear hst hxk
              cases htop : lfun p m i i
              · have hF2 : Fun L N (i + 1) (lfun p m (i + 1)) := ⟨HF.out.1, fun t h1 h2 => by rw [lfun_no p m i t him (by omega) htop]; exact HF.out.2 t (by omega) h2⟩
                have HF2 : Hid (Fun L N (i + 1) (lfun p m (i + 1))) := hF2
                clear hF2 HF HS
                rw [htop] at hc
                clear htop
                go_wp2_with fail
                go_roundw
                case rel => exact ⟨i + 1, L, by omega, by go_num, hv, HF2.out, hb⟩
                case measure => simp [intOf]; omega
              · rw [htop] at hc
                have hF2 : Fun (L.set i false) N (i + 1) (gfun p m i 0) := ⟨by simpa using HF.out.1, fun t h1 h2 => by rw [List.getElem?_set_ne (by omega), gfun_start]; exact HF.out.2 t (by omega) h2⟩
                have HF2 : Hid (Fun (L.set i false) N (i + 1) (gfun p m i 0)) := hF2
                have HT : Hid (lfun p m i i = true) := htop
                clear hF2 HF htop
                go_wp2_with fail
                go_loopw [10] (fun v wr => ∃ (k : Nat) (L : List Bool), k ≤ 32 ∧ v = .int .i64 k ∧ Vec wr w.heap.size 4 1 ad N cap (L.map Value.bool) ∧ Fun L N (i + 1) (gfun p m i k) ∧ Below w.heap.size w wr) (fun v _ => 32 - (intOf v).toNat)
                case atStart => exact ⟨0, L.set i false, by omega, rfl, HS.out false, HF2.out, hb.setCell hB _⟩
                case round =>
                  clear HF2 HS hv hb hix hc hf hl hB
                  obtain ⟨k, L, hk, rfl, hv, hF, hb⟩ := hrel
                  have HF : Hid (Fun L N (i + 1) (gfun p m i k)) := hF
                  clear hF
                  by_cases hlk : k < 32
                  · have hiN2 : i + 32 - k < N := by have := HN.out; omega
                    have hbt := bit_test p k (by omega)
                    have hxk : L[i + 32 - k]? = some (gfun p m i k (i + 32 - k)) := HF.out.2 _ (by omega) hiN2
                    obtain ⟨b, o, hB, hl, hix, hc, hf, hst⟩ := hv.boolAt (i + 32 - k) _ hxk ((i : Int) + 32 - (k : Int)) (by omega)
                    have HS : Hid (∀ y, Vec (wr.setCell ⟨b, o, none⟩ (.bool y)) w.heap.size 4 1 ad N cap ((L.set (i + 32 - k) y).map Value.bool)) := hst
                    clear hst hxk
                    cases hpk : p.testBit k
                    · rw [hpk] at hbt
                      have hF2 : Fun L N (i + 1) (gfun p m i (k + 1)) := ⟨HF.out.1, fun t h1 h2 => by rw [gfun_step p m i k t hlk, if_neg (by simp [hpk])]; exact HF.out.2 t h1 h2⟩
                      have HF2 : Hid (Fun L N (i + 1) (gfun p m i (k + 1))) := hF2
                      clear hF2 HF HS hpk
                      go_wp2_with fail
                      go_roundw
                      case rel => exact ⟨k + 1, L, by omega, by go_num, hv, HF2.out, hb⟩
                      case measure => simp [intOf]; omega
                    · rw [hpk] at hbt
                      have hF2 : Fun (L.set (i + 32 - k) (!gfun p m i k (i + 32 - k))) N (i + 1) (gfun p m i (k + 1)) := HF.out.set _ _ hiN2 fun t h1 h2 => by
                        rw [gfun_step p m i k t hlk]
                        by_cases e : t = i + 32 - k
                        · subst e; rw [if_pos ⟨rfl, hpk⟩, if_pos rfl]
                        · rw [if_neg (fun h => e h.1), if_neg e]
                      generalize gfun p m i k (i + 32 - k) = x at *
                      have HF2 : Hid (Fun (L.set (i + 32 - k) (!x)) N (i + 1) (gfun p m i (k + 1))) := hF2
                      clear hF2 HF hpk
                      go_wp2_with fail
                      go_roundw
                      case rel => exact ⟨k + 1, L.set (i + 32 - k) (!x), by omega, by go_num, HS.out _, HF2.out, hb.setCell hB _⟩
                      case measure => simp [intOf]; omega
                  · have e1 : k = 32 := by omega
                    subst e1
                    have hF2 : Fun L N (i + 1) (lfun p m (i + 1)) := ⟨HF.out.1, fun t h1 h2 => by rw [lfun_yes p m i t him (by omega) HT.out]; exact HF.out.2 t h1 h2⟩
                    have HF2 : Hid (Fun L N (i + 1) (lfun p m (i + 1))) := hF2
                    clear hF2 HF HT
                    go_wp2_with fail
                    go_roundw
                    case rel => exact ⟨i + 1, L, by omega, by go_num, hv, HF2.out, hb⟩
                    case measure => simp [intOf]; omega
            · have e1 : i = n := by omega
              subst e1
              generalize hX : crcB p 4294967295 m ^^^ 4294967295 = X at HC
              have hXlt : X < 4294967296 := by rw [← hX]; exact Nat.xor_lt_two_pow (n := 32) (crcB_lt hp _ (by omega)) (by omega)
              have hF2 : ∀ k, k < 32 → L[i + k]? = some (!X.testBit (31 - k)) := fun k hk => by
                have h1 := HF.out.2 (i + k) (by omega) (by have := HN.out; omega)
                have h2 := lfun_end p m k hk
                rw [HL.out] at h2
                rw [h1, h2, ← hX, not_bit _ _ hk]; simp
              have HF2 : Hid (∀ k, k < 32 → L[i + k]? = some (!X.testBit (31 - k))) := hF2
              clear hF2 HF hX HL hlt
              go_wp2_with fail
              go_loopw [11, 12] (fun v u wr => ∃ (k V : Nat), k ≤ 32 ∧ u = .int .i64 k ∧ v = .int .i64 (V : Int) ∧ V = X / 2 ^ (32 - k) ∧ Vec wr w.heap.size 4 1 ad N cap (L.map Value.bool) ∧ Below w.heap.size w wr) (fun _ u _ => 32 - (intOf u).toNat)
              case atStart => exact ⟨0, 0, by omega, rfl, rfl, by omega, hv, hb⟩
              case round =>
                clear hv hb
                obtain ⟨k, V, hk, rfl, rfl, hV, hv, hb⟩ := hrel
                have hVle : V ≤ 4294967296 := by rw [hV]; exact Nat.le_trans (Nat.div_le_self _ _) (by omega)
                have HV : Hid (V = X / 2 ^ (32 - k)) := hV
                clear hV
                by_cases hlk : k < 32
                · obtain ⟨b, o, hB, hl, hix, hc, hf, hst⟩ := hv.boolAt (i + k) _ (HF2.out k hlk) ((i : Int) + (k : Int)) (by omega)
                  clear hst
                  have hg := gather X k hlk
                  have HG : Hid (X / 2 ^ (32 - (k + 1)) = 2 * (X / 2 ^ (32 - k)) + (X.testBit (31 - k)).toNat) := hg
                  clear hg
                  cases hbit : X.testBit (31 - k)
                  · rw [hbit] at hc HG
                    simp only [Bool.not_false] at hc
                    clear hbit
                    go_wp2_with fail
                    go_roundw
                    case rel => exact ⟨k + 1, 2 * V, by omega, by go_num, by go_num, by rw [HG.out, HV.out]; rfl, hv, hb⟩
                    case measure => simp [intOf]; omega
                  · rw [hbit] at hc HG
                    simp only [Bool.not_true] at hc
                    clear hbit
                    go_wp2_with fail
                    go_roundw
                    case rel => exact ⟨k + 1, 2 * V + 1, by omega, by go_num, by go_num, by rw [HG.out, HV.out]; rfl, hv, hb⟩
                    case measure => simp [intOf]; omega
                · have e1 : k = 32 := by omega
                  subst e1
                  have e2 : V = crc p s := by rw [HC.out, HV.out]; simp
                  have E2 : Hid (V = crc p s) := e2
                  clear e2
                  go_wp2_with fail
                  go_ret
                  exact ⟨ret_int (by rw [E2.out]), hb⟩

set_option maxHeartbeats 1000000 in
theorem rsum_any (s : List UInt8) (w : World) (hs : s.length ≤ 8796093022208) :
    Calls Try.prog 59 #[.string (str s)] w fun e w' => e = .returned (.int .i64 ((crc pSum s : Nat) : Int)) ∧ Below w.heap.size w w' := by
  go_enter Try.func59, Try.ntmps59
  go_wp2_with fail
  refine (left_any s pSum _ hs (by decide)).mono ?_
  rintro e w' ⟨rfl, hb⟩
  go_wp2_with fail
  go_ret
  exact ⟨rfl, hb⟩
set_option maxHeartbeats 1000000 in
theorem rseal_any (s : List UInt8) (w : World) (hs : s.length ≤ 8796093022208) :
    Calls Try.prog 87 #[.string (str s)] w fun e w' => e = .returned (.int .i64 ((crc pSeal s : Nat) : Int)) ∧ Below w.heap.size w w' := by
  go_enter Try.func87, Try.ntmps87
  go_wp2_with fail
  refine (left_any s pSeal _ hs (by decide)).mono ?_
  rintro e w' ⟨rfl, hb⟩
  go_wp2_with fail
  go_ret
  exact ⟨rfl, hb⟩
end Go.Proofs.Ytdjpkgaicmklmaa

/- A record's bytes and a frame: the reference's written and Frame, walked. -/
namespace Go.Proofs.Ytdjpkgaicmklmaa
open Go.RowKit
attribute [local go_sem] str_size str_append mk_append_str str_append_mk

abbrev BoxF (w : World) (f : Fd) (wr : World) : Prop := Below (w.heap.size + 1) (w.alloc (.cells f.cells.toArray 64)) wr
theorem SF {w : World} {f : Fd} {wr : World} (hb : BoxF w f wr) :
    wr.cell? ⟨w.heap.size, 1, none⟩ = some (.int .i64 f.kind) ∧ wr.cell? ⟨w.heap.size, 2, none⟩ = some (.int .i64 f.seq) ∧ wr.cell? ⟨w.heap.size, 3, none⟩ = some (.int .i64 f.base) ∧ wr.cell? ⟨w.heap.size, 4, none⟩ = some (.int .i64 f.id) ∧
    wr.cell? ⟨w.heap.size, 5, none⟩ = some (.int .i64 f.site) ∧ wr.cell? ⟨w.heap.size, 6, none⟩ = some (.int .i64 f.count) ∧ wr.cell? ⟨w.heap.size, 7, none⟩ = some (.bool f.gone) ∧ wr.cell? ⟨w.heap.size, 8, none⟩ = some (.string f.text) :=
  ⟨boxN hb 1, boxN hb 2, boxN hb 3, boxN hb 4, boxN hb 5, boxN hb 6, boxN hb 7, boxN hb 8⟩

theorem add_str {P : Program} (a b c : List UInt8) (hc : a ++ b = c) (h : c.length ≤ 9223372036854775807) (w : World) : (Op.stringOp .add (str a) (str b)).run P w = .ok (.string (str c)) w := by
  subst hc
  rw [← str_append]
  exact run_string_add_sum _ _ _ (by rw [str_size, str_size]; simpa using h)

set_option maxRecDepth 100000 in
set_option maxHeartbeats 4000000 in
theorem written_clock (c : Ck) (w : World) (h1 : Num c.site) (h2 : Num c.count) :
    Calls Try.prog 126 #[.agg (fdClock c).cells.toArray] w fun e w' => e = .returned (.string (str (recClock c))) ∧ Below w.heap.size w w' := by
  obtain ⟨p1, p2⟩ := h1
  obtain ⟨q1, q2⟩ := h2
  have l1 := numB_length c.site
  have l2 := numB_length c.count
  have E : Hid ((byt 1 :: (numB c.site ++ numB c.count)) = recClock c) := rfl
  have hb0 : BoxF w (fdClock c) (w.alloc (.cells (fdClock c).cells.toArray 64)) := Below.refl _ _
  have hbX : BoxF w (fdClock c) ((w.alloc (.cells (fdClock c).cells.toArray 64)).alloc (.cells #[.int .u8 1] 5)).drew := (hb0.alloc (by simp) _).drew
  have a1 := fun w' => add_str (P := Try.prog) [byt 1] (numB c.site) (byt 1 :: numB c.site) rfl (by simp; omega) w'
  have a2 := fun w' => add_str (P := Try.prog) (byt 1 :: numB c.site) (numB c.count) (byt 1 :: (numB c.site ++ numB c.count)) rfl (by simp; omega) w'
  unfold fdClock at *
  go_enter Try.func126, Try.ntmps126
  go_wp2_with (refine wpList_toString (by rfl) 126 9 5 _ (by rfl) Try.underlying126 Try.underlying5 Try.underlying9 _ _ _ (by rfl) [1] rfl ?_ ?_; exact new_cells2 _ _ _ _)
  go_region_held3 (fun w' => w'.cell? ⟨w.heap.size, 5, none⟩ = some (.int .i64 c.site) ∧ w'.cell? ⟨w.heap.size, 6, none⟩ = some (.int .i64 c.count))
    (first | (go_keep; done) | (exact ⟨boxN hbX 5, boxN hbX 6⟩))
    (first | (go_at_call 149; refine (rnumber_any _ _ (by first | exact p1 | exact q1) (by first | exact p2 | exact q2)).mono ?_; rintro e w' ⟨rfl, hb2⟩; have hbX := box_step hbX hb2))
  clear a1 a2
  go_wp2_with fail
  go_ret
  exact ⟨ret_str E.out, box_old hbX⟩

set_option maxRecDepth 100000 in
set_option maxHeartbeats 4000000 in
theorem written_edit (c : Ed) (w : World) (h1 : Num c.id) (ht : c.text.size ≤ 1000000) :
    Calls Try.prog 126 #[.agg (fdEdit c).cells.toArray] w fun e w' => e = .returned (.string (str (recEdit c))) ∧ Below w.heap.size w w' := by
  obtain ⟨p1, p2⟩ := h1
  obtain ⟨t, htt⟩ : ∃ t, c.text = str t := ⟨c.text.data.toList, (str_data _).symm⟩
  have E : Hid ((byt 3 :: (numB c.id ++ t)) = recEdit c) := by show _ = _; unfold recEdit; rw [htt]; rfl
  unfold fdEdit
  rw [htt] at ht ⊢
  rw [str_size] at ht
  have l1 := numB_length c.id
  have hb0 : BoxF w ⟨0, 3, 0, 0, c.id, 0, 0, false, str t⟩ (w.alloc (.cells (Fd.cells ⟨0, 3, 0, 0, c.id, 0, 0, false, str t⟩).toArray 64)) := Below.refl _ _
  have hbX : BoxF w ⟨0, 3, 0, 0, c.id, 0, 0, false, str t⟩ ((w.alloc (.cells (Fd.cells ⟨0, 3, 0, 0, c.id, 0, 0, false, str t⟩).toArray 64)).alloc (.cells #[.int .u8 3] 5)).drew := (hb0.alloc (by simp) _).drew
  have a1 := fun w' => add_str (P := Try.prog) [byt 3] (numB c.id) (byt 3 :: numB c.id) rfl (by simp; omega) w'
  have a2 := fun w' => add_str (P := Try.prog) (byt 3 :: numB c.id) t (byt 3 :: (numB c.id ++ t)) rfl (by simp; omega) w'
  clear htt
  go_enter Try.func126, Try.ntmps126
  go_wp2_with (refine wpList_toString (by rfl) 126 9 5 _ (by rfl) Try.underlying126 Try.underlying5 Try.underlying9 _ _ _ (by rfl) [3] rfl ?_ ?_; exact new_cells2 _ _ _ _)
  go_region_held3 (fun w' => w'.cell? ⟨w.heap.size, 4, none⟩ = some (.int .i64 c.id) ∧ w'.cell? ⟨w.heap.size, 8, none⟩ = some (.string (str t)))
    (first | (go_keep; done) | (exact ⟨boxN hbX 4, boxN hbX 8⟩))
    (first | (go_at_call 149; refine (rnumber_any _ _ p1 p2).mono ?_; rintro e w' ⟨rfl, hb2⟩; have hbX := box_step hbX hb2))
  clear a1 a2
  go_wp2_with fail
  go_ret
  exact ⟨ret_str E.out, box_old hbX⟩

set_option maxRecDepth 100000 in
set_option maxHeartbeats 4000000 in
theorem written_card (c : Cd) (w : World) (h1 : Num c.id) (h2 : Num c.site) (h3 : Num c.count) (ht : c.text.size ≤ 1000000) :
    Calls Try.prog 126 #[.agg (fdCard c).cells.toArray] w fun e w' => e = .returned (.string (str (recCard c))) ∧ Below w.heap.size w w' := by
  obtain ⟨p1, p2⟩ := h1
  obtain ⟨q1, q2⟩ := h2
  obtain ⟨r1, r2⟩ := h3
  obtain ⟨t, htt⟩ : ∃ t, c.text = str t := ⟨c.text.data.toList, (str_data _).symm⟩
  have E : Hid ((byt 2 :: (numB c.id ++ (numB c.site ++ (numB c.count ++ ((if c.gone then 1 else 0) :: t))))) = recCard c) := by show _ = _; unfold recCard; rw [htt]; rfl
  unfold fdCard
  rw [htt] at ht ⊢
  rw [str_size] at ht
  have l1 := numB_length c.id
  have l2 := numB_length c.site
  have l3 := numB_length c.count
  clear htt
  obtain ⟨id, site, count, gone, text⟩ := c
  simp only at *
  have hb0 : BoxF w ⟨0, 2, 0, 0, id, site, count, gone, str t⟩ (w.alloc (.cells (Fd.cells ⟨0, 2, 0, 0, id, site, count, gone, str t⟩).toArray 64)) := Below.refl _ _
  have hbX : BoxF w ⟨0, 2, 0, 0, id, site, count, gone, str t⟩ ((w.alloc (.cells (Fd.cells ⟨0, 2, 0, 0, id, site, count, gone, str t⟩).toArray 64)).alloc (.cells #[.int .u8 2] 5)).drew := (hb0.alloc (by simp) _).drew
  have a1 := fun w' => add_str (P := Try.prog) [byt 2] (numB id) (byt 2 :: numB id) rfl (by simp; omega) w'
  have a2 := fun w' => add_str (P := Try.prog) (byt 2 :: numB id) (numB site) (byt 2 :: (numB id ++ numB site)) rfl (by simp; omega) w'
  have a3 := fun w' => add_str (P := Try.prog) (byt 2 :: (numB id ++ numB site)) (numB count) (byt 2 :: (numB id ++ (numB site ++ numB count))) (by simp) (by simp; omega) w'
  have a4 : ∀ w', (Op.stringOp .add (str (byt 2 :: (numB id ++ (numB site ++ numB count)))) ⟨#[0]⟩).run Try.prog w' = .ok (.string (str (byt 2 :: (numB id ++ (numB site ++ (numB count ++ [0])))))) w' := fun w' => add_str (P := Try.prog) _ [0] _ (by simp) (by simp; omega) w'
  have a5 : ∀ w', (Op.stringOp .add (str (byt 2 :: (numB id ++ (numB site ++ numB count)))) ⟨#[1]⟩).run Try.prog w' = .ok (.string (str (byt 2 :: (numB id ++ (numB site ++ (numB count ++ [1])))))) w' := fun w' => add_str (P := Try.prog) _ [1] _ (by simp) (by simp; omega) w'
  have a6 := fun w' => add_str (P := Try.prog) (byt 2 :: (numB id ++ (numB site ++ (numB count ++ [0])))) t (byt 2 :: (numB id ++ (numB site ++ (numB count ++ (0 :: t))))) (by simp) (by simp; omega) w'
  have a7 := fun w' => add_str (P := Try.prog) (byt 2 :: (numB id ++ (numB site ++ (numB count ++ [1])))) t (byt 2 :: (numB id ++ (numB site ++ (numB count ++ (1 :: t))))) (by simp) (by simp; omega) w'
  cases gone
  all_goals
    go_enter Try.func126, Try.ntmps126
    go_wp2_with (refine wpList_toString (by rfl) 126 9 5 _ (by rfl) Try.underlying126 Try.underlying5 Try.underlying9 _ _ _ (by rfl) [2] rfl ?_ ?_; exact new_cells2 _ _ _ _)
    go_region_held3 (fun w' => w'.cell? ⟨w.heap.size, 4, none⟩ = some (.int .i64 id) ∧ w'.cell? ⟨w.heap.size, 5, none⟩ = some (.int .i64 site) ∧ w'.cell? ⟨w.heap.size, 6, none⟩ = some (.int .i64 count) ∧ w'.cell? ⟨w.heap.size, 8, none⟩ = some (.string (str t)))
      (first | (go_keep; done) | (exact ⟨boxN hbX 4, boxN hbX 5, boxN hbX 6, boxN hbX 8⟩))
      (first | (go_at_call 149; refine (rnumber_any _ _ (by first | exact p1 | exact q1 | exact r1) (by first | exact p2 | exact q2 | exact r2)).mono ?_; rintro e w' ⟨rfl, hb2⟩; have hbX := box_step hbX hb2))
    clear a1 a2 a3 a4 a5 a6 a7
    go_wp2_with fail
    go_ret
    exact ⟨ret_str E.out, box_old hbX⟩

set_option maxRecDepth 100000 in
set_option maxHeartbeats 4000000 in
theorem written_head (seq base : Int) (w : World) (h1 : Num seq) (h2 : 0 ≤ base) (h3 : base ≤ 4294967295) :
    Calls Try.prog 126 #[.agg (fdHead seq base).cells.toArray] w fun e w' => e = .returned (.string (str (recHead seq base))) ∧ Below w.heap.size w w' := by
  obtain ⟨p1, p2⟩ := h1
  have l1 := numB_length seq
  have l2 : (fourI base).length ≤ 4 := Nat.le_refl _
  have hb0 : BoxF w (fdHead seq base) (w.alloc (.cells (fdHead seq base).cells.toArray 64)) := Below.refl _ _
  have hb1 : BoxF w (fdHead seq base) ((w.alloc (.cells (fdHead seq base).cells.toArray 64)).alloc (.cells #[.int .u8 4] 5)) := hb0.alloc (by simp) _
  clear hb0
  unfold fdHead at *
  by_cases hs : seq = 0
  · have hs2 : seq ≤ 0 := by omega
    have E : Hid ((byt 4 :: numB seq) = recHead seq base) := by show _ = _; unfold recHead; rw [if_pos hs]; simp; rfl
    clear hs
    go_enter Try.func126, Try.ntmps126
    go_wp2_with (refine wpList_toString (by rfl) 126 9 5 _ (by rfl) Try.underlying126 Try.underlying5 Try.underlying9 _ _ _ (by rfl) [4] rfl ?_ ?_; exact new_cells2 _ _ _ _)
    refine (rnumber_any seq _ p1 p2).mono ?_
    rintro e w1 ⟨rfl, hh⟩
    have hb2 := box_step hb1 hh
    clear hh hb1
    have x2 : w1.cell? ⟨w.heap.size, 2, none⟩ = some (.int .i64 seq) := boxN hb2 2
    go_wp2_with fail
    go_ret
    exact ⟨ret_str E.out, box_old hb2⟩
  · have hs2 : 0 < seq := by omega
    have E : Hid ((byt 4 :: (numB seq ++ fourI base)) = recHead seq base) := by show _ = _; unfold recHead; rw [if_neg hs]; rfl
    clear hs
    go_enter Try.func126, Try.ntmps126
    go_wp2_with (refine wpList_toString (by rfl) 126 9 5 _ (by rfl) Try.underlying126 Try.underlying5 Try.underlying9 _ _ _ (by rfl) [4] rfl ?_ ?_; exact new_cells2 _ _ _ _)
    refine (rnumber_any seq _ p1 p2).mono ?_
    rintro e w1 ⟨rfl, hh⟩
    have hb2 := box_step hb1 hh
    clear hh hb1
    have x2 : w1.cell? ⟨w.heap.size, 2, none⟩ = some (.int .i64 seq) := boxN hb2 2
    have x3 : w1.cell? ⟨w.heap.size, 3, none⟩ = some (.int .i64 base) := boxN hb2 3
    go_wp2_with fail
    refine (rfour_any base _ h2 h3).mono ?_
    rintro e w2 ⟨rfl, hh⟩
    have hb3 := box_step hb2 hh
    clear hh hb2 x2 x3
    go_wp2_with fail
    go_ret
    exact ⟨ret_str (by rw [← E.out]), box_old hb3⟩

/-- A record that may be written. -/
def FdOk (f : Fd) : Prop :=
  (∃ s b, f = fdHead s b ∧ Num s ∧ 0 ≤ b ∧ b ≤ 4294967295) ∨ (∃ c : Ck, f = fdClock c ∧ Num c.site ∧ Num c.count) ∨
  (∃ c : Cd, f = fdCard c ∧ Num c.id ∧ Num c.site ∧ Num c.count ∧ c.text.size ≤ 60) ∨ (∃ c : Ed, f = fdEdit c ∧ Num c.id ∧ c.text.size ≤ 60)

theorem written_any (f : Fd) (w : World) (h : FdOk f) :
    Calls Try.prog 126 #[.agg f.cells.toArray] w fun e w' => e = .returned (.string (str (recF f))) ∧ Below w.heap.size w w' := by
  rcases h with ⟨s, b, rfl, h1, h2, h3⟩ | ⟨c, rfl, h1, h2⟩ | ⟨c, rfl, h1, h2, h3, h4⟩ | ⟨c, rfl, h1, h2⟩
  · exact written_head s b w h1 h2 h3
  · exact written_clock c w h1 h2
  · exact written_card c w h1 h2 h3 (by omega)
  · exact written_edit c w h1 (by omega)
end Go.Proofs.Ytdjpkgaicmklmaa

/- The program's sums: divideByte, remainder, Sum, Seal, walked. -/
namespace Go.Proofs.Ytdjpkgaicmklmaa
open Go.RowKit

theorem div1_i64 (p : Nat) (y : Nat) (hp : p < 4294967296) (hy : y < 4294967296) (h : (4294967295 : Int) < (y : Int) * 2) : bits .xor .i64 ((y : Int) * 2) ((p : Int) + 4294967296) = ((div1 p y : Nat) : Int) := by
  have e : ((y : Int) * 2) = ((2 * y : Nat) : Int) := by omega
  have e2 : ((p : Int) + 4294967296) = ((p + 4294967296 : Nat) : Int) := by omega
  rw [e, e2, bits_xor_i64 _ _ (by omega) (by omega)]
  unfold div1
  rw [if_pos (by omega)]
theorem div1_small (p : Nat) (y : Nat) (h : (y : Int) * 2 ≤ 4294967295) : (y : Int) * 2 = ((div1 p y : Nat) : Int) := by
  unfold div1
  rw [if_neg (by omega)]; omega
theorem div1_lt {p y : Nat} (hp : p < 4294967296) (hy : y < 4294967296) : div1 p y < 4294967296 := by
  have := div1_step p y false [] hp hy (by simp)
  simp [high] at this
  rw [this]
  exact cst_lt hp

set_option maxHeartbeats 1000000 in
theorem divideByte_any (x p : Nat) (w : World) (h1 : x < 4294967296) (h3 : p < 4294967296) (P' : Int) (hP : P' = (p : Int) + 4294967296) :
    Calls Try.prog 148 #[.int .i64 x, .int .i64 P'] w fun e w' => e = .returned (.int .i64 ((divN p 8 x : Nat) : Int)) ∧ w' = w := by
  subst hP
  go_enter Try.func148, Try.ntmps148
  go_wp2
  go_loop [0, 5] (fun v i => ∃ (k : Nat) (y : Nat), k ≤ 8 ∧ i = .int .i64 k ∧ v = .int .i64 (y : Int) ∧ y < 4294967296 ∧ divN p (8 - k) y = divN p 8 x) (fun _ i => 8 - (intOf i).toNat)
  case atStart => exact ⟨0, x, Nat.zero_le _, rfl, rfl, h1, rfl⟩
  case round =>
    obtain ⟨k, y, hk, rfl, rfl, hy1, hd⟩ := hrel
    have HD : Hid (divN p (8 - k) y = divN p 8 x) := hd
    clear hd
    by_cases hlt : k < 8
    · have e0 : divN p (8 - (k + 1)) (div1 p y) = divN p 8 x := by
        rw [← HD.out, show 8 - k = (8 - (k + 1)) + 1 by omega, divN]
      have E0 : Hid (divN p (8 - (k + 1)) (div1 p y) = divN p 8 x) := e0
      clear e0 HD
      go_wp2
      · have e1 := div1_i64 p y h3 hy1 (by assumption)
        go_round
        case rel => exact ⟨k + 1, div1 p y, by omega, by go_num, by rw [e1], div1_lt h3 hy1, E0.out⟩
        case measure => simp [intOf]; omega
      · have e1 := div1_small p y (by assumption)
        go_round
        case rel => exact ⟨k + 1, div1 p y, by omega, by go_num, by rw [e1], div1_lt h3 hy1, E0.out⟩
        case measure => simp [intOf]; omega
    · have e1 : k = 8 := by omega
      subst e1
      go_wp2
      go_ret
      exact ⟨ret_int (by rw [← HD.out]; rfl), rfl⟩

theorem take_bytes (s : List UInt8) (k : Nat) (h : k < s.length) : s.take (k + 1) = s.take k ++ [s[k]] := List.take_succ_eq_append_getElem h

set_option maxHeartbeats 2000000 in
theorem remainder_any (s : List UInt8) (p : Nat) (w : World) (hs : s.length ≤ 9223372036854775807) (h3 : p < 4294967296) (P' : Int) (hP : P' = (p : Int) + 4294967296) :
    Calls Try.prog 125 #[.string (str s), .int .i64 P'] w fun e w' => e = .returned (.int .i64 ((crc p s : Nat) : Int)) ∧ w' = w := by
  subst hP
  have hz := str_size s
  have HZ : Hid ((str s).size = s.length) := hz
  clear hz
  have hs2 : (str s).size ≤ 9223372036854775807 := by rw [HZ.out]; exact hs
  go_enter Try.func125, Try.ntmps125
  go_wp2
  go_loop [5, 6] (fun v i => ∃ (k : Nat) (r : Nat), k ≤ (str s).size ∧ i = .int .i64 k ∧ v = .int .i64 (r : Int) ∧ r < 4294967296 ∧ r = crcB p 4294967295 (allBits (s.take k))) (fun _ i => (str s).size - (intOf i).toNat)
  case atStart => exact ⟨0, 4294967295, Nat.zero_le _, rfl, rfl, by omega, rfl⟩
  case round =>
    obtain ⟨k, r, hk, rfl, rfl, hr1, hr⟩ := hrel
    have HR : Hid (r = crcB p 4294967295 (allBits (s.take k))) := hr
    clear hr
    by_cases hlt : k < (str s).size
    · have hlt2 : k < s.length := by rw [← HZ.out]; exact hlt
      go_wp2_with fail
      have eb : wrap64 (wrap64 (((str s)[k]'hlt).toNat : Int) * 16777216) = ((s[k].toNat * 16777216 : Nat) : Int) := by
        have hb := (s[k]).toNat_lt
        have e0 : ((str s)[k]'hlt).toNat = s[k].toNat := rfl
        rw [e0]
        unfold wrap64
        omega
      have hb := (s[k]).toNat_lt
      have ex : bits BinOp.xor IntKind.i64 (r : Int) (wrap64 (wrap64 (((str s)[k]'hlt).toNat : Int) * 16777216)) = ((r ^^^ (s[k].toNat * 16777216) : Nat) : Int) := by
        rw [eb, bits_xor_i64 _ _ (by omega) (by omega)]
      rw [ex]
      have hx : r ^^^ (s[k].toNat * 16777216) < 4294967296 := Nat.xor_lt_two_pow (n := 32) hr1 (by omega)
      have hd := divN_byte p h3 s[k] r hr1
      have HD : Hid (divN p 8 (r ^^^ (s[k].toNat * 16777216)) = crcB p r (bitsOf s[k])) := hd
      clear hd ex eb
      generalize hX : r ^^^ (s[k].toNat * 16777216) = X at *
      clear hX
      refine (divideByte_any X p _ hx h3 _ rfl).mono ?_
      rintro e w' ⟨rfl, rfl⟩
      have hlt3 : divN p 8 X < 4294967296 := by rw [HD.out]; exact crcB_lt h3 _ hr1
      have hfin : divN p 8 X = crcB p 4294967295 (allBits (s.take (k + 1))) := by
        rw [HD.out, HR.out, take_bytes s k hlt2]
        rw [allBits_append, allBits_one, crcB_append]
      have HF : Hid (divN p 8 X = crcB p 4294967295 (allBits (s.take (k + 1)))) := hfin
      clear hfin HD HR
      generalize divN p 8 X = Y at *
      go_wp2_with fail
      go_round
      case rel => exact ⟨k + 1, Y, by omega, by go_num, rfl, hlt3, HF.out⟩
      case measure => simp [intOf]; omega
    · have e1 : k = s.length := by rw [← HZ.out]; omega
      have e2 : crc p s = r ^^^ 4294967295 := by
        unfold crc; rw [HR.out, e1, List.take_of_length_le (Nat.le_refl _)]
      have e3 : bits .xor .i64 (r : Int) 4294967295 = ((crc p s : Nat) : Int) := by
        rw [e2, ← bits_xor_i64 r 4294967295 (by omega) (by omega)]; rfl
      have E3 : Hid (bits .xor .i64 (r : Int) 4294967295 = ((crc p s : Nat) : Int)) := e3
      clear e1 e2 e3 HR
      go_wp2_with fail
      go_ret
      exact ⟨ret_int E3.out, rfl⟩

set_option maxHeartbeats 1000000 in
theorem sum_any (s : List UInt8) (w : World) (hs : s.length ≤ 9223372036854775807) :
    Calls Try.prog 101 #[.string (str s)] w fun e w' => e = .returned (.int .i64 ((crc pSum s : Nat) : Int)) ∧ w' = w := by
  go_enter Try.func101, Try.ntmps101
  go_wp2_with fail
  refine (remainder_any s pSum _ hs (by decide) _ (by decide)).mono ?_
  rintro e w' ⟨rfl, rfl⟩
  go_wp2_with fail
  go_ret
  exact ⟨rfl, rfl⟩
set_option maxHeartbeats 1000000 in
theorem seal_any (s : List UInt8) (w : World) (hs : s.length ≤ 9223372036854775807) :
    Calls Try.prog 83 #[.string (str s)] w fun e w' => e = .returned (.int .i64 ((crc pSeal s : Nat) : Int)) ∧ w' = w := by
  go_enter Try.func83, Try.ntmps83
  go_wp2_with fail
  refine (remainder_any s pSeal _ hs (by decide) _ (by decide)).mono ?_
  rintro e w' ⟨rfl, rfl⟩
  go_wp2_with fail
  go_ret
  exact ⟨rfl, rfl⟩
end Go.Proofs.Ytdjpkgaicmklmaa

/- Frames and bundles of both, walked. -/
namespace Go.Proofs.Ytdjpkgaicmklmaa
open Go.RowKit
attribute [local go_sem] str_size str_append mk_append_str str_append_mk

/-- A frame. -/
def frameB (r : List UInt8) : List UInt8 := 245 :: 95 :: (byt r.length :: (r ++ fourI (crc pSum (byt r.length :: r))))
/-- A bundle of records. -/
def bodyB (l : List Fd) : List UInt8 := 80 :: 82 :: 67 :: 49 :: l.flatMap (fun f => frameB (recF f))
def bundleB (l : List Fd) : List UInt8 := bodyB l ++ fourI (crc pSeal (bodyB l))

theorem frameB_length (r : List UInt8) : (frameB r).length = r.length + 7 := by simp [frameB, fourI]
theorem bodyB_succ (l : List Fd) (f : Fd) : bodyB (l ++ [f]) = bodyB l ++ frameB (recF f) := by simp [bodyB]

theorem recF_length {f : Fd} (h : FdOk f) : (recF f).length ≤ 100 := by
  rcases h with ⟨s, b, rfl, h1, h2, h3⟩ | ⟨c, rfl, h1, h2⟩ | ⟨c, rfl, h1, h2, h3, h4⟩ | ⟨c, rfl, h1, h2⟩
  · have := numB_length s
    rw [recF_head]; unfold recHead; split <;> simp [fourI] <;> omega
  · have := numB_length c.site; have := numB_length c.count
    rw [recF_clock]; unfold recClock; simp; omega
  · have := numB_length c.id; have := numB_length c.site; have := numB_length c.count
    rw [recF_card]; unfold recCard; simp
    have e : c.text.data.size = c.text.size := rfl
    omega
  · have := numB_length c.id
    rw [recF_edit]; unfold recEdit; simp
    have e : c.text.data.size = c.text.size := rfl
    omega

theorem bodyB_length (l : List Fd) (h : ∀ f, f ∈ l → FdOk f) : (bodyB l).length ≤ 4 + 107 * l.length := by
  have : ∀ l : List Fd, (∀ f, f ∈ l → FdOk f) → (l.flatMap (fun f => frameB (recF f))).length ≤ 107 * l.length := by
    intro l
    induction l with
    | nil => intro _; simp
    | cons f l ih =>
      intro h
      have h1 := recF_length (h f (by simp))
      have h2 := ih (fun x hx => h x (by simp [hx]))
      simp only [List.flatMap_cons, List.length_append, frameB_length, List.length_cons]
      omega
  have := this l h
  simp only [bodyB, List.length_cons]
  omega

theorem crc_le (p : Nat) (hp : p < 4294967296) (l : List UInt8) : 0 ≤ ((crc p l : Nat) : Int) ∧ ((crc p l : Nat) : Int) ≤ 4294967295 := by
  have := crc_lt hp l; omega

set_option maxRecDepth 100000 in
set_option maxHeartbeats 1000000 in
theorem frame_any (r : List UInt8) (w : World) (hr : r.length ≤ 255) :
    Calls Try.prog 82 #[.string (str r)] w fun e w' => e = .returned (.string (str (frameB r))) ∧ Below w.heap.size w w' := by
  have E : Hid (245 :: 95 :: (byt r.length :: (r ++ fourI (crc pSum (byt r.length :: r)))) = frameB r) := rfl
  have l4 : ∀ n, (fourI n).length ≤ 4 := fun _ => Nat.le_refl _
  go_enter Try.func82, Try.ntmps82
  go_wp2_with fail
  refine (oneByte_any _ _ (by omega) (by omega)).mono ?_
  rintro e w1 ⟨rfl, hb1⟩
  go_wp2_with fail
  refine (sum_any (byt r.length :: r) _ (by simp; omega)).mono ?_
  rintro e w2 ⟨rfl, rfl⟩
  obtain ⟨c1, c2⟩ := crc_le pSum (by decide) (byt r.length :: r)
  generalize crc pSum (byt r.length :: r) = C at *
  go_wp2_with fail
  refine (fourBytes_any _ _ c1 c2).mono ?_
  rintro e w3 ⟨rfl, hb3⟩
  have l5 := l4 (C : Int)
  generalize fourI (C : Int) = t at *
  clear l4
  go_wp2_with fail
  go_ret
  exact ⟨ret_str E.out, hb1.trans (hb3.mono hb1.size)⟩

set_option maxRecDepth 100000 in
set_option maxHeartbeats 1000000 in
theorem rframe_any (f : Fd) (w : World) (h : FdOk f) :
    Calls Try.prog 86 #[.agg f.cells.toArray] w fun e w' => e = .returned (.string (str (frameB (recF f)))) ∧ Below w.heap.size w w' := by
  have hr := recF_length h
  have hb0 : BoxF w f (w.alloc (.cells f.cells.toArray 64)) := Below.refl _ _
  have hw := written_any f (w.alloc (.cells f.cells.toArray 64)) h
  go_enter Try.func86, Try.ntmps86
  go_wp2_with fail
  refine hw.mono ?_
  rintro e w1 ⟨rfl, hh⟩
  have hb1 := box_step hb0 hh
  clear hh hb0
  generalize hrr : recF f = r at *
  have HR : Hid (recF f = r) := hrr
  clear hrr
  have E : Hid (245 :: 95 :: (byt r.length :: (r ++ fourI (crc pSum (byt r.length :: r)))) = frameB r) := rfl
  have l4 : ∀ n, (fourI n).length ≤ 4 := fun _ => Nat.le_refl _
  go_wp2_with (refine wpList_toString (by rfl) 126 9 5 _ (by rfl) Try.underlying126 Try.underlying5 Try.underlying9 _ _ _ (by rfl) [(r.length : Int)] rfl ?_ ?_; exact new_cells _ _ _)
  have hb2 := hb1.alloc (by have := hb1.size; simpa using this) (.cells #[.int .u8 (r.length : Int)] 5)
  refine (rsum_any (byt r.length :: r) _ (by simp; omega)).mono ?_
  rintro e w2 ⟨rfl, hh⟩
  have hb3 := box_step hb2 hh
  clear hh hb2 hb1
  obtain ⟨c1, c2⟩ := crc_le pSum (by decide) (byt r.length :: r)
  generalize crc pSum (byt r.length :: r) = C at *
  go_wp2_with fail
  refine (rfour_any _ _ c1 c2).mono ?_
  rintro e w3 ⟨rfl, hh⟩
  have hb4 := box_step hb3 hh
  clear hh hb3
  have l5 := l4 (C : Int)
  generalize fourI (C : Int) = t at *
  clear l4
  go_wp2_with fail
  go_ret
  exact ⟨ret_str (by rw [HR.out]; exact E.out), box_old hb4⟩

theorem Fit.ok {R : Rep} (hF : Fit R) {s b : Int} (hs : Num s) (hb1 : 0 ≤ b) (hb2 : b ≤ 4294967295) : ∀ f, f ∈ recsOf s b R → FdOk f := by
  intro f h
  simp only [recsOf, recs3, recs2, recs1, List.mem_append, List.mem_cons, List.mem_map, List.mem_range] at h
  rcases h with ((rfl | ⟨i, hi, rfl⟩) | ⟨i, hi, rfl⟩) | ⟨i, hi, rfl⟩
  · exact Or.inl ⟨s, b, rfl, hs, hb1, hb2⟩
  · obtain ⟨g1, g2⟩ := hF.c1 i hi
    exact Or.inr (Or.inl ⟨_, rfl, g1, g2⟩)
  · obtain ⟨g1, g2, g3, g4⟩ := hF.d1 i hi
    exact Or.inr (Or.inr (Or.inl ⟨_, rfl, g1, g2, g3, g4⟩))
  · obtain ⟨g1, g2⟩ := hF.e1 i hi
    exact Or.inr (Or.inr (Or.inr ⟨_, rfl, g1, g2⟩))

set_option maxRecDepth 100000 in
set_option maxHeartbeats 4000000 in
theorem bundle_any (s b : Int) (R : Rep) (a1 a2 a3 : Option Addr) (k1 k2 k3 : Nat) (w : World) (hR : Has w R a1 a2 a3) (hF : Fit R) (hs : Num s) (hb1 : 0 ≤ b) (hb2 : b ≤ 4294967295) :
    Calls Try.prog 41 #[.agg (lnkA s b R a1 a2 a3 k1 k2 k3)] w fun e w' => e = .returned (.string (str (bundleB (recsOf s b R)))) ∧ Below w.heap.size w w' := by
  have m1 := hF.n1; have m2 := hF.n2; have m3 := hF.n3
  have h0 : BoxL w s b R a1 a2 a3 k1 k2 k3 (w.alloc (.cells (lnkA s b R a1 a2 a3 k1 k2 k3) 75)) := Below.refl _ _
  have hrec := recordsOf_any s b R a1 a2 a3 k1 k2 k3 (w.alloc (.cells (lnkA s b R a1 a2 a3 k1 k2 k3) 75)) (hR.below (box_old h0)) hF hs hb1 hb2
  go_enter Try.func41, Try.ntmps41
  go_wp2_with fail
  refine hrec.mono ?_
  rintro e w1 ⟨ad, cap, N, rfl, hN, hv, hh⟩
  have h1 := box_old (box_step h0 hh)
  clear hh h0 hrec
  have hok := hF.ok hs hb1 hb2
  have hNb : N ≤ 3000001 := by rw [hN, recsOf_length]; omega
  generalize hll : recsOf s b R = l at *
  have HLL : Hid (recsOf s b R = l) := hll
  clear hll
  have HN : Hid (N = l.length) := hN
  have HO : Hid (∀ f, f ∈ l → FdOk f) := hok
  clear hN hok
  go_wp2_with fail
  go_loopw [4, 5, 6] (fun v u _ wr => ∃ (k : Nat) (B : List UInt8), k ≤ N ∧ u = .int .i64 k ∧ v = .string (str B) ∧ B = bodyB (l.take k) ∧ B.length ≤ 400000000 ∧ Below w1.heap.size w1 wr) (fun _ u _ _ => N - (intOf u).toNat)
  case atStart => exact ⟨0, [80, 82, 67, 49], Nat.zero_le _, rfl, rfl, rfl, by simp, Below.refl _ _⟩
  case round =>
    obtain ⟨k, B, hk, rfl, rfl, hB, hBl, hb⟩ := hrel
    have HB : Hid (B = bodyB (l.take k)) := hB
    clear hB
    by_cases hlt : k < N
    · have hl : k < l.length := by rw [← HN.out]; exact hlt
      have hvr := hv.keep hb
      obtain ⟨bb, o, _, hbl, hix, hc, _, _⟩ := hvr.at (P := Try.prog) (t := 46) (by kernel_rfl) (by kernel_rfl) hlt (k : Int) rfl
      have hcell : wr.cell? ⟨bb, o, none⟩ = some (.string (str (recF l[k]))) := by
        have := hc 0 (by omega)
        rw [Nat.add_zero, Nat.mul_one, Nat.add_zero, List.getElem?_map, List.getElem?_eq_getElem hl] at this
        exact this
      have hfk := HO.out l[k] (List.getElem_mem hl)
      have hfl := recF_length hfk
      have hbod : bodyB (l.take (k + 1)) = B ++ frameB (recF l[k]) := by
        rw [List.take_succ_eq_append_getElem hl, bodyB_succ, HB.out]
      have hbl2 := bodyB_length (l.take (k + 1)) (fun f hf => HO.out f (List.mem_of_mem_take hf))
      rw [hbod] at hbl2
      have hfr := frameB_length (recF l[k])
      have hk3 : (l.take (k + 1)).length ≤ 3000001 := by rw [List.length_take]; have := HN.out; omega
      have hbl3 : (B ++ frameB (recF l[k])).length ≤ 400000000 := by omega
      have HD : Hid (bodyB (l.take (k + 1)) = B ++ frameB (recF l[k])) := hbod
      clear hc hbod hbl2 hk3 hvr HB hfk
      generalize recF l[k] = r at *
      have hfr2 : (frameB r).length ≤ 200 := by omega
      clear hfr
      go_wp2_with fail
      refine (frame_any r _ (by omega)).mono ?_
      rintro e w2 ⟨rfl, hh⟩
      have hb3 : Below w1.heap.size w1 w2 := hb.trans (hh.mono hb.size)
      clear hh
      generalize frameB r = fr at *
      rw [List.length_append] at hbl3
      go_wp2_with fail
      go_roundw
      case rel => exact ⟨k + 1, B ++ fr, by omega, by go_num, rfl, HD.out.symm, by simp; omega, hb3⟩
      case measure => simp [intOf]; omega
    · have e1 : k = N := by omega
      have E : Hid (B = bodyB l) := by
        have h := HB.out
        rw [e1, HN.out, List.take_of_length_le (Nat.le_refl _)] at h; exact h
      clear e1 HB
      go_wp2_with fail
      refine (seal_any B _ (by omega)).mono ?_
      rintro e w2 ⟨rfl, rfl⟩
      obtain ⟨c1, c2⟩ := crc_le pSeal (by decide) B
      have F : Hid (B ++ fourI (crc pSeal B) = bundleB l) := by show _ = _; rw [E.out]; rfl
      generalize crc pSeal B = C at *
      go_wp2_with fail
      refine (fourBytes_any _ _ c1 c2).mono ?_
      rintro e w3 ⟨rfl, hh⟩
      have l5 : (fourI (C : Int)).length ≤ 4 := Nat.le_refl _
      generalize fourI (C : Int) = t at *
      go_wp2_with fail
      go_ret
      exact ⟨ret_str (by rw [HLL.out]; exact F.out), h1.trans ((hb.trans (hh.mono hb.size)).mono h1.size)⟩
end Go.Proofs.Ytdjpkgaicmklmaa

/- Bits turned over within 32 consecutive ones turn the sum: without the program. -/
namespace Go.Proofs.Ytdjpkgaicmklmaa

theorem div1_inj {p x y : Nat} (hp : p % 2 = 1) (h : div1 p x = div1 p y) : x = y := by
  have par : ∀ z : Nat, ((2 * z) ^^^ (p + 4294967296)) % 2 = 1 := by
    intro z
    have := Nat.xor_mod_two_pow (a := 2 * z) (b := p + 4294967296) (n := 1)
    rw [Nat.pow_one] at this
    rw [this, show 2 * z % 2 = 0 by omega, show (p + 4294967296) % 2 = 1 by omega]
    rfl
  unfold div1 at h
  split at h <;> split at h
  · have h2 := congrArg (fun z => z ^^^ (p + 4294967296)) h
    simp only [Nat.xor_assoc, Nat.xor_self, Nat.xor_zero] at h2
    omega
  · have := par x; rw [h] at this; omega
  · have := par y; rw [← h] at this; omega
  · omega
theorem divN_inj {p : Nat} (hp : p % 2 = 1) : ∀ (k : Nat) {x y : Nat}, divN p k x = divN p k y → x = y
  | 0, _, _, h => h
  | k + 1, _, _, h => div1_inj hp (divN_inj hp k h)
theorem high_inj : ∀ (l m : List Bool), l.length = m.length → l.length ≤ 32 → high l = high m → l = m
  | [], [], _, _, _ => rfl
  | [], _ :: _, h, _, _ => by simp at h
  | _ :: _, [], h, _, _ => by simp at h
  | b :: l, c :: m, hl, h32, h => by
    have hb : b = c := by rw [← bit_high_top b l, ← bit_high_top c m, h]
    subst hb
    simp only [List.length_cons] at hl h32
    have e1 := high_even l 31 (by omega) (by omega)
    have e2 := high_even m 31 (by omega) (by omega)
    simp only [high] at h
    rw [high_inj l m (by omega) (by omega) (by omega)]
theorem crcB_short {p : Nat} (hp : p < 4294967296) (r : Nat) (hr : r < 4294967296) (e : List Bool) (he : e.length ≤ 32) : crcB p r e = divN p e.length (r ^^^ high e) := by
  have := divN_high p hp [] e r hr (by simpa using he)
  rw [List.append_nil] at this
  rw [this]; simp [high]
theorem cst_inj {p x y : Nat} {b : Bool} (hp : p < 4294967296) (ho : p % 2 = 1) (hx : x < 4294967296) (hy : y < 4294967296) (h : cst p x b = cst p y b) : x = y := by
  have ex := crcB_short hp x hx [b] (by simp)
  have ey := crcB_short hp y hy [b] (by simp)
  have : divN p 1 (x ^^^ high [b]) = divN p 1 (y ^^^ high [b]) := by
    rw [← List.length_singleton (a := b), ← ex, ← ey]; exact h
  have h2 := divN_inj ho 1 this
  have h3 := congrArg (fun z => z ^^^ high [b]) h2
  simpa [Nat.xor_assoc] using h3
theorem crcB_inj {p : Nat} (hp : p < 4294967296) (ho : p % 2 = 1) : ∀ (c : List Bool) {x y : Nat}, x < 4294967296 → y < 4294967296 → crcB p x c = crcB p y c → x = y
  | [], _, _, _, _, h => h
  | _ :: c, _, _, hx, hy, h => cst_inj hp ho hx hy (crcB_inj hp ho c (cst_lt hp) (cst_lt hp) h)
/-- Bits that part within 32 consecutive ones part the registers. -/
theorem burst {p : Nat} (hp : p < 4294967296) (ho : p % 2 = 1) (r : Nat) (hr : r < 4294967296) (a e e' c : List Bool) (hl : e.length = e'.length) (h32 : e.length ≤ 32) (h : crcB p r (a ++ e ++ c) = crcB p r (a ++ e' ++ c)) : e = e' := by
  have ha := crcB_lt hp a hr
  rw [crcB_append, crcB_append, crcB_append p r (a ++ e') c, crcB_append p r a e'] at h
  have h1 := crcB_inj hp ho c (crcB_lt hp e ha) (crcB_lt hp e' ha) h
  rw [crcB_short hp _ ha e h32, crcB_short hp _ ha e' (by omega), hl] at h1
  have h2 := divN_inj ho _ h1
  have h3 := congrArg (fun z => crcB p r a ^^^ z) h2
  simp only [← Nat.xor_assoc, Nat.xor_self, Nat.zero_xor] at h3
  exact high_inj e e' hl h32 h3

theorem high_append : ∀ (l m : List Bool), l.length + m.length ≤ 32 → high (l ++ m) = high l + high m / 2 ^ l.length
  | [], m, _ => by simp [high]
  | b :: l, m, h => by
    simp only [List.length_cons] at h
    have e := high_even l 31 (by omega) (by omega)
    simp only [List.cons_append, high, high_append l m (by omega), List.length_cons]
    rw [Nat.pow_succ, ← Nat.div_div_eq_div_mul]
    omega
theorem high_bytes (a b c d : UInt8) : high (allBits [a, b, c, d]) = a.toNat * 16777216 + b.toNat * 65536 + c.toNat * 256 + d.toNat := by
  have e : allBits [a, b, c, d] = bitsOf a ++ (bitsOf b ++ (bitsOf c ++ bitsOf d)) := by simp [allBits]
  rw [e, high_append _ _ (by simp [bitsOf]), high_append _ _ (by simp [bitsOf]), high_append _ _ (by simp [bitsOf])]
  rw [← byte_high, ← byte_high, ← byte_high, ← byte_high]
  simp only [show (bitsOf a).length = 8 from rfl, show (bitsOf b).length = 8 from rfl, show (bitsOf c).length = 8 from rfl]
  omega
theorem bytN (n : Int) (h0 : 0 ≤ n) (h1 : n < 256) : ((byt n).toNat : Int) = n := by
  simp [byt]; omega
theorem high_four (x : Nat) (h : x < 4294967296) : high (allBits (fourI x)) = x := by
  have a := bytN ((x : Int) / 16777216) (by omega) (by omega)
  have b := bytN ((x : Int) / 65536 % 256) (by omega) (by omega)
  have c := bytN ((x : Int) / 256 % 256) (by omega) (by omega)
  have d := bytN ((x : Int) % 256) (by omega) (by omega)
  unfold fourI
  rw [high_bytes]
  omega
/-- Bytes that end in their own sum leave all registers alike. -/
theorem resid {p : Nat} (hp : p < 4294967296) (s : List UInt8) : crcB p 4294967295 (allBits (s ++ fourI (crc p s))) = divN p 32 4294967295 := by
  have hr := crcB_lt hp (allBits s) (r := 4294967295) (by omega)
  have hc := crc_lt hp s
  rw [allBits_append, crcB_append, crcB_short hp _ hr _ (by rw [allBits_length]; simp [fourI]), high_four _ hc, allBits_length]
  simp only [crc, ← Nat.xor_assoc, Nat.xor_self, Nat.zero_xor]
  rfl
/-- Of two strings that end in their own sums and part within 32 consecutive bits alone both are the same. -/
theorem torn {p : Nat} (hp : p < 4294967296) (ho : p % 2 = 1) (s t : List UInt8) (a e e' c : List Bool) (hs : allBits (s ++ fourI (crc p s)) = a ++ e ++ c) (ht : allBits (t ++ fourI (crc p t)) = a ++ e' ++ c) (hl : e.length = e'.length) (h32 : e.length ≤ 32) : e = e' := by
  have h1 := resid hp s
  have h2 := resid hp t
  rw [hs] at h1
  rw [ht] at h2
  exact burst hp ho _ (by omega) a e e' c hl h32 (h1.trans h2.symm)
/-- Bits turned over within 32 consecutive ones turn the sum. -/
theorem crc_turn {p : Nat} (hp : p < 4294967296) (ho : p % 2 = 1) (s t : List UInt8) (a e e' c : List Bool) (hs : allBits s = a ++ e ++ c) (ht : allBits t = a ++ e' ++ c) (hl : e.length = e'.length) (h32 : e.length ≤ 32) (h : crc p s = crc p t) : e = e' := by
  unfold crc at h
  rw [hs, ht] at h
  have h2 := congrArg (fun z => z ^^^ 4294967295) h
  simp only [Nat.xor_assoc, Nat.xor_self, Nat.xor_zero] at h2
  exact burst hp ho _ (by omega) a e e' c hl h32 h2

/-- The register is linear in itself and in the bits. -/
theorem cst_lin (p r r' : Nat) (b b' : Bool) : cst p (r ^^^ r') (b != b') = cst p r b ^^^ cst p r' b' := by
  unfold cst
  rw [Nat.testBit_xor, xor_two_mul, xor_mod]
  generalize 2 * r % 4294967296 = u
  generalize 2 * r' % 4294967296 = v
  have e1 : (u ^^^ p) ^^^ (v ^^^ p) = u ^^^ v := by
    rw [Nat.xor_comm v p, ← Nat.xor_assoc, Nat.xor_assoc u p p, Nat.xor_self, Nat.xor_zero]
  have e2 : (u ^^^ p) ^^^ v = (u ^^^ v) ^^^ p := by rw [Nat.xor_assoc, Nat.xor_comm p v, ← Nat.xor_assoc]
  have e3 : u ^^^ (v ^^^ p) = (u ^^^ v) ^^^ p := by rw [Nat.xor_assoc]
  cases r.testBit 31 <;> cases r'.testBit 31 <;> cases b <;> cases b' <;> simp [e1, e2, e3]
theorem crcB_lin (p : Nat) : ∀ (l m : List Bool) (r r' : Nat), l.length = m.length → crcB p (r ^^^ r') (List.zipWith (· != ·) l m) = crcB p r l ^^^ crcB p r' m
  | [], [], _, _, _ => rfl
  | [], _ :: _, _, _, h => by simp at h
  | _ :: _, [], _, _, h => by simp at h
  | b :: l, c :: m, r, r', h => by
    simp only [List.zipWith_cons_cons, crcB, List.foldl_cons]
    rw [cst_lin]
    exact crcB_lin p l m _ _ (by simpa using h)
/-- What two strings' sums part by hangs on what the strings part by alone. -/
theorem crc_part (p : Nat) (s t : List UInt8) (h : s.length = t.length) : crc p s ^^^ crc p t = crcB p 0 (List.zipWith (· != ·) (allBits s) (allBits t)) := by
  have := crcB_lin p (allBits s) (allBits t) 4294967295 4294967295 (by rw [allBits_length, allBits_length, h])
  rw [Nat.xor_self] at this
  rw [this]
  unfold crc
  rw [Nat.xor_comm (crcB p 4294967295 (allBits t)) 4294967295, ← Nat.xor_assoc, Nat.xor_assoc (crcB p 4294967295 (allBits s)), Nat.xor_self, Nat.xor_zero]
theorem crcB_zeros (p : Nat) : ∀ n, crcB p 0 (List.replicate n false) = 0
  | 0 => rfl
  | n + 1 => by
    simp only [List.replicate_succ, crcB, List.foldl_cons]
    have : cst p 0 false = 0 := by simp [cst]
    rw [this]; exact crcB_zeros p n
/-- What two frames part by whose records part in the last byte, a against b. -/
def d40 : List Bool := bitsOf 3 ++ allBits (fourI (crcB pSum 0 (bitsOf 3)))
theorem strange_seal : crcB pSeal 0 d40 ≠ 0 := by decide +kernel
theorem strange_sum : crcB pSum 0 (d40 ++ allBits (fourI (crcB pSeal 0 d40))) ≠ 0 := by decide +kernel
end Go.Proofs.Ytdjpkgaicmklmaa

/- Volumes: Split and Join without the program. -/
namespace Go.Proofs.Ytdjpkgaicmklmaa
open Go.RowKit

/-- The head and the bytes of a volume, ahead of its own sum. -/
def volH (i n : Int) (s : Nat) (part : List UInt8) : List UInt8 := [86, 79, 76, 49, byt i, byt n] ++ fourI s ++ part
def volB (i n : Int) (s : Nat) (part : List UInt8) : List UInt8 := volH i n s part ++ fourI (crc pSum (volH i n s part))
/-- How many volumes of m bytes each. -/
def cntB (m k : Nat) : Nat := if k ≤ m then 1 else (k + m - 1) / m
def partB (m i : Nat) (b : List UInt8) : List UInt8 := (b.drop (i * m)).take m
def volsB (m : Nat) (b : List UInt8) : List (List UInt8) :=
  (List.range (cntB m b.length)).map fun (i : Nat) => volB (i : Int) (cntB m b.length) (crc pSum b) (partB m i b)

def numV (v : List UInt8) : Nat := (v.getD 4 0).toNat
def cntV (v : List UInt8) : Nat := (v.getD 5 0).toNat
def idV (v : List UInt8) : List UInt8 := (v.drop 5).take 5
def sumV (v : List UInt8) : List UInt8 := (v.drop 6).take 4
def bodyV (v : List UInt8) : List UInt8 := (v.drop 10).take (v.length - 14)
def volOk (v : List UInt8) : Bool := decide (14 ≤ v.length) && v.take 4 == [86, 79, 76, 49] && decide (numV v < cntV v) && fourI (crc pSum (v.take (v.length - 4))) == v.drop (v.length - 4)

def firstOf (f : Nat → Bool) (n : Nat) : Option Nat := (List.range n).find? f
theorem firstOf_some {f : Nat → Bool} {n i : Nat} : firstOf f n = some i ↔ f i = true ∧ i < n ∧ ∀ j, j < i → f j = false := by
  unfold firstOf; rw [List.find?_range_eq_some]; simp
theorem firstOf_none {f : Nat → Bool} {n : Nat} : firstOf f n = none ↔ ∀ i, i < n → f i = false := by
  unfold firstOf; rw [List.find?_eq_none]; simp

def atV (l : List (List UInt8)) (n : Nat) : Nat := l.findIdx (fun v => numV v == n)
def bad1 (l : List (List UInt8)) (i : Nat) : Bool := !volOk (l.getD i [])
def bad2 (l : List (List UInt8)) (i : Nat) : Bool := idV (l.getD i []) != idV (l.getD 0 [])
def bad3 (l : List (List UInt8)) (i : Nat) : Bool := (l.take i).any fun v => numV v == numV (l.getD i [])
def allV (l : List (List UInt8)) (k : Nat) : List UInt8 := (List.range k).flatMap fun n => bodyV (l.getD (atV l n) [])
structure Jn where
  b : List UInt8
  err : Int
  at_ : Nat
def joinRd (l : List (List UInt8)) : Jn :=
  match firstOf (bad1 l) l.length with
  | some i => ⟨[], 13, i⟩
  | none => match firstOf (bad2 l) l.length with
    | some i => ⟨[], 14, i⟩
    | none => match firstOf (bad3 l) l.length with
      | some i => ⟨[], 15, i⟩
      | none => if l.length = 0 ∨ l.length ≠ cntV (l.getD 0 []) then ⟨[], 16, 0⟩
        else if fourI (crc pSum (allV l l.length)) ≠ sumV (l.getD 0 []) then ⟨[], 8, 0⟩ else ⟨allV l l.length, 0, 0⟩

/-- Numbers below n, none twice, are at most n; n of them are all. -/
theorem below_length : ∀ (n : Nat) (l : List Nat), l.Nodup → (∀ x ∈ l, x < n) → l.length ≤ n
  | 0, [], _, _ => Nat.le_refl 0
  | 0, x :: _, _, h => absurd (h x (by simp)) (by omega)
  | n + 1, l, hd, h => by
    have := below_length n (l.erase n) (hd.erase n) (fun x hx => by
      rw [hd.mem_erase_iff] at hx; have := h x hx.2; omega)
    rw [List.length_erase] at this; split at this <;> omega
theorem below_all {n : Nat} {l : List Nat} (hd : l.Nodup) (h : ∀ x ∈ l, x < n) (hl : l.length = n) {k : Nat} (hk : k < n) : k ∈ l := by
  by_cases hm : k ∈ l
  · exact hm
  · have := below_length n (k :: l) (List.nodup_cons.mpr ⟨hm, hd⟩) (by intro x hx; rcases List.mem_cons.mp hx with rfl | hx; exact hk; exact h x hx)
    simp at this; omega

theorem bad3_none {l : List (List UInt8)} (h : ∀ i, i < l.length → bad3 l i = false) : (l.map numV).Nodup := by
  rw [List.nodup_iff_pairwise_ne, List.pairwise_iff_getElem]
  intro i j hi hj hij he
  simp only [List.length_map] at hi hj
  have := h j hj
  simp only [bad3, List.any_eq_false, beq_iff_eq] at this
  simp only [List.getElem_map] at he
  refine this l[i] ?_ ?_
  · rw [List.mem_take_iff_getElem]; exact ⟨i, by omega, rfl⟩
  · rw [he, List.getD_eq_getElem?_getD, List.getElem?_eq_getElem hj]; rfl
theorem nodup_bad3 {l : List (List UInt8)} (h : (l.map numV).Nodup) (i : Nat) (hi : i < l.length) : bad3 l i = false := by
  rw [List.nodup_iff_pairwise_ne, List.pairwise_iff_getElem] at h
  simp only [bad3, List.any_eq_false, beq_iff_eq]
  intro v hv he
  rw [List.mem_take_iff_getElem] at hv
  obtain ⟨j, hj, rfl⟩ := hv
  refine h j i (by simp; omega) (by simpa using hi) (by omega) ?_
  simp only [List.getElem_map]
  rw [he, List.getD_eq_getElem?_getD, List.getElem?_eq_getElem hi]; rfl

/-- Behind the first three searches each number below the count is there. -/
theorem at_lt {l : List (List UInt8)} (h1 : ∀ i, i < l.length → bad1 l i = false) (h2 : ∀ i, i < l.length → bad2 l i = false) (h3 : ∀ i, i < l.length → bad3 l i = false)
    (hl : l.length = cntV (l.getD 0 [])) {n : Nat} (hn : n < l.length) : atV l n < l.length := by
  have hc : ∀ i, i < l.length → cntV (l.getD i []) = cntV (l.getD 0 []) := by
    intro i hi
    have a := h2 i hi
    simp only [bad2, bne_eq_false_iff_eq] at a
    have hz : ∀ v : List UInt8, cntV v = ((idV v).getD 0 0).toNat := by intro v; unfold cntV idV; simp [List.getElem?_drop]
    rw [hz, hz, a]
  have hm : n ∈ l.map numV := by
    refine below_all (n := l.length) (bad3_none h3) ?_ (by simp) hn
    intro x hx
    rw [List.mem_map] at hx
    obtain ⟨v, hv, rfl⟩ := hx
    obtain ⟨i, hi, rfl⟩ := List.mem_iff_getElem.mp hv
    have a := h1 i hi
    have b := hc i hi
    simp only [bad1, Bool.not_eq_false', List.getD_eq_getElem?_getD, List.getElem?_eq_getElem hi, Option.getD_some] at a
    simp only [List.getD_eq_getElem?_getD, List.getElem?_eq_getElem hi, Option.getD_some] at b hl
    simp only [volOk, Bool.and_eq_true, decide_eq_true_eq] at a
    omega
  unfold atV
  rw [List.findIdx_lt_length]
  rw [List.mem_map] at hm
  obtain ⟨v, hv, he⟩ := hm
  exact ⟨v, hv, by simp [he]⟩
end Go.Proofs.Ytdjpkgaicmklmaa

/- Volumes: what Join makes of the volumes of some bytes, without the program. -/
namespace Go.Proofs.Ytdjpkgaicmklmaa
open Go.RowKit

theorem fourI_len (s : Int) : (fourI s).length = 4 := rfl
theorem fourI_inj {s t : Nat} (hs : s < 4294967296) (ht : t < 4294967296) (h : fourI s = fourI t) : s = t := by
  rw [← high_four s hs, ← high_four t ht, h]
theorem pSum_lt : pSum < 4294967296 := by decide
theorem pSum_odd : pSum % 2 = 1 := by decide

theorem volH_len (i n : Int) (s : Nat) (p : List UInt8) : (volH i n s p).length = p.length + 10 := by
  simp [volH, fourI]
theorem volB_len (i n : Int) (s : Nat) (p : List UInt8) : (volB i n s p).length = p.length + 14 := by
  simp [volB, volH_len, fourI_len]
theorem byt_nat (i : Nat) (h : i < 256) : (byt i).toNat = i := by
  have := bytN i (by omega) (by omega); omega
theorem volB_num (i n : Nat) (s : Nat) (p : List UInt8) (h : i < 256) : numV (volB i n s p) = i := by
  simp [numV, volB, volH, byt_nat i h]
theorem volB_cnt (i n : Nat) (s : Nat) (p : List UInt8) (h : n < 256) : cntV (volB i n s p) = n := by
  simp [cntV, volB, volH, byt_nat n h]
theorem volB_id (i n : Int) (s : Nat) (p : List UInt8) : idV (volB i n s p) = byt n :: fourI s := by
  simp [idV, volB, volH, fourI]
theorem volB_sum (i n : Int) (s : Nat) (p : List UInt8) : sumV (volB i n s p) = fourI s := by
  simp [sumV, volB, volH, fourI]
theorem volB_body (i n : Int) (s : Nat) (p : List UInt8) : bodyV (volB i n s p) = p := by
  unfold bodyV; rw [volB_len]; simp [volB, volH, fourI]
theorem volB_ok (i n : Nat) (s : Nat) (p : List UInt8) (h : i < n) (hn : n < 256) : volOk (volB i n s p) = true := by
  have e : (volB i n s p).length - 4 = (volH i n s p).length := by rw [volB_len, volH_len]; omega
  unfold volOk
  rw [volB_num i n s p (by omega), volB_cnt i n s p hn, e]
  have a : (volB i n s p).take (volH i n s p).length = volH i n s p := by simp [volB]
  have b : (volB i n s p).drop (volH i n s p).length = fourI (crc pSum (volH i n s p)) := by simp [volB]
  rw [a, b, volB_len]
  simp [h, volB, volH]

theorem cnt_pos (m k : Nat) (hm : 0 < m) : 0 < cntB m k := by
  unfold cntB; split
  · omega
  · exact Nat.div_pos (by omega) hm
theorem cnt_ge (m k : Nat) (hm : 0 < m) : k ≤ cntB m k * m := by
  unfold cntB; split
  · omega
  · have := Nat.div_add_mod (k + m - 1) m; have := Nat.mod_lt (k + m - 1) hm; rw [Nat.mul_comm]; omega
theorem cnt_least (m k : Nat) (hm : 0 < m) : 1 < cntB m k → (cntB m k - 1) * m < k := by
  unfold cntB; split
  · omega
  · intro _
    have := Nat.div_add_mod (k + m - 1) m
    rw [Nat.sub_mul, Nat.mul_comm]; omega
theorem cnt_small (m k : Nat) (hm : 26 ≤ m) (hk : k ≤ 6000) : cntB m k < 256 := by
  by_cases h : 1 < cntB m k
  · have := cnt_least m k (by omega) h
    have : (cntB m k - 1) * 26 ≤ (cntB m k - 1) * m := Nat.mul_le_mul_left _ hm
    omega
  · omega

theorem parts_take (m : Nat) (b : List UInt8) : ∀ k, ((List.range k).flatMap fun i => partB m i b) = b.take (k * m)
  | 0 => by simp
  | k + 1 => by
    rw [List.range_succ, List.flatMap_append, parts_take m b k]
    simp only [List.flatMap_cons, List.flatMap_nil, List.append_nil, partB]
    rw [Nat.add_mul, Nat.one_mul, List.take_add]
theorem parts_all (m : Nat) (b : List UInt8) (hm : 0 < m) : ((List.range (cntB m b.length)).flatMap fun i => partB m i b) = b := by
  rw [parts_take, List.take_of_length_le (cnt_ge m b.length hm)]

theorem vols_len (m : Nat) (b : List UInt8) : (volsB m b).length = cntB m b.length := by simp [volsB]
theorem vols_get (m : Nat) (b : List UInt8) (i : Nat) (h : i < cntB m b.length) : (volsB m b).getD i [] = volB i (cntB m b.length) (crc pSum b) (partB m i b) := by
  simp [volsB, h]
theorem vols_mem {m : Nat} {b v : List UInt8} (h : v ∈ volsB m b) : ∃ i, i < cntB m b.length ∧ v = volB (i : Nat) (cntB m b.length) (crc pSum b) (partB m i b) := by
  simp only [volsB, List.mem_map, List.mem_range] at h
  obtain ⟨i, hi, rfl⟩ := h; exact ⟨i, hi, rfl⟩
theorem vols_nums (m : Nat) (b : List UInt8) (hs : cntB m b.length < 256) : (volsB m b).map numV = List.range (cntB m b.length) := by
  unfold volsB; rw [List.map_map]
  conv => rhs; rw [← List.map_id (List.range _)]
  apply List.map_congr_left; intro i hi
  simp only [List.mem_range] at hi
  simp only [Function.comp_apply, id_eq]
  exact volB_num i _ _ _ (by omega)

theorem volAt_mem {l : List (List UInt8)} {i : Nat} (h : i < l.length) : l.getD i [] ∈ l := by
  rw [List.getD_eq_getElem?_getD, List.getElem?_eq_getElem h]; exact List.getElem_mem h

/-- What lists of volumes of some bytes have in common. -/
structure Of (m : Nat) (b : List UInt8) (l : List (List UInt8)) : Prop where
  all : ∀ v ∈ l, v ∈ volsB m b
  hm : 26 ≤ m
  hb : b.length ≤ 6000
theorem Of.bad1 {m : Nat} {b : List UInt8} {l : List (List UInt8)} (h : Of m b l) (i : Nat) (hi : i < l.length) : bad1 l i = false := by
  obtain ⟨k, hk, e⟩ := vols_mem (h.all _ (volAt_mem hi))
  unfold Ytdjpkgaicmklmaa.bad1; rw [e, volB_ok k _ _ _ hk (cnt_small m _ h.hm h.hb)]; rfl
theorem Of.id {m : Nat} {b : List UInt8} {l : List (List UInt8)} (h : Of m b l) (i : Nat) (hi : i < l.length) : idV (l.getD i []) = byt (cntB m b.length : Nat) :: fourI (crc pSum b) := by
  obtain ⟨k, hk, e⟩ := vols_mem (h.all _ (volAt_mem hi))
  rw [e, volB_id]
theorem Of.bad2 {m : Nat} {b : List UInt8} {l : List (List UInt8)} (h : Of m b l) (i : Nat) (hi : i < l.length) : bad2 l i = false := by
  unfold Ytdjpkgaicmklmaa.bad2; rw [h.id i hi, h.id 0 (by omega)]; simp
theorem Of.cnt {m : Nat} {b : List UInt8} {l : List (List UInt8)} (h : Of m b l) (i : Nat) (hi : i < l.length) : cntV (l.getD i []) = cntB m b.length := by
  obtain ⟨k, hk, e⟩ := vols_mem (h.all _ (volAt_mem hi))
  rw [e, volB_cnt k _ _ _ (cnt_small m _ h.hm h.hb)]
theorem Of.sum {m : Nat} {b : List UInt8} {l : List (List UInt8)} (h : Of m b l) (i : Nat) (hi : i < l.length) : sumV (l.getD i []) = fourI (crc pSum b) := by
  obtain ⟨k, hk, e⟩ := vols_mem (h.all _ (volAt_mem hi))
  rw [e, volB_sum]

/-- The volumes of some bytes, in any order, make these bytes again. -/
theorem join_perm {m : Nat} {b : List UInt8} {l : List (List UInt8)} (hm : 26 ≤ m) (hb : b.length ≤ 6000) (hp : l.Perm (volsB m b)) : joinRd l = ⟨b, 0, 0⟩ := by
  have hs := cnt_small m _ hm hb
  have h : Of m b l := ⟨fun v hv => hp.mem_iff.mp hv, hm, hb⟩
  have hl : l.length = cntB m b.length := by rw [hp.length_eq, vols_len]
  have h0 : 0 < l.length := by rw [hl]; exact cnt_pos m _ (by omega)
  have hn : (l.map numV).Nodup := (hp.map numV).nodup_iff.mpr (by rw [vols_nums m b hs]; exact List.nodup_range)
  have h1 := h.bad1
  have h2 := h.bad2
  have h3 := nodup_bad3 hn
  have hat : ∀ n, n < l.length → bodyV (l.getD (atV l n) []) = partB m n b := by
    intro n hn'
    have ha := at_lt h1 h2 h3 (by rw [h.cnt 0 h0, hl]) hn'
    obtain ⟨k, hk, e⟩ := vols_mem (h.all _ (volAt_mem ha))
    have hq : numV (l.getD (atV l n) []) = n := by
      have := List.findIdx_getElem (w := ha) (p := fun v => numV v == n)
      rw [List.getD_eq_getElem?_getD, List.getElem?_eq_getElem ha]
      have e2 := of_decide_eq_true (p := numV (l[l.findIdx (fun v => numV v == n)]'ha) = n) (by simpa using this)
      exact e2
    rw [e, volB_num k _ _ _ (by omega)] at hq
    rw [e, volB_body, hq]
  have hA : allV l l.length = b := by
    have : allV l l.length = (List.range l.length).flatMap fun i => partB m i b := by
      unfold allV
      rw [List.flatMap_def, List.flatMap_def]
      congr 1
      apply List.map_congr_left; intro n hn'; exact hat n (List.mem_range.mp hn')
    rw [this, hl, parts_all m b (by omega)]
  unfold joinRd
  rw [firstOf_none.mpr h1, firstOf_none.mpr h2, firstOf_none.mpr h3]
  simp only
  rw [if_neg (by rw [h.cnt 0 h0]; omega), hA, h.sum 0 h0, if_neg (by simp)]

/-- Without one of them they are refused. -/
theorem join_less {m : Nat} {b : List UInt8} {l : List (List UInt8)} (hm : 26 ≤ m) (hb : b.length ≤ 6000) (hp : l.Sublist (volsB m b)) (hl : l.length ≠ cntB m b.length) : joinRd l = ⟨[], 16, 0⟩ := by
  have hs := cnt_small m _ hm hb
  have h : Of m b l := ⟨fun v hv => hp.subset hv, hm, hb⟩
  have hn : (l.map numV).Nodup := List.Nodup.sublist (hp.map numV) (by rw [vols_nums m b hs]; exact List.nodup_range)
  unfold joinRd
  rw [firstOf_none.mpr h.bad1, firstOf_none.mpr h.bad2, firstOf_none.mpr (nodup_bad3 hn)]
  simp only
  rw [if_pos]
  by_cases h0 : l.length = 0
  · exact Or.inl h0
  · right; rw [h.cnt 0 (by omega)]; exact hl

/-- With one twice they are refused, at the second one. -/
theorem join_more {m : Nat} {b v : List UInt8} (hm : 26 ≤ m) (hb : b.length ≤ 6000) (hv : v ∈ volsB m b) : joinRd (volsB m b ++ [v]) = ⟨[], 15, cntB m b.length⟩ := by
  have hs := cnt_small m _ hm hb
  have h : Of m b (volsB m b ++ [v]) := ⟨fun u hu => by rcases List.mem_append.mp hu with hu | hu; exact hu; rw [List.mem_singleton.mp hu]; exact hv, hm, hb⟩
  have hn : ((volsB m b).map numV).Nodup := by rw [vols_nums m b hs]; exact List.nodup_range
  unfold joinRd
  rw [firstOf_none.mpr h.bad1, firstOf_none.mpr h.bad2, (firstOf_some (i := cntB m b.length)).mpr]
  refine ⟨?_, by simp [vols_len], ?_⟩
  · simp only [Ytdjpkgaicmklmaa.bad3, ← vols_len, List.take_left', List.any_eq_true, beq_iff_eq]
    exact ⟨v, hv, by simp⟩
  · intro j hj
    have hj' : j < (volsB m b).length := by rw [vols_len]; exact hj
    have := nodup_bad3 hn j hj'
    rw [← this]
    unfold Ytdjpkgaicmklmaa.bad3
    rw [List.take_append_of_le_length (by omega), List.getD_eq_getElem?_getD, List.getElem?_append_left hj', ← List.getD_eq_getElem?_getD]

/-- One of them that is no volume any more is told. -/
theorem join_torn {m : Nat} {b v : List UInt8} {i : Nat} (hm : 26 ≤ m) (hb : b.length ≤ 6000) (hi : i < cntB m b.length) (hv : volOk v = false) : joinRd ((volsB m b).set i v) = ⟨[], 13, i⟩ := by
  have h : Of m b (volsB m b) := ⟨fun _ h => h, hm, hb⟩
  unfold joinRd
  rw [(firstOf_some (i := i)).mpr]
  refine ⟨?_, by simp [vols_len, hi], ?_⟩
  · simp [Ytdjpkgaicmklmaa.bad1, vols_len, hi, hv]
  · intro j hj
    rw [← h.bad1 j (by rw [vols_len]; omega)]
    simp only [Ytdjpkgaicmklmaa.bad1, List.getD_eq_getElem?_getD]
    rw [List.getElem?_set_ne (by omega)]

/-- One of bytes with another sum among them is told; in the first place the one behind it is. -/
theorem join_mixed {m : Nat} {b c : List UInt8} {i : Nat} (hm : 26 ≤ m) (hb : b.length ≤ 6000) (hc : c.length = b.length) (hs : crc pSum b ≠ crc pSum c) (h2 : 1 < cntB m b.length) (hi : i < cntB m b.length) :
    joinRd ((volsB m b).set i ((volsB m c).getD i [])) = ⟨[], 14, if i = 0 then 1 else i⟩ := by
  have hk := cnt_small m _ hm hb
  have hne : fourI (crc pSum b) ≠ fourI (crc pSum c) := fun e => hs (fourI_inj (crc_lt pSum_lt b) (crc_lt pSum_lt c) e)
  have h : Of m b (volsB m b) := ⟨fun _ h => h, hm, hb⟩
  have hcv := vols_get m c i (by rw [hc]; exact hi)
  rw [hc] at hcv
  have hlen : ((volsB m b).set i ((volsB m c).getD i [])).length = cntB m b.length := by simp [vols_len]
  have g0 : ((volsB m b).set i ((volsB m c).getD i [])).getD i [] = volB i (cntB m b.length) (crc pSum c) (partB m i c) := by
    rw [hcv]; simp [vols_len, hi]
  have g1 : ∀ j, j ≠ i → ((volsB m b).set i ((volsB m c).getD i [])).getD j [] = (volsB m b).getD j [] := by
    intro j hj; simp only [List.getD_eq_getElem?_getD]; rw [List.getElem?_set_ne (by omega)]
  have hid : ∀ j, j < cntB m b.length → j ≠ i → idV (((volsB m b).set i ((volsB m c).getD i [])).getD j []) = byt (cntB m b.length : Nat) :: fourI (crc pSum b) := by
    intro j hj hji; rw [g1 j hji, h.id j (by rw [vols_len]; exact hj)]
  have hidi : idV (((volsB m b).set i ((volsB m c).getD i [])).getD i []) = byt (cntB m b.length : Nat) :: fourI (crc pSum c) := by
    rw [g0, volB_id]
  have n1 : ∀ j, j < ((volsB m b).set i ((volsB m c).getD i [])).length → Ytdjpkgaicmklmaa.bad1 ((volsB m b).set i ((volsB m c).getD i [])) j = false := by
    intro j hj
    rw [hlen] at hj
    unfold Ytdjpkgaicmklmaa.bad1
    by_cases hji : j = i
    · rw [hji, g0, volB_ok i _ _ _ hi hk]; rfl
    · rw [g1 j hji]; exact h.bad1 j (by rw [vols_len]; exact hj)
  unfold joinRd
  rw [firstOf_none.mpr n1, (firstOf_some (i := if i = 0 then 1 else i)).mpr]
  rw [hlen]
  by_cases h0 : i = 0
  · rw [if_pos h0]
    refine ⟨?_, h2, ?_⟩
    · unfold Ytdjpkgaicmklmaa.bad2; rw [hid 1 h2 (by omega)]
      have := hidi; rw [h0] at this; rw [h0, this]; simp [hne]
    · intro j hj; unfold Ytdjpkgaicmklmaa.bad2; rw [show j = 0 by omega]; simp
  · rw [if_neg h0]
    refine ⟨?_, hi, ?_⟩
    · unfold Ytdjpkgaicmklmaa.bad2; rw [hidi, hid 0 (by omega) (fun e => h0 e.symm)]; simp [hne.symm]
    · intro j hj; unfold Ytdjpkgaicmklmaa.bad2; rw [hid j (by omega) (by omega), hid 0 (by omega) (fun e => h0 e.symm)]; simp

/-- Some bits turned over within 32 consecutive ones: no volume any more. -/
theorem vol_torn {i n : Nat} {s : Nat} {p v : List UInt8} (a e e' c : List Bool) (hs : allBits (volB i n s p) = a ++ e ++ c) (ht : allBits v = a ++ e' ++ c)
    (hl : e.length = e'.length) (h32 : e.length ≤ 32) (hne : e ≠ e') : volOk v = false := by
  cases hv : volOk v with
  | false => rfl
  | true =>
    exfalso
    simp only [volOk, Bool.and_eq_true, decide_eq_true_eq, beq_iff_eq] at hv
    obtain ⟨⟨⟨h14, _⟩, _⟩, hsum⟩ := hv
    have hv2 : v = v.take (v.length - 4) ++ fourI (crc pSum (v.take (v.length - 4))) := by
      rw [hsum, List.take_append_drop]
    rw [hv2] at ht
    exact hne (torn pSum_lt pSum_odd _ _ a e e' c hs ht hl h32)
end Go.Proofs.Ytdjpkgaicmklmaa

