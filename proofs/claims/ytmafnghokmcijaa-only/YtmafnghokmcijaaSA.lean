/- The small functions of package parcelkeep, walked. -/
import Derived.Test.YtmafnghokmcijaaB
import Derived.Test.YtmafnghokmcijaaV2
import Derived.Test.YtmafnghokmcijaaBCl
namespace Go.Proofs.Ytmafnghokmcijaa
open Go.RowKit

/-- An int as it may be. -/
def I64 (n : Int) : Prop := -9223372036854775808 ≤ n ∧ n ≤ 9223372036854775807

/-- Which of n things. -/
def pickI (c n : Int) : Int := (if c < 0 then -(c + 1) else c) % n
theorem pickI_lt (c n : Int) (h : 0 < n) : 0 ≤ pickI c n ∧ pickI c n < n := ⟨Int.emod_nonneg _ (by omega), Int.emod_lt_of_pos _ h⟩

set_option maxHeartbeats 1000000 in
theorem pick_any (c n : Int) (w : World) (hc : I64 c) (hn : 0 < n) (hn2 : n ≤ 9223372036854775807) :
    Calls Try.prog 22 #[.int .i64 c, .int .i64 n] w fun e w' => e = .returned (.int .i64 (pickI c n)) ∧ w' = w := by
  obtain ⟨c1, c2⟩ := hc
  have hz : (n == 0) = false := by simp; omega
  by_cases h : c < 0
  · have E : Hid (pickI c n = (-(c + 1)) % n) := by show _ = _; unfold pickI; rw [if_pos h]
    go_enter Try.func22, Try.ntmps22
    go_wp2
    go_ret
    refine ⟨ret_int ?_, rfl⟩
    rw [E.out, ← Int.neg_tmod, Int.tmod_eq_emod_of_nonneg (by omega)]
  · have E : Hid (pickI c n = c % n) := by show _ = _; unfold pickI; rw [if_neg h]
    go_enter Try.func22, Try.ntmps22
    go_wp2
    go_ret
    exact ⟨ret_int E.out.symm, rfl⟩

/-- A list of ints in memory. -/
abbrev iCells (f : Nat → Int) : Nat → List Value := fun i => [.int .i64 (f i)]
theorem Lies.int {w : World} {a : Option Addr} {n : Nat} {f : Nat → Int} (h : Lies w a n 1 (iCells f)) (cap : Nat) {k : Nat} (hk : k < n) (N : Int) (hN : N = (k : Int)) :
    ∃ b o, b < w.heap.size ∧ (∀ w', (Instr.indexAt 45 (.slice a n cap) (.int .i64 N)).run Try.prog w' = .ok (.pointer (some ⟨b, o, none⟩)) w') ∧ w.cell? ⟨b, o, none⟩ = some (.int .i64 (f k)) := by
  subst hN
  obtain ⟨b, o, hb, hi, hc⟩ := h.at cap (P := Try.prog) (t := 45) (by kernel_rfl) (by kernel_rfl) hk
  exact ⟨b, o, hb, hi, hc 0 _ (by omega) rfl⟩

/-- How many writes are seen. -/
def seenI (n : Nat) (f : Nat → Int) (k : Nat) : Int := if k < n then pickI (f k) 60 else 0

set_option maxHeartbeats 1000000 in
theorem seen_any (a : Option Addr) (n cap : Nat) (f : Nat → Int) (k : Nat) (w : World) (hL : Lies w a n 1 (iCells f)) (hf : ∀ i, i < n → I64 (f i)) :
    Calls Try.prog 42 #[.slice a n cap, .int .i64 (k : Int)] w fun e w' => e = .returned (.int .i64 (seenI n f k)) ∧ w' = w := by
  by_cases h : k < n
  · have E : Hid (seenI n f k = pickI (f k) 60) := by show _ = _; unfold seenI; rw [if_pos h]
    have hw := hf k h
    obtain ⟨b, o, hb, hix, hc⟩ := hL.int cap h (k : Int) rfl
    go_enter Try.func42, Try.ntmps42
    go_wp2_with fail
    refine (pick_any _ 60 _ hw (by decide) (by decide)).mono ?_
    rintro e w' ⟨rfl, rfl⟩
    go_wp2_with fail
    go_ret
    exact ⟨ret_int E.out.symm, rfl⟩
  · have E : Hid (seenI n f k = 0) := by show _ = _; unfold seenI; rw [if_neg h]
    go_enter Try.func42, Try.ntmps42
    go_wp2_with fail
    go_ret
    exact ⟨ret_int E.out.symm, rfl⟩

/-- The twelve cards' numbers, the eight sites'. -/
def numL : List Int := [1, 2, 3, 4, 5, 6, 127, 128, 16384, 1099511627776, 4611686018427387903, 4611686018427387904]
def siteL : List Int := [1, 2, 3, 20, 30, 40, 127, 200]
def numOf (k : Int) : Int := numL.getD (pickI k 12).toNat 0
def siteOf (k : Int) : Int := siteL.getD (pickI k 8).toNat 0

/-- The lists that number and site make. -/
def numO : Obj := .cells #[Value.int .i64 1, .int .i64 2, .int .i64 3, .int .i64 4, .int .i64 5, .int .i64 6, .int .i64 127, .int .i64 128, .int .i64 16384, .int .i64 1099511627776, .int .i64 4611686018427387903, .int .i64 4611686018427387904] 3
def siteO : Obj := .cells #[Value.int .i64 1, .int .i64 2, .int .i64 3, .int .i64 20, .int .i64 30, .int .i64 40, .int .i64 127, .int .i64 200] 3

set_option maxRecDepth 100000 in
set_option maxHeartbeats 2000000 in
theorem number_keep (k : Int) (w : World) (hk : I64 k) :
    Calls Try.prog 43 #[.int .i64 k] w fun e w' => e = .returned (.int .i64 (numOf k)) ∧ w' = w.alloc numO := by
  obtain ⟨q0, q1⟩ := pickI_lt k 12 (by decide)
  obtain ⟨p, hp⟩ : ∃ p : Nat, pickI k 12 = (p : Int) := ⟨(pickI k 12).toNat, by omega⟩
  have hp12 : p < 12 := by omega
  have E : Hid (numOf k = numL.getD p 0) := by show _ = _; unfold numOf; rw [hp]; rfl
  have hc : ∀ j, j < 12 → (#[Value.int .i64 1, .int .i64 2, .int .i64 3, .int .i64 4, .int .i64 5, .int .i64 6, .int .i64 127, .int .i64 128, .int .i64 16384, .int .i64 1099511627776, .int .i64 4611686018427387903, .int .i64 4611686018427387904] : Array Value)[j]? = some (.int .i64 (numL.getD j 0)) := by
    intro j hj
    have : j = 0 ∨ j = 1 ∨ j = 2 ∨ j = 3 ∨ j = 4 ∨ j = 5 ∨ j = 6 ∨ j = 7 ∨ j = 8 ∨ j = 9 ∨ j = 10 ∨ j = 11 := by omega
    rcases this with rfl | rfl | rfl | rfl | rfl | rfl | rfl | rfl | rfl | rfl | rfl | rfl <;> rfl
  have hcp := hc p hp12
  have hcell : (w.alloc (.cells #[Value.int .i64 1, .int .i64 2, .int .i64 3, .int .i64 4, .int .i64 5, .int .i64 6, .int .i64 127, .int .i64 128, .int .i64 16384, .int .i64 1099511627776, .int .i64 4611686018427387903, .int .i64 4611686018427387904] 3)).cell? ⟨w.heap.size, p, none⟩ = some (.int .i64 (numL.getD p 0)) := by
    rw [World.cell?_alloc_new]; exact hcp
  generalize numL.getD p 0 = R at *
  clear hc hcp
  go_enter Try.func43, Try.ntmps43
  go_wp2_with fail
  refine (pick_any k 12 _ hk (by decide) (by decide)).mono ?_
  rintro e w' ⟨rfl, rfl⟩
  rw [hp]
  clear hp
  go_wp2_with fail
  go_ret
  exact ⟨ret_int E.out.symm, rfl⟩

set_option maxRecDepth 100000 in
set_option maxHeartbeats 2000000 in
theorem site_keep (k : Int) (w : World) (hk : I64 k) :
    Calls Try.prog 44 #[.int .i64 k] w fun e w' => e = .returned (.int .i64 (siteOf k)) ∧ w' = w.alloc siteO := by
  obtain ⟨q0, q1⟩ := pickI_lt k 8 (by decide)
  obtain ⟨p, hp⟩ : ∃ p : Nat, pickI k 8 = (p : Int) := ⟨(pickI k 8).toNat, by omega⟩
  have hp12 : p < 8 := by omega
  have E : Hid (siteOf k = siteL.getD p 0) := by show _ = _; unfold siteOf; rw [hp]; rfl
  have hc : ∀ j, j < 8 → (#[Value.int .i64 1, .int .i64 2, .int .i64 3, .int .i64 20, .int .i64 30, .int .i64 40, .int .i64 127, .int .i64 200] : Array Value)[j]? = some (.int .i64 (siteL.getD j 0)) := by
    intro j hj
    have : j = 0 ∨ j = 1 ∨ j = 2 ∨ j = 3 ∨ j = 4 ∨ j = 5 ∨ j = 6 ∨ j = 7 := by omega
    rcases this with rfl | rfl | rfl | rfl | rfl | rfl | rfl | rfl <;> rfl
  have hcp := hc p hp12
  have hcell : (w.alloc (.cells #[Value.int .i64 1, .int .i64 2, .int .i64 3, .int .i64 20, .int .i64 30, .int .i64 40, .int .i64 127, .int .i64 200] 3)).cell? ⟨w.heap.size, p, none⟩ = some (.int .i64 (siteL.getD p 0)) := by
    rw [World.cell?_alloc_new]; exact hcp
  generalize siteL.getD p 0 = R at *
  clear hc hcp
  go_enter Try.func44, Try.ntmps44
  go_wp2_with fail
  refine (pick_any k 8 _ hk (by decide) (by decide)).mono ?_
  rintro e w' ⟨rfl, rfl⟩
  rw [hp]
  clear hp
  go_wp2_with fail
  go_ret
  exact ⟨ret_int E.out.symm, rfl⟩

/-- The first bytes of a text. -/
def cutB (t : ByteArray) : ByteArray := if 60 < t.size then t.extract 0 60 else t
theorem cutB_size (t : ByteArray) : (cutB t).size ≤ 60 := by
  unfold cutB; split
  · rw [ByteArray.size_extract]; omega
  · omega

set_option maxHeartbeats 1000000 in
theorem cut_any (t : ByteArray) (w : World) :
    Calls Try.prog 45 #[.string t] w fun e w' => e = .returned (.string (cutB t)) ∧ w' = w := by
  by_cases h : 60 < t.size
  · have E : Hid (cutB t = t.extract 0 60) := by show _ = _; unfold cutB; rw [if_pos h]
    have h2 : (60 : Int) < (t.size : Int) := by omega
    have h3 : (60 : Int) ≤ (t.size : Int) := by omega
    go_enter Try.func45, Try.ntmps45
    go_wp2
    go_ret
    exact ⟨by rw [E.out]; rfl, rfl⟩
  · have E : Hid (cutB t = t) := by show _ = _; unfold cutB; rw [if_neg h]
    go_enter Try.func45, Try.ntmps45
    go_wp2
    go_ret
    exact ⟨by rw [E.out]; rfl, rfl⟩

set_option maxHeartbeats 1000000 in
theorem first_any (a : Option Addr) (n cap : Nat) (w : World) (hc : n ≤ cap) :
    Calls Try.prog 41 #[.slice a n cap] w fun e w' => e = .returned (.slice a (min n 40) cap) ∧ w' = w := by
  by_cases h : 40 < n
  · have E : Hid (min n 40 = 40) := by show _ = _; omega
    have h3 : (40 : Int) ≤ (cap : Int) := by omega
    go_enter Try.func41, Try.ntmps41
    go_wp2
    go_ret
    exact ⟨by rw [E.out]; rfl, rfl⟩
  · have E : Hid (min n 40 = n) := by show _ = _; omega
    go_enter Try.func41, Try.ntmps41
    go_wp2
    go_ret
    exact ⟨by rw [E.out]; rfl, rfl⟩

def laterB (x y : Cd) : Bool := decide (y.count < x.count) || (x.count == y.count && decide (y.site < x.site))

set_option maxHeartbeats 2000000 in
theorem later_any (x y : Cd) (w : World) :
    Calls Try.prog 71 #[cdV x, cdV y] w fun e w' => e = .returned (.bool (laterB x y)) ∧ Below w.heap.size w w' := by
  go_enter Try.func71, Try.ntmps71
  go_wp2
  all_goals (go_ret; refine ⟨ret_bool ?_, ((Below.refl _ _).alloc (Nat.le_refl _) _).alloc (by simp) _⟩; unfold laterB; rw [Bool.eq_iff_iff]; simp; try omega)
end Go.Proofs.Ytmafnghokmcijaa
