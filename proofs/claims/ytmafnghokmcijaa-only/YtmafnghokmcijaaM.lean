/- The program's bytes: oneByte, FourBytes, goneByte, Number, walked. -/
import Derived.Test.YtmafnghokmcijaaV
namespace Go.Proofs.Ytmafnghokmcijaa
open Go.RowKit

theorem ret_str {a b : List UInt8} (h : a = b) : Ending.returned (.string (str a)) = .returned (.string (str b)) := by rw [h]

set_option maxRecDepth 100000 in
set_option maxHeartbeats 1000000 in
theorem oneByte_any (n : Int) (w : World) (h0 : 0 ≤ n) (h1 : n ≤ 255) :
    Calls Try.prog 81 #[.int .i64 n] w fun e w' => e = .returned (.string (str [byt n])) ∧ Below w.heap.size w w' := by
  go_enter Try.func81, Try.ntmps81
  go_wp2_with (refine wpList_toString (by rfl) 110 9 5 _ (by rfl) Try.underlying110 Try.underlying5 Try.underlying9 _ _ _ (by rfl) [n] rfl ?_ ?_; exact new_cells _ _ _)
  go_ret
  exact ⟨rfl, (Below.refl _ _).alloc (Nat.le_refl _) _⟩

/-- A sum as bytes. -/
def fourI (n : Int) : List UInt8 := [byt (n / 16777216), byt (n / 65536 % 256), byt (n / 256 % 256), byt (n % 256)]

set_option maxRecDepth 100000 in
set_option maxHeartbeats 1000000 in
theorem fourBytes_any (n : Int) (w : World) (h0 : 0 ≤ n) (h1 : n ≤ 4294967295) :
    Calls Try.prog 59 #[.int .i64 n] w fun e w' => e = .returned (.string (str (fourI n))) ∧ Below w.heap.size w w' := by
  go_enter Try.func59, Try.ntmps59
  go_wp2_with (refine wpList_toString (by rfl) 110 9 5 _ (by rfl) Try.underlying110 Try.underlying5 Try.underlying9 _ _ _ (by rfl) [n / 16777216, n / 65536 % 256, n / 256 % 256, n % 256] rfl ?_ ?_; exact new_cells _ _ _)
  go_ret
  exact ⟨rfl, (Below.refl _ _).alloc (Nat.le_refl _) _⟩

set_option maxRecDepth 100000 in
set_option maxHeartbeats 1000000 in
theorem rfour_any (n : Int) (w : World) (h0 : 0 ≤ n) (h1 : n ≤ 4294967295) :
    Calls Try.prog 63 #[.int .i64 n] w fun e w' => e = .returned (.string (str (fourI n))) ∧ Below w.heap.size w w' := by
  go_enter Try.func63, Try.ntmps63
  go_wp2_with (refine wpList_toString (by rfl) 110 9 5 _ (by rfl) Try.underlying110 Try.underlying5 Try.underlying9 _ _ _ (by rfl) [n / 16777216, n / 65536 % 256, n / 256 % 256, n % 256] rfl ?_ ?_; exact new_cells _ _ _)
  go_ret
  exact ⟨rfl, (Below.refl _ _).alloc (Nat.le_refl _) _⟩

theorem goneByte_any (b : Bool) (w : World) :
    Calls Try.prog 95 #[.bool b] w fun e w' => e = .returned (.string (str [if b then 1 else 0])) ∧ Below w.heap.size w w' := by
  cases b
  · go_enter Try.func95, Try.ntmps95
    go_wp2_with (go_at_call 81; refine (oneByte_any _ _ (by decide) (by decide)).mono ?_; rintro e w' ⟨rfl, hb⟩)
    go_ret
    exact ⟨rfl, hb⟩
  · go_enter Try.func95, Try.ntmps95
    go_wp2_with (go_at_call 81; refine (oneByte_any _ _ (by decide) (by decide)).mono ?_; rintro e w' ⟨rfl, hb⟩)
    go_ret
    exact ⟨rfl, hb⟩

/-- A number's bytes, by at most so many steps. -/
def numI : Nat → Int → List Int
  | 0, n => [n]
  | k + 1, n => if n < 128 then [n] else (n % 128 + 128) :: numI k (n / 128)
def numB (n : Int) : List UInt8 := (numI 9 n).map byt

theorem numI_small (k : Nat) (n : Int) (h : n < 128) : numI k n = [n] := by
  cases k with
  | zero => rfl
  | succ k => simp [numI, h]
theorem numI_length : ∀ (k : Nat) (n : Int), (numI k n).length ≤ k + 1
  | 0, n => by simp [numI]
  | k + 1, n => by
    simp only [numI]; split
    · simp
    · have := numI_length k (n / 128); simp; omega

set_option maxRecDepth 100000 in
set_option maxHeartbeats 2000000 in
theorem number_any (n : Int) (w : World) (h0 : 0 ≤ n) (h1 : n ≤ 9223372036854775807) :
    Calls Try.prog 94 #[.int .i64 n] w fun e w' => e = .returned (.string (str (numB n))) ∧ Below w.heap.size w w' := by
  go_enter Try.func94, Try.ntmps94
  go_wp2
  go_loopw [0, 3] (fun v u wr => ∃ (k : Nat) (y : Int) (ad : Option Addr) (cap : Nat) (ns : List Int) (N : Nat), v = .int .i64 y ∧ u = .slice ad N cap ∧ 0 ≤ y ∧ y ≤ 9223372036854775807 ∧ y < 128 ^ (k + 1) ∧ ns ++ numI k y = numI 9 n ∧ N + k = 9 ∧
      Vec wr w.heap.size 5 1 ad N cap (ns.map (Value.int .u8)) ∧ Below w.heap.size w wr) (fun v _ _ => (intOf v).toNat)
  case atStart => exact ⟨9, n, _, 0, [], 0, rfl, rfl, h0, h1, by omega, rfl, rfl, Vec.lit w _ _ _ 0 [] (Nat.le_refl _) (by omega) (by simp), (Below.refl _ _).alloc (Nat.le_refl _) _⟩
  case round =>
    obtain ⟨k, y, ad, cap, ns, N, rfl, rfl, y0, y1, hy, hns, hk, hv, hb⟩ := hrel
    have HY : Hid (y < 128 ^ (k + 1)) := hy
    have HN : Hid (ns ++ numI k y = numI 9 n) := hns
    have HK : Hid (N + k = 9) := hk
    have hN : N ≤ 9 := by omega
    have hz := hb.size
    clear hy hns hk
    by_cases hlt : 128 ≤ y
    · go_wp2_with (at_builtin; refine wpList_push (by rfl) _ _ 110 (by rfl) w.heap.size 5 1 1 (.int .u8 0) Try.underlying110 (by kernel_rfl) rfl (by decide) ad N cap _ (by rfl) (hv.keep ((Below.refl _ _).alloc (Nat.le_refl _) _)) _ _ [.int .u8 (y % 128 + 128)] (by rfl) rfl ?_ ?_ ?_ ?_ ?_ ?_; exact new_cells _ _ _; (simp [Value.oneCell']); (omega); (omega); (simp; omega); intro ad' cap' w' hv' hb' hs')
      have hb2 : Below w.heap.size w w' := hb.trans (((Below.refl _ wr).alloc (Nat.le_refl _) _).mono hz |>.trans hb')
      have hk1 : ∃ j, k = j + 1 := by
        rcases k with _ | j
        · have := HY.out; simp at this; omega
        · exact ⟨j, rfl⟩
      obtain ⟨j, rfl⟩ := hk1
      have e1 : numI (j + 1) y = (y % 128 + 128) :: numI j (y / 128) := by simp only [numI]; rw [if_neg (by omega)]
      have e2 : ns ++ [y % 128 + 128] ++ numI j (y / 128) = numI 9 n := by rw [← HN.out, e1]; simp
      have e3 : y / 128 < 128 ^ (j + 1) := by
        have h := HY.out
        rw [Int.pow_succ] at h
        exact Int.ediv_lt_of_lt_mul (by omega) h
      have e4 : N + 1 + j = 9 := by have := HK.out; omega
      go_roundw
      case rel => exact ⟨j, y / 128, ad', cap', ns ++ [y % 128 + 128], N + 1, rfl, rfl, by omega, by omega, e3, e2, e4, by simpa using hv', hb2⟩
      case measure => simp [intOf]; omega
    · go_wp2_with (first
        | (at_builtin; refine wpList_push (by rfl) _ _ 110 (by rfl) w.heap.size 5 1 1 (.int .u8 0) Try.underlying110 (by kernel_rfl) rfl (by decide) ad N cap _ (by rfl) (hv.keep ((Below.refl _ _).alloc (Nat.le_refl _) _)) _ _ [.int .u8 y] (by rfl) rfl ?_ ?_ ?_ ?_ ?_ ?_; exact new_cells _ _ _; (simp [Value.oneCell']); (omega); (omega); (simp; omega); intro ad' cap' w' hv' hb' hs'; have hv2 : Vec w' w.heap.size 5 1 ad' (N + 1) cap' ((ns ++ [y]).map (Value.int .u8)) := (by simpa using hv'); clear hv')
        | (refine wpList_toString_vec (by rfl) 110 9 5 _ (by rfl) Try.underlying110 Try.underlying5 Try.underlying9 w.heap.size (N + 1) cap' ad' (by rfl) (ns ++ [y]) hv2 ?_ ?_; (omega)))
      have hb2 : Below w.heap.size w w' := hb.trans (((Below.refl _ wr).alloc (Nat.le_refl _) _).mono hz |>.trans hb')
      have e1 : ns ++ [y] = numI 9 n := by rw [← HN.out, numI_small k y (by omega)]
      go_ret
      exact ⟨ret_str (by unfold numB; rw [← e1]; simp), hb2⟩
end Go.Proofs.Ytmafnghokmcijaa
