/- The reference's bits of bytes, walked. -/
import Derived.Test.YtmafnghokmcijaaL
import Derived.Test.YtmafnghokmcijaaV
namespace Go.Proofs.Ytmafnghokmcijaa
open Go.RowKit

set_option maxRecDepth 100000 in
set_option maxHeartbeats 2000000 in
theorem bits_any (s : List UInt8) (w : World) (hs : s.length ≤ 8796093022208) :
    Calls Try.prog 98 #[.string (str s)] w fun e w' => ∃ ad cap, e = .returned (.slice ad (8 * s.length) cap) ∧ Vec w' w.heap.size 4 1 ad (8 * s.length) cap ((allBits s).map Value.bool) ∧ Below w.heap.size w w' := by
  have hz := str_size s
  have HZ : Hid ((str s).size = s.length) := hz
  clear hz
  have hs2 : (str s).size ≤ 8796093022208 := by rw [HZ.out]; exact hs
  go_enter Try.func98, Try.ntmps98
  go_wp2
  go_loopw [3, 4, 5] (fun v u _ wr => ∃ (i : Nat) (ad : Option Addr) (cap N : Nat), i ≤ (str s).size ∧ u = .int .i64 i ∧ v = .slice ad N cap ∧ N = 8 * i ∧ Vec wr w.heap.size 4 1 ad N cap ((allBits (s.take i)).map Value.bool) ∧ Below w.heap.size w wr) (fun _ u _ _ => (str s).size - (intOf u).toNat)
  case atStart => exact ⟨0, none, 0, 0, Nat.zero_le _, rfl, rfl, rfl, Vec.nil _ _ _ _, Below.refl _ _⟩
  case round =>
    obtain ⟨i, ad, cap, N, hi, rfl, rfl, hN, hv, hb⟩ := hrel
    have HN : Hid (N = 8 * i) := hN
    clear hN
    by_cases hlt : i < (str s).size
    · have hlt2 : i < s.length := by rw [← HZ.out]; exact hlt
      have hd1 : decide ((i : Int) < ((str s).size : Int)) = true := by simp; omega
      go_wp2
      go_loopw [3, 5] (fun v u wr => ∃ (j : Nat) (ad : Option Addr) (cap M : Nat), j ≤ 8 ∧ u = .int .i64 (7 - (j : Int)) ∧ v = .slice ad M cap ∧ M = N + j ∧ Vec wr w.heap.size 4 1 ad M cap ((allBits (s.take i) ++ (bitsOf s[i]).take j).map Value.bool) ∧ Below w.heap.size w wr) (fun _ u _ => (intOf u + 1).toNat)
      case atStart => exact ⟨0, ad, cap, N, Nat.zero_le _, rfl, rfl, rfl, by simpa using hv, hb⟩
      case round =>
        clear hv hb
        obtain ⟨j, ad, cap, M, hj, rfl, rfl, hM, hv, hb⟩ := hrel
        have HM : Hid (M = N + j) := hM
        have hMb : M ≤ 70368744177664 + 8 := by have := HN.out; omega
        clear hM
        by_cases hjt : j < 8
        · have hz := hb.size
          have ew : wrap64 (((str s)[i]'hlt).toNat : Int) = ((s[i].toNat : Nat) : Int) := by
            have h8 := (s[i]).toNat_lt
            have e0 : ((str s)[i]'hlt).toNat = s[i].toNat := rfl
            rw [e0]; unfold wrap64; omega
          have h8 := (s[i]).toNat_lt
          have eb : (bits BinOp.and IntKind.i64 (wrap64 (((str s)[i]'hlt).toNat : Int) / 2 ^ (7 - j)) 1 == 1) = s[i].toNat.testBit (7 - j) := by
            rw [ew, bit_test _ _ (by omega)]
          have EB : Hid ((bits BinOp.and IntKind.i64 (wrap64 (((str s)[i]'hlt).toNat : Int) / 2 ^ (7 - j)) 1 == 1) = s[i].toNat.testBit (7 - j)) := eb
          clear eb ew h8
          go_wp2_with (at_builtin; rw [EB.out]; refine wpList_push (by rfl) _ _ 120 (by rfl) w.heap.size 4 1 1 (.bool false) Try.underlying120 (by kernel_rfl) rfl (by decide) ad M cap _ (by rfl) (hv.keep ((Below.refl _ _).alloc (Nat.le_refl _) _)) _ _ [.bool (s[i].toNat.testBit (7 - j))] (by rfl) rfl ?_ ?_ ?_ ?_ ?_ ?_; exact new_cells _ _ _; (simp [Value.oneCell']); (omega); (omega); (simp; omega); intro ad' cap' w' hv' hb' hs')
          have hb2 : Below w.heap.size w w' := hb.trans (((Below.refl _ wr).alloc (Nat.le_refl _) _).mono hz |>.trans hb')
          have hv2 : Vec w' w.heap.size 4 1 ad' (M + 1) cap' ((allBits (s.take i) ++ (bitsOf s[i]).take (j + 1)).map Value.bool) := by
            rw [bitsOf_take _ _ hjt]; simpa using hv'
          go_roundw
          case rel => exact ⟨j + 1, ad', cap', M + 1, by omega, by go_num, rfl, by have := HM.out; omega, hv2, hb2⟩
          case measure => simp [intOf]; omega
        · have e1 : j = 8 := by omega
          have e2 : M = 8 * (i + 1) := by have := HM.out; have := HN.out; omega
          have hv2 : Vec wr w.heap.size 4 1 ad M cap ((allBits (s.take (i + 1))).map Value.bool) := by
            have h := hv
            rw [e1, show (bitsOf s[i]).take 8 = bitsOf s[i] from rfl] at h
            rw [List.take_succ_eq_append_getElem hlt2, allBits_append, allBits_one]; exact h
          have E2 : Hid (M = 8 * (i + 1)) := e2
          clear e1 e2 hv
          go_wp2_with fail
          go_roundw
          case rel => exact ⟨i + 1, ad, cap, M, by omega, by go_num, rfl, E2.out, hv2, hb⟩
          case measure => simp [intOf]; omega
    · have e1 : i = s.length := by rw [← HZ.out]; omega
      have e2 : N = 8 * s.length := by have := HN.out; omega
      have hv2 : Vec wr w.heap.size 4 1 ad (8 * s.length) cap ((allBits s).map Value.bool) := by
        have h := hv
        rw [e1, List.take_of_length_le (Nat.le_refl _), e2] at h; exact h
      have E2 : Hid (N = 8 * s.length) := e2
      clear e1 e2 hv HN
      go_wp2_with fail
      rw [E2.out]
      go_ret
      exact ⟨ad, cap, rfl, hv2, hb⟩
end Go.Proofs.Ytmafnghokmcijaa
