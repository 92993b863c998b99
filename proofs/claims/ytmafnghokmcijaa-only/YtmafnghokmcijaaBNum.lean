/- sound.wrongNumber, walked. -/
import Derived.Test.YtmafnghokmcijaaB
namespace Go.Proofs.Ytmafnghokmcijaa
open Go.RowKit

set_option maxHeartbeats 2000000 in
theorem wrongNumber_any (R : Rep) (a1 a2 a3 : Option Addr) (k1 k2 k3 : Nat) (w : World) (hR : Has w R a1 a2 a3) :
    Calls Try.prog 50 #[repV R a1 a2 a3 k1 k2 k3] w fun e w' => e = .returned (.bool R.numB) ∧ Below w.heap.size w w' := by
  have b1 := hR.b1; have b2 := hR.b2; have b3 := hR.b3
  go_enter Try.func50, Try.ntmps50
  go_wp2
  go_loopw [3] (fun i wr => ∃ k : Nat, k ≤ R.n1 ∧ i = .int .i64 k ∧ anyTo R.num1 k = false ∧ BoxR w R a1 a2 a3 k1 k2 k3 wr) (fun i _ => R.n1 - (intOf i).toNat)
  case atStart => exact ⟨0, Nat.zero_le _, rfl, rfl, Below.refl _ _⟩
  case round =>
    obtain ⟨k, hk, rfl, hno, hb⟩ := hrel
    obtain ⟨x1, x2, x3⟩ := box3 hb
    have HN : Hid (anyTo R.num1 k = false) := hno
    clear hno
    by_cases hlt : k < R.n1
    · obtain ⟨b, o, hbl, hix, hs, hc⟩ := (hR.below (below_box hb)).l1.clock k1 hlt
      go_wp2
      go_quiet ((go_at_call 73; exact Calls.quiet_of_same (wrongSiteOrCount_any _ _ _)))
      go_wp2
      · have hp : R.num1 k = true := by unfold Rep.num1; assumption
        go_ret
        exact ⟨ret_bool (by simp [Rep.numB, anyTo_hit hlt hp]), below_drewN (below_box hb) _⟩
      · have hp : R.num1 k = false := by unfold Rep.num1; assumption
        go_roundw
        case rel => exact ⟨k + 1, by omega, by go_num, anyTo_no HN.out hp, below_drewN hb _⟩
        case measure => simp [intOf]; omega
    · have e1 : k = R.n1 := by omega
      have N1 : Hid (anyTo R.num1 R.n1 = false) := e1 ▸ HN.out
      clear HN e1
      go_wp2
      go_loopw [4] (fun i wr => ∃ k : Nat, k ≤ R.n2 ∧ i = .int .i64 k ∧ anyTo R.num2 k = false ∧ BoxR w R a1 a2 a3 k1 k2 k3 wr) (fun i _ => R.n2 - (intOf i).toNat)
      case atStart => exact ⟨0, Nat.zero_le _, rfl, rfl, hb⟩
      case round =>
        clear x1 x2 x3 hb hk
        obtain ⟨k, hk, rfl, hno, hb⟩ := hrel
        obtain ⟨x1, x2, x3⟩ := box3 hb
        have HN : Hid (anyTo R.num2 k = false) := hno
        clear hno
        by_cases hlt : k < R.n2
        · obtain ⟨b, o, hbl, hix, hi, hs, hc, -, -⟩ := (hR.below (below_box hb)).l2.card k2 hlt
          go_wp2
          go_quiet ((go_at_call 73; exact Calls.quiet_of_same (wrongSiteOrCount_any _ _ _)))
          go_wp2_with (go_at_call 74; refine (outOfRange_any _ _ _).mono ?_; rintro e w' ⟨rfl, rfl⟩)
          · have hp : R.num2 k = true := by unfold Rep.num2; simp [*]
            go_ret
            exact ⟨ret_bool (by simp [Rep.numB, anyTo_hit hlt hp]), below_drewN (below_box hb) _⟩
          · have hp : R.num2 k = true := by unfold Rep.num2; simp [*]
            go_ret
            exact ⟨ret_bool (by simp [Rep.numB, anyTo_hit hlt hp]), below_drewN (below_box hb) _⟩
          · have hp : R.num2 k = false := by unfold Rep.num2; simp [*]
            go_roundw
            case rel => exact ⟨k + 1, by omega, by go_num, anyTo_no HN.out hp, below_drewN hb _⟩
            case measure => simp [intOf]; omega
        · have e1 : k = R.n2 := by omega
          have N2 : Hid (anyTo R.num2 R.n2 = false) := e1 ▸ HN.out
          clear HN e1
          go_wp2
          go_loopw [5] (fun i wr => ∃ k : Nat, k ≤ R.n3 ∧ i = .int .i64 k ∧ anyTo R.num3 k = false ∧ BoxR w R a1 a2 a3 k1 k2 k3 wr) (fun i _ => R.n3 - (intOf i).toNat)
          case atStart => exact ⟨0, Nat.zero_le _, rfl, rfl, hb⟩
          case round =>
            clear x1 x2 x3 hb hk
            obtain ⟨k, hk, rfl, hno, hb⟩ := hrel
            obtain ⟨x1, x2, x3⟩ := box3 hb
            have HN : Hid (anyTo R.num3 k = false) := hno
            clear hno
            by_cases hlt : k < R.n3
            · obtain ⟨b, o, hbl, hix, hi, -⟩ := (hR.below (below_box hb)).l3.edit k3 hlt
              go_wp2_with (go_at_call 74; refine (outOfRange_any _ _ _).mono ?_; rintro e w' ⟨rfl, rfl⟩)
              · have hp : R.num3 k = true := by unfold Rep.num3; assumption
                go_ret
                exact ⟨ret_bool (by simp [Rep.numB, anyTo_hit hlt hp]), below_box hb⟩
              · have hp : R.num3 k = false := by unfold Rep.num3; assumption
                go_roundw
                case rel => exact ⟨k + 1, by omega, by go_num, anyTo_no HN.out hp, hb⟩
                case measure => simp [intOf]; omega
            · have e1 : k = R.n3 := by omega
              have N3 : Hid (anyTo R.num3 R.n3 = false) := e1 ▸ HN.out
              clear HN e1
              go_wp2
              go_ret
              exact ⟨ret_bool (by simp [Rep.numB, N1.out, N2.out, N3.out]), below_box hb⟩


end Go.Proofs.Ytmafnghokmcijaa
