/- sound.notRising, walked. -/
import Derived.Test.YtmafnghokmcijaaB
namespace Go.Proofs.Ytmafnghokmcijaa
open Go.RowKit

set_option maxHeartbeats 2000000 in
theorem notRising_any (R : Rep) (a1 a2 a3 : Option Addr) (k1 k2 k3 : Nat) (w : World) (hR : Has w R a1 a2 a3) :
    Calls Try.prog 52 #[repV R a1 a2 a3 k1 k2 k3] w fun e w' => e = .returned (.bool R.risB) ∧ Below w.heap.size w w' := by
  have b1 := hR.b1; have b2 := hR.b2; have b3 := hR.b3
  go_enter Try.func52, Try.ntmps52
  go_wp2
  go_loopw [3] (fun i wr => ∃ k : Nat, k ≤ R.n1 - 1 ∧ i = .int .i64 ((k : Int) + 1) ∧ anyTo R.ris1 k = false ∧ BoxR w R a1 a2 a3 k1 k2 k3 wr) (fun i _ => R.n1 - (intOf i).toNat)
  case atStart => exact ⟨0, Nat.zero_le _, rfl, rfl, Below.refl _ _⟩
  case round =>
    obtain ⟨k, hk, rfl, hno, hb⟩ := hrel
    obtain ⟨x1, x2, x3⟩ := box3 hb
    have HN : Hid (anyTo R.ris1 k = false) := hno
    clear hno
    by_cases hlt : k + 1 < R.n1
    · obtain ⟨b, o, hbl, hix, hs, -⟩ := (hR.below (below_box hb)).l1.clock k1 (show k < R.n1 by omega)
      obtain ⟨b', o', hbl', hix', hs', -⟩ := (hR.below (below_box hb)).l1.clock k1 hlt
      rw [show ((k + 1 : Nat) : Int) = (k : Int) + 1 from by omega] at hix'
      go_wp2
      go_quiet (fail)
      go_wp2
      · have hp : R.ris1 k = true := by unfold Rep.ris1; simp [‹(R.c (k + 1)).site ≤ (R.c k).site›]
        go_ret
        exact ⟨ret_bool (by simp [Rep.risB, anyTo_hit (show k < R.n1 - 1 by omega) hp]), below_drewN (below_box hb) _⟩
      · have hp : R.ris1 k = false := by
          have h1 : (R.c k).site < (R.c (k + 1)).site := by assumption
          unfold Rep.ris1; simp; omega
        go_roundw
        case rel => exact ⟨k + 1, by omega, by go_num, anyTo_no HN.out hp, below_drewN hb _⟩
        case measure => simp [intOf]; omega
    · have e1 : k = R.n1 - 1 := by omega
      have N1 : Hid (anyTo R.ris1 (R.n1 - 1) = false) := e1 ▸ HN.out
      clear HN e1
      go_wp2
      go_loopw [4] (fun i wr => ∃ k : Nat, k ≤ R.n2 - 1 ∧ i = .int .i64 ((k : Int) + 1) ∧ anyTo R.ris2 k = false ∧ BoxR w R a1 a2 a3 k1 k2 k3 wr) (fun i _ => R.n2 - (intOf i).toNat)
      case atStart => exact ⟨0, Nat.zero_le _, rfl, rfl, hb⟩
      case round =>
        clear x1 x2 x3 hb hk hlt
        obtain ⟨k, hk, rfl, hno, hb⟩ := hrel
        obtain ⟨x1, x2, x3⟩ := box3 hb
        have HN : Hid (anyTo R.ris2 k = false) := hno
        clear hno
        by_cases hlt : k + 1 < R.n2
        · obtain ⟨b, o, hbl, hix, hs, -, -, -, -⟩ := (hR.below (below_box hb)).l2.card k2 (show k < R.n2 by omega)
          obtain ⟨b', o', hbl', hix', hs', -, -, -, -⟩ := (hR.below (below_box hb)).l2.card k2 hlt
          rw [show ((k + 1 : Nat) : Int) = (k : Int) + 1 from by omega] at hix'
          go_wp2
          go_quiet (fail)
          go_wp2
          · have hp : R.ris2 k = true := by unfold Rep.ris2; simp [‹(R.d (k + 1)).id ≤ (R.d k).id›]
            go_ret
            exact ⟨ret_bool (by simp [Rep.risB, anyTo_hit (show k < R.n2 - 1 by omega) hp]), below_drewN (below_box hb) _⟩
          · have hp : R.ris2 k = false := by
              have h1 : (R.d k).id < (R.d (k + 1)).id := by assumption
              unfold Rep.ris2; simp; omega
            go_roundw
            case rel => exact ⟨k + 1, by omega, by go_num, anyTo_no HN.out hp, below_drewN hb _⟩
            case measure => simp [intOf]; omega
        · have e1 : k = R.n2 - 1 := by omega
          have N2 : Hid (anyTo R.ris2 (R.n2 - 1) = false) := e1 ▸ HN.out
          clear HN e1
          go_wp2
          go_ret
          exact ⟨ret_bool (by simp [Rep.risB, N1.out, N2.out]), below_box hb⟩

end Go.Proofs.Ytmafnghokmcijaa
