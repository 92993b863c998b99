/- parcelref.Clocked, walked. -/
import Derived.Test.YtmafnghokmcijaaB
namespace Go.Proofs.Ytmafnghokmcijaa
open Go.RowKit

set_option maxHeartbeats 1000000 in
theorem clocked_any (R : Rep) (a1 a2 a3 : Option Addr) (k1 k2 k3 : Nat) (site : Int) (w : World) (hR : Has w R a1 a2 a3) :
    Calls Try.prog 28 #[repV R a1 a2 a3 k1 k2 k3, .int .i64 site] w fun e w' => e = .returned (.int .i64 (R.clk site)) ∧ Below w.heap.size w w' := by
  have b1 := hR.b1; have b2 := hR.b2; have b3 := hR.b3
  go_enter Try.func28, Try.ntmps28
  go_wp2
  go_loopw [5] (fun i wr => ∃ k : Nat, k ≤ R.n1 ∧ i = .int .i64 k ∧ clockTo R.c site k = none ∧ BoxR w R a1 a2 a3 k1 k2 k3 wr) (fun i _ => R.n1 - (intOf i).toNat)
  case atStart => exact ⟨0, Nat.zero_le _, rfl, rfl, Below.refl _ _⟩
  case round =>
    obtain ⟨k, hk, rfl, hno, hb⟩ := hrel
    obtain ⟨x1, x2, x3⟩ := box3 hb
    have HN : Hid (clockTo R.c site k = none) := hno
    clear hno
    by_cases hlt : k < R.n1
    · obtain ⟨b, o, hbl, hix, hs, hc⟩ := (hR.below (below_box hb)).l1.clock k1 hlt
      go_wp2
      · have hp : (R.c k).site = site := by simpa using ‹((R.c k).site == site) = true›
        go_ret
        exact ⟨ret_int (by unfold Rep.clk; rw [clockTo_hit hlt HN.out hp]; rfl), below_box hb⟩
      · have hp : ¬ (R.c k).site = site := by simpa using ‹((R.c k).site == site) = false›
        go_roundw
        case rel => exact ⟨k + 1, by omega, by go_num, clockTo_no HN.out hp, hb⟩
        case measure => simp [intOf]; omega
    · have e1 : k = R.n1 := by omega
      have N1 : Hid (clockTo R.c site R.n1 = none) := e1 ▸ HN.out
      clear HN e1
      go_wp2
      go_ret
      exact ⟨ret_int (by unfold Rep.clk; rw [N1.out]; rfl), below_box hb⟩
end Go.Proofs.Ytmafnghokmcijaa
