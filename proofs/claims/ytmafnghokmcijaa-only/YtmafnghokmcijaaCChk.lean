/- parcelref.Check, walked. -/
import Derived.Test.YtmafnghokmcijaaCNum
import Derived.Test.YtmafnghokmcijaaCTxt
import Derived.Test.YtmafnghokmcijaaCRis
import Derived.Test.YtmafnghokmcijaaCClk
import Derived.Test.YtmafnghokmcijaaBChk
import Derived.Deep.RegionHeld3
namespace Go.Proofs.Ytmafnghokmcijaa
open Go.RowKit

set_option maxHeartbeats 4000000 in
theorem rcheck_any (R : Rep) (a1 a2 a3 : Option Addr) (k1 k2 k3 : Nat) (w : World) (hR : Has w R a1 a2 a3) :
    Calls Try.prog 12 #[repV R a1 a2 a3 k1 k2 k3] w fun e w' => e = .returned (.int .i64 R.chk) ∧ Below w.heap.size w w' := by
  have b1 := hR.b1; have b2 := hR.b2; have b3 := hR.b3
  have hb0 : BoxR w R a1 a2 a3 k1 k2 k3 (w.alloc (.cells #[.slice a1 R.n1 k1, .slice a2 R.n2 k2, .slice a3 R.n3 k3] 26)) := Below.refl _ _
  cases g1 : R.manyB
  case true =>
    have hm : (8 : Int) < (R.n1 : Int) ∨ (R.n1 : Int) ≤ 8 ∧ ((40 : Int) < (R.n2 : Int) ∨ (R.n2 : Int) ≤ 40 ∧ (16 : Int) < (R.n3 : Int)) := by
      unfold Rep.manyB at g1; simp at g1; omega
    rcases hm with h | ⟨h, h' | ⟨h', h''⟩⟩
    all_goals
      go_enter Try.func12, Try.ntmps12
      go_wp2_with fail
      go_ret
      exact ⟨ret_int (by simp [Rep.chk, g1]), below_box hb0⟩
  have hm : (R.n1 : Int) ≤ 8 ∧ (R.n2 : Int) ≤ 40 ∧ (R.n3 : Int) ≤ 16 := by
    unfold Rep.manyB at g1; simp at g1; omega
  obtain ⟨m1, m2, m3⟩ := hm
  go_enter Try.func12, Try.ntmps12
  go_wp2_with fail
  refine (numbered_any R a1 a2 a3 k1 k2 k3 _ (hR.below (below_box hb0))).mono ?_
  rintro e w2 ⟨rfl, h1⟩
  have hb2 := boxR_step hb0 h1
  clear h1 hb0
  obtain ⟨x1, x2, x3⟩ := box3 hb2
  cases g2 : R.numB
  case true =>
    go_wp2_with fail
    go_ret
    exact ⟨ret_int (by simp [Rep.chk, g1, g2]), below_box hb2⟩
  go_wp2_with fail
  refine (texted_any R a1 a2 a3 k1 k2 k3 _ (hR.below (below_box hb2))).mono ?_
  rintro e w3 ⟨rfl, h1⟩
  have hb3 := boxR_step hb2 h1
  clear x1 x2 x3 h1 hb2
  obtain ⟨x1, x2, x3⟩ := box3 hb3
  cases g3 : R.txtB
  case true =>
    go_wp2_with fail
    go_ret
    exact ⟨ret_int (by simp [Rep.chk, g1, g2, g3]), below_box hb3⟩
  go_wp2_with fail
  refine (rising_any R a1 a2 a3 k1 k2 k3 _ (hR.below (below_box hb3))).mono ?_
  rintro e w4 ⟨rfl, h1⟩
  have hb4 := boxR_step hb3 h1
  clear x1 x2 x3 h1 hb3
  obtain ⟨x1, x2, x3⟩ := box3 hb4
  cases g4 : R.risB
  case true =>
    go_wp2_with fail
    go_ret
    exact ⟨ret_int (by simp [Rep.chk, g1, g2, g3, g4]), below_box hb4⟩
  go_wp2_with fail
  go_loopw [4, 5] (fun i _ wr => ∃ k : Nat, k ≤ R.n2 ∧ i = .int .i64 k ∧ anyTo R.unc k = false ∧ BoxR w R a1 a2 a3 k1 k2 k3 wr) (fun i _ _ => R.n2 - (intOf i).toNat)
  case atStart => exact ⟨0, Nat.zero_le _, rfl, rfl, hb4⟩
  case round =>
    clear x1 x2 x3
    have HB4 : Hid (BoxR w R a1 a2 a3 k1 k2 k3 w4) := hb4
    clear hb4
    obtain ⟨k, hk, rfl, hno, hb⟩ := hrel
    obtain ⟨x1, x2, x3⟩ := box3 hb
    have HN : Hid (anyTo R.unc k = false) := hno
    clear hno
    by_cases hlt : k < R.n2
    · obtain ⟨b, o, hbl, hix, -, hs, hc, -, -⟩ := (hR.below (below_box hb)).l2.card k2 hlt
      have hH := hR.below (below_box hb)
      have hws : w.heap.size < wr.heap.size := by have := hb.size; simp at this; omega
      go_wp2_with fail
      go_region_held3 (fun w' => w'.cell? ⟨w.heap.size, 0, none⟩ = some (.slice a1 R.n1 k1) ∧ w'.cell? ⟨w.heap.size, 1, none⟩ = some (.slice a2 R.n2 k2) ∧ w'.cell? ⟨w.heap.size, 2, none⟩ = some (.slice a3 R.n3 k3) ∧ w'.cell? ⟨b, o + 1, none⟩ = some (.int .i64 (R.d k).site) ∧ w'.cell? ⟨b, o + 2, none⟩ = some (.int .i64 (R.d k).count))
         (first | (go_keep; done) | (simp only [hcc b _ hbl, hcc w.heap.size _ hws]; go_keep; done))
         (first | (go_at_call 28; refine (clocked_any R a1 a2 a3 k1 k2 k3 _ _ (by exact hH.below (below_drewN (Below.refl _ _) 1))).mono ?_; rintro e w' ⟨rfl, hb2⟩; obtain ⟨hcc, hff⟩ := bcell hb2))
      have hb3 : BoxR w R a1 a2 a3 k1 k2 k3 w' := boxR_step (below_drewN hb 1) hb2
      clear hcc hff hb2
      go_wp2_with fail
      · have hp : R.unc k = true := by unfold Rep.unc; simp [‹R.clk (R.d k).site < (R.d k).count›]
        go_ret
        exact ⟨ret_int (by simp [Rep.chk, g1, g2, g3, g4, show R.uncB = true from anyTo_hit hlt hp]), below_box hb3⟩
      · have hp : R.unc k = false := by
          have h1 : (R.d k).count ≤ R.clk (R.d k).site := by assumption
          unfold Rep.unc; simp; omega
        go_roundw
        case rel => exact ⟨k + 1, by omega, by go_num, anyTo_no HN.out hp, hb3⟩
        case measure => simp [intOf]; omega
    · have e1 : k = R.n2 := by omega
      have g5 : Hid (R.uncB = false) := by unfold Rep.uncB; rw [← e1]; exact HN.out
      clear HN e1
      go_wp2_with fail
      go_loopw [6, 7] (fun i _ wr => ∃ k : Nat, k ≤ R.n2 ∧ i = .int .i64 k ∧ anyTo R.clash k = false ∧ BoxR w R a1 a2 a3 k1 k2 k3 wr) (fun i _ _ => R.n2 - (intOf i).toNat)
      case atStart => exact ⟨0, Nat.zero_le _, rfl, rfl, hb⟩
      case round =>
        clear x1 x2 x3 hb hk hlt
        obtain ⟨k, hk, rfl, hno, hb⟩ := hrel
        obtain ⟨x1, x2, x3⟩ := box3 hb
        have HN : Hid (anyTo R.clash k = false) := hno
        clear hno
        by_cases hlt : k < R.n2
        · have hd1 : decide ((k : Int) < (R.n2 : Int)) = true := by simp; omega
          go_wp2_with fail
          go_loopw [7] (fun i wr => ∃ j : Nat, j ≤ k ∧ i = .int .i64 j ∧ anyTo (fun i => stampB (R.d k) (R.d i)) j = false ∧ BoxR w R a1 a2 a3 k1 k2 k3 wr) (fun i _ => k - (intOf i).toNat)
          case atStart => exact ⟨0, Nat.zero_le _, rfl, rfl, hb⟩
          case round =>
            clear x1 x2 x3 hb
            obtain ⟨j, hj, rfl, hno, hb⟩ := hrel
            obtain ⟨x1, x2, x3⟩ := box3 hb
            have HM : Hid (anyTo (fun i => stampB (R.d k) (R.d i)) j = false) := hno
            clear hno
            by_cases hjt : j < k
            · obtain ⟨b, o, hbl, hix, -, c2, c3, -, -⟩ := (hR.below (below_box hb)).l2.card k2 hlt
              obtain ⟨b', o', hbl', hix', -, c2', c3', -, -⟩ := (hR.below (below_box hb)).l2.card k2 (show j < R.n2 by omega)
              by_cases hss : (R.d k).site = (R.d j).site
              · have hs1 : ((R.d k).site == (R.d j).site) = true := by simp [hss]
                clear hss
                go_wp2_with fail
                go_quiet (fail)
                go_wp2_with fail
                · have hp : stampB (R.d k) (R.d j) = true := by unfold stampB; rw [hs1, ‹((R.d k).count == (R.d j).count) = true›]; rfl
                  go_ret
                  refine ⟨ret_int ?_, below_box (below_drewN hb _)⟩
                  have hc : R.clashB = true := anyTo_hit (p := R.clash) hlt (anyTo_hit (p := fun i => stampB (R.d k) (R.d i)) hjt hp)
                  simp [Rep.chk, g1, g2, g3, g4, g5.out, hc]
                · have hp : stampB (R.d k) (R.d j) = false := by unfold stampB; rw [hs1, ‹((R.d k).count == (R.d j).count) = false›]; rfl
                  go_roundw
                  case rel => exact ⟨j + 1, by omega, by go_num, anyTo_no (p := fun i => stampB (R.d k) (R.d i)) HM.out hp, below_drewN hb _⟩
                  case measure => simp [intOf]; omega
              · have hs1 : ((R.d k).site == (R.d j).site) = false := by simp [hss]
                clear hss
                go_wp2_with fail
                go_quiet (fail)
                go_wp2_with fail
                have hp : stampB (R.d k) (R.d j) = false := by unfold stampB; rw [hs1]; rfl
                go_roundw
                case rel => exact ⟨j + 1, by omega, by go_num, anyTo_no (p := fun i => stampB (R.d k) (R.d i)) HM.out hp, below_drewN hb _⟩
                case measure => simp [intOf]; omega
            · have e1 : j = k := by omega
              have N1 : Hid (R.clash k = false) := by unfold Rep.clash; rw [← e1]; rw [← e1] at HM; exact HM.out
              clear HM e1
              go_wp2_with fail
              go_roundw
              case rel => exact ⟨k + 1, by omega, by go_num, anyTo_no HN.out N1.out, hb⟩
              case measure => simp [intOf]; omega
        · have e1 : k = R.n2 := by omega
          have g6 : Hid (R.clashB = false) := by unfold Rep.clashB; rw [← e1]; exact HN.out
          clear HN e1
          go_wp2_with fail
          go_ret
          exact ⟨ret_int (by simp [Rep.chk, g1, g2, g3, g4, g5.out, g6.out]), below_box hb⟩
end Go.Proofs.Ytmafnghokmcijaa
