/- Texts of the proof, one behind the other; what each holds is said at its head. -/
import Derived.Test.YtdjpkgaicmklmaaPartExports1
import Derived.Deep.RegionHeld3
import Derived.Test.YtdjpkgaicmklmaaPartExports0
import Derived.ProofKit
import Derived.SizedLaws
import Derived.Lib.SmallJoins
import Derived.Deep.Slices
/- sound.TooMany, sound.Check and parcel.Check, walked. -/
namespace Go.Proofs.Ytdjpkgaicmklmaa
open Go.RowKit

set_option maxHeartbeats 1000000 in
theorem tooMany_any (R : Rep) (a1 a2 a3 : Option Addr) (k1 k2 k3 : Nat) (w : World) (hR : Has w R a1 a2 a3) :
    Calls Try.prog 74 #[repV R a1 a2 a3 k1 k2 k3] w fun e w' => e = .returned (.bool R.manyB) ∧ Below w.heap.size w w' := by
  have b1 := hR.b1; have b2 := hR.b2; have b3 := hR.b3
  go_enter Try.func74, Try.ntmps74
  go_wp2
  all_goals (go_ret; refine ⟨ret_bool ?_, (Below.refl _ _).alloc (Nat.le_refl _) _⟩; unfold Rep.manyB; rw [Bool.eq_iff_iff]; simp; try omega)

/-- The world behind a call made with the box laid. -/
theorem boxR_step {w wr w1 : World} {R : Rep} {a1 a2 a3 : Option Addr} {k1 k2 k3 : Nat} (hb : BoxR w R a1 a2 a3 k1 k2 k3 wr) (h : Below wr.heap.size wr w1) : BoxR w R a1 a2 a3 k1 k2 k3 w1 :=
  hb.trans (h.mono (by have := hb.size; simpa using this))

set_option maxHeartbeats 2000000 in
theorem check_any (R : Rep) (a1 a2 a3 : Option Addr) (k1 k2 k3 : Nat) (w : World) (hR : Has w R a1 a2 a3) :
    Calls Try.prog 35 #[repV R a1 a2 a3 k1 k2 k3] w fun e w' => e = .returned (.int .i64 R.chk) ∧ Below w.heap.size w w' := by
  have hb0 : BoxR w R a1 a2 a3 k1 k2 k3 (w.alloc (.cells #[.slice a1 R.n1 k1, .slice a2 R.n2 k2, .slice a3 R.n3 k3] 26)) := Below.refl _ _
  go_enter Try.func35, Try.ntmps35
  go_wp2_with fail
  refine (tooMany_any R a1 a2 a3 k1 k2 k3 _ (hR.below (below_box hb0))).mono ?_
  rintro e w1 ⟨rfl, h1⟩
  have hb1 := boxR_step hb0 h1
  obtain ⟨x1, x2, x3⟩ := box3 hb1
  clear h1 hb0
  cases g1 : R.manyB
  case true =>
    go_wp2_with fail
    go_ret
    exact ⟨ret_int (by simp [Rep.chk, g1]), below_box hb1⟩
  go_wp2_with fail
  refine (wrongNumber_any R a1 a2 a3 k1 k2 k3 _ (hR.below (below_box hb1))).mono ?_
  rintro e w2 ⟨rfl, h1⟩
  have hb2 := boxR_step hb1 h1
  clear x1 x2 x3 h1 hb1
  obtain ⟨x1, x2, x3⟩ := box3 hb2
  cases g2 : R.numB
  case true =>
    go_wp2_with fail
    go_ret
    exact ⟨ret_int (by simp [Rep.chk, g1, g2]), below_box hb2⟩
  go_wp2_with fail
  refine (wrongText_any R a1 a2 a3 k1 k2 k3 _ (hR.below (below_box hb2))).mono ?_
  rintro e w3 ⟨rfl, h1⟩
  have hb3 := boxR_step hb2 h1
  clear x1 x2 x3 h1 hb2
  obtain ⟨x1, x2, x3⟩ := box3 hb3
  cases g3 : R.txtB
  case true =>
    go_wp2_with fail
    go_ret
    exact ⟨ret_int (by simp [Rep.chk, g1, g2, g3]), below_box hb3⟩
  go_wp2_with fail
  refine (notRising_any R a1 a2 a3 k1 k2 k3 _ (hR.below (below_box hb3))).mono ?_
  rintro e w4 ⟨rfl, h1⟩
  have hb4 := boxR_step hb3 h1
  clear x1 x2 x3 h1 hb3
  obtain ⟨x1, x2, x3⟩ := box3 hb4
  cases g4 : R.risB
  case true =>
    go_wp2_with fail
    go_ret
    exact ⟨ret_int (by simp [Rep.chk, g1, g2, g3, g4]), below_box hb4⟩
  go_wp2_with fail
  refine (uncovered_any R a1 a2 a3 k1 k2 k3 _ (hR.below (below_box hb4))).mono ?_
  rintro e w5 ⟨rfl, h1⟩
  have hb5 := boxR_step hb4 h1
  clear x1 x2 x3 h1 hb4
  obtain ⟨x1, x2, x3⟩ := box3 hb5
  cases g5 : R.uncB
  case true =>
    go_wp2_with fail
    go_ret
    exact ⟨ret_int (by simp [Rep.chk, g1, g2, g3, g4, g5]), below_box hb5⟩
  go_wp2_with fail
  refine (clashing_any a2 R.n2 k2 R.d _ hR.b2 (hR.below (below_box hb5)).l2).mono ?_
  rintro e w6 ⟨rfl, h1⟩
  have hb6 := boxR_step hb5 h1
  clear x1 x2 x3 h1 hb5
  have hcl : anyTo (fun i => anyTo (fun k => stampB (R.d i) (R.d k)) i) R.n2 = R.clashB := rfl
  rw [hcl]
  clear hcl
  cases g6 : R.clashB
  case true =>
    go_wp2_with fail
    go_ret
    exact ⟨ret_int (by simp [Rep.chk, g1, g2, g3, g4, g5, g6]), below_box hb6⟩
  go_wp2_with fail
  go_ret
  exact ⟨ret_int (by simp [Rep.chk, g1, g2, g3, g4, g5, g6]), below_box hb6⟩

set_option maxHeartbeats 1000000 in
theorem pcheck_any (R : Rep) (a1 a2 a3 : Option Addr) (k1 k2 k3 : Nat) (w : World) (hR : Has w R a1 a2 a3) :
    Calls Try.prog 15 #[repV R a1 a2 a3 k1 k2 k3] w fun e w' => e = .returned (.int .i64 R.chk) ∧ Below w.heap.size w w' := by
  have hb0 : BoxR w R a1 a2 a3 k1 k2 k3 (w.alloc (.cells #[.slice a1 R.n1 k1, .slice a2 R.n2 k2, .slice a3 R.n3 k3] 26)) := Below.refl _ _
  go_enter Try.func15, Try.ntmps15
  go_wp2_with fail
  refine (check_any R a1 a2 a3 k1 k2 k3 _ (hR.below (below_box hb0))).mono ?_
  rintro e w1 ⟨rfl, h1⟩
  go_wp2_with fail
  go_ret
  exact ⟨rfl, below_box (boxR_step hb0 h1)⟩
end Go.Proofs.Ytdjpkgaicmklmaa

/- parcelref.Check, walked. -/
namespace Go.Proofs.Ytdjpkgaicmklmaa
open Go.RowKit

set_option maxHeartbeats 4000000 in
theorem rcheck_any (R : Rep) (a1 a2 a3 : Option Addr) (k1 k2 k3 : Nat) (w : World) (hR : Has w R a1 a2 a3) :
    Calls Try.prog 16 #[repV R a1 a2 a3 k1 k2 k3] w fun e w' => e = .returned (.int .i64 R.chk) ∧ Below w.heap.size w w' := by
  have b1 := hR.b1; have b2 := hR.b2; have b3 := hR.b3
  have hb0 : BoxR w R a1 a2 a3 k1 k2 k3 (w.alloc (.cells #[.slice a1 R.n1 k1, .slice a2 R.n2 k2, .slice a3 R.n3 k3] 26)) := Below.refl _ _
  cases g1 : R.manyB
  case true =>
    have hm : (8 : Int) < (R.n1 : Int) ∨ (R.n1 : Int) ≤ 8 ∧ ((40 : Int) < (R.n2 : Int) ∨ (R.n2 : Int) ≤ 40 ∧ (16 : Int) < (R.n3 : Int)) := by
      unfold Rep.manyB at g1; simp at g1; omega
    rcases hm with h | ⟨h, h' | ⟨h', h''⟩⟩
    all_goals
      go_enter Try.func16, Try.ntmps16
      go_wp2_with fail
      go_ret
      exact ⟨ret_int (by simp [Rep.chk, g1]), below_box hb0⟩
  have hm : (R.n1 : Int) ≤ 8 ∧ (R.n2 : Int) ≤ 40 ∧ (R.n3 : Int) ≤ 16 := by
    unfold Rep.manyB at g1; simp at g1; omega
  obtain ⟨m1, m2, m3⟩ := hm
  go_enter Try.func16, Try.ntmps16
  go_wp2_with fail
  refine (numbered_any R a1 a2 a3 k1 k2 k3 _ (hR.below (below_box hb0))).mono ?_
  rintro e w2 ⟨rfl, h1⟩
  have hb2 := boxR_step hb0 h1
  clear h1 hb0
  obtain ⟨x1, x2, x3⟩ := box3 hb2
  cases g2 : R.numB
  case true =>
    go_wp2_with fail
    go_ret
    exact ⟨ret_int (by simp [Rep.chk, g1, g2]), below_box hb2⟩
  go_wp2_with fail
  refine (texted_any R a1 a2 a3 k1 k2 k3 _ (hR.below (below_box hb2))).mono ?_
  rintro e w3 ⟨rfl, h1⟩
  have hb3 := boxR_step hb2 h1
  clear x1 x2 x3 h1 hb2
  obtain ⟨x1, x2, x3⟩ := box3 hb3
  cases g3 : R.txtB
  case true =>
    go_wp2_with fail
    go_ret
    exact ⟨ret_int (by simp [Rep.chk, g1, g2, g3]), below_box hb3⟩
  go_wp2_with fail
  refine (rising_any R a1 a2 a3 k1 k2 k3 _ (hR.below (below_box hb3))).mono ?_
  rintro e w4 ⟨rfl, h1⟩
  have hb4 := boxR_step hb3 h1
  clear x1 x2 x3 h1 hb3
  obtain ⟨x1, x2, x3⟩ := box3 hb4
  cases g4 : R.risB
  case true =>
    go_wp2_with fail
    go_ret
    exact ⟨ret_int (by simp [Rep.chk, g1, g2, g3, g4]), below_box hb4⟩
  go_wp2_with fail
  go_loopw [4, 5] (fun i _ wr => ∃ k : Nat, k ≤ R.n2 ∧ i = .int .i64 k ∧ anyTo R.unc k = false ∧ BoxR w R a1 a2 a3 k1 k2 k3 wr) (fun i _ _ => R.n2 - (intOf i).toNat)
  case atStart => exact ⟨0, Nat.zero_le _, rfl, rfl, hb4⟩
  case round =>
    clear x1 x2 x3
    have HB4 : Hid (BoxR w R a1 a2 a3 k1 k2 k3 w4) := hb4
    clear hb4
    obtain ⟨k, hk, rfl, hno, hb⟩ := hrel
    obtain ⟨x1, x2, x3⟩ := box3 hb
    have HN : Hid (anyTo R.unc k = false) := hno
    clear hno
    by_cases hlt : k < R.n2
    · obtain ⟨b, o, hbl, hix, -, hs, hc, -, -⟩ := (hR.below (below_box hb)).l2.card k2 hlt
      have hH := hR.below (below_box hb)
      have hws : w.heap.size < wr.heap.size := by have := hb.size; simp at this; omega
      go_wp2_with fail
      go_region_held3 (fun w' => w'.cell? ⟨w.heap.size, 0, none⟩ = some (.slice a1 R.n1 k1) ∧ w'.cell? ⟨w.heap.size, 1, none⟩ = some (.slice a2 R.n2 k2) ∧ w'.cell? ⟨w.heap.size, 2, none⟩ = some (.slice a3 R.n3 k3) ∧ w'.cell? ⟨b, o + 1, none⟩ = some (.int .i64 (R.d k).site) ∧ w'.cell? ⟨b, o + 2, none⟩ = some (.int .i64 (R.d k).count))
         (first | (go_keep; done) | (simp only [hcc b _ hbl, hcc w.heap.size _ hws]; go_keep; done))
         (first | (go_at_call 39; refine (clocked_any R a1 a2 a3 k1 k2 k3 _ _ (by exact hH.below (below_drewN (Below.refl _ _) 1))).mono ?_; rintro e w' ⟨rfl, hb2⟩; obtain ⟨hcc, hff⟩ := bcell hb2))
      have hb3 : BoxR w R a1 a2 a3 k1 k2 k3 w' := boxR_step (below_drewN hb 1) hb2
      clear hcc hff hb2
      go_wp2_with fail
      · have hp : R.unc k = true := by unfold Rep.unc; simp [‹R.clk (R.d k).site < (R.d k).count›]
        go_ret
        exact ⟨ret_int (by simp [Rep.chk, g1, g2, g3, g4, show R.uncB = true from anyTo_hit hlt hp]), below_box hb3⟩
      · have hp : R.unc k = false := by
          have h1 : (R.d k).count ≤ R.clk (R.d k).site := by assumption
          unfold Rep.unc; simp; omega
        go_roundw
        case rel => exact ⟨k + 1, by omega, by go_num, anyTo_no HN.out hp, hb3⟩
        case measure => simp [intOf]; omega
    · have e1 : k = R.n2 := by omega
      have g5 : Hid (R.uncB = false) := by unfold Rep.uncB; rw [← e1]; exact HN.out
      clear HN e1
      go_wp2_with fail
      go_loopw [6, 7] (fun i _ wr => ∃ k : Nat, k ≤ R.n2 ∧ i = .int .i64 k ∧ anyTo R.clash k = false ∧ BoxR w R a1 a2 a3 k1 k2 k3 wr) (fun i _ _ => R.n2 - (intOf i).toNat)
      case atStart => exact ⟨0, Nat.zero_le _, rfl, rfl, hb⟩
      case round =>
        clear x1 x2 x3 hb hk hlt
        obtain ⟨k, hk, rfl, hno, hb⟩ := hrel
        obtain ⟨x1, x2, x3⟩ := box3 hb
        have HN : Hid (anyTo R.clash k = false) := hno
        clear hno
        by_cases hlt : k < R.n2
        · have hd1 : decide ((k : Int) < (R.n2 : Int)) = true := by simp; omega
          go_wp2_with fail
          go_loopw [7] (fun i wr => ∃ j : Nat, j ≤ k ∧ i = .int .i64 j ∧ anyTo (fun i => stampB (R.d k) (R.d i)) j = false ∧ BoxR w R a1 a2 a3 k1 k2 k3 wr) (fun i _ => k - (intOf i).toNat)
          case atStart => exact ⟨0, Nat.zero_le _, rfl, rfl, hb⟩
          case round =>
            clear x1 x2 x3 hb
            obtain ⟨j, hj, rfl, hno, hb⟩ := hrel
            obtain ⟨x1, x2, x3⟩ := box3 hb
            have HM : Hid (anyTo (fun i => stampB (R.d k) (R.d i)) j = false) := hno
            clear hno
            by_cases hjt : j < k
            · obtain ⟨b, o, hbl, hix, -, c2, c3, -, -⟩ := (hR.below (below_box hb)).l2.card k2 hlt
              obtain ⟨b', o', hbl', hix', -, c2', c3', -, -⟩ := (hR.below (below_box hb)).l2.card k2 (show j < R.n2 by omega)
              by_cases hss : (R.d k).site = (R.d j).site
              · have hs1 : ((R.d k).site == (R.d j).site) = true := by simp [hss]
                clear hss
                go_wp2_with fail
                go_quiet (fail)
                go_wp2_with fail
                · have hp : stampB (R.d k) (R.d j) = true := by unfold stampB; rw [hs1, ‹((R.d k).count == (R.d j).count) = true›]; rfl
                  go_ret
                  refine ⟨ret_int ?_, below_box (below_drewN hb _)⟩
                  have hc : R.clashB = true := anyTo_hit (p := R.clash) hlt (anyTo_hit (p := fun i => stampB (R.d k) (R.d i)) hjt hp)
                  simp [Rep.chk, g1, g2, g3, g4, g5.out, hc]
                · have hp : stampB (R.d k) (R.d j) = false := by unfold stampB; rw [hs1, ‹((R.d k).count == (R.d j).count) = false›]; rfl
                  go_roundw
                  case rel => exact ⟨j + 1, by omega, by go_num, anyTo_no (p := fun i => stampB (R.d k) (R.d i)) HM.out hp, below_drewN hb _⟩
                  case measure => simp [intOf]; omega
              · have hs1 : ((R.d k).site == (R.d j).site) = false := by simp [hss]
                clear hss
                go_wp2_with fail
                go_quiet (fail)
                go_wp2_with fail
                have hp : stampB (R.d k) (R.d j) = false := by unfold stampB; rw [hs1]; rfl
                go_roundw
                case rel => exact ⟨j + 1, by omega, by go_num, anyTo_no (p := fun i => stampB (R.d k) (R.d i)) HM.out hp, below_drewN hb _⟩
                case measure => simp [intOf]; omega
            · have e1 : j = k := by omega
              have N1 : Hid (R.clash k = false) := by unfold Rep.clash; rw [← e1]; rw [← e1] at HM; exact HM.out
              clear HM e1
              go_wp2_with fail
              go_roundw
              case rel => exact ⟨k + 1, by omega, by go_num, anyTo_no HN.out N1.out, hb⟩
              case measure => simp [intOf]; omega
        · have e1 : k = R.n2 := by omega
          have g6 : Hid (R.clashB = false) := by unfold Rep.clashB; rw [← e1]; exact HN.out
          clear HN e1
          go_wp2_with fail
          go_ret
          exact ⟨ret_int (by simp [Rep.chk, g1, g2, g3, g4, g5.out, g6.out]), below_box hb⟩
end Go.Proofs.Ytdjpkgaicmklmaa

/- parcellaw.Checks: called with any replica that lies in memory it answers true, and nothing that was there has turned. -/
namespace Go.Proofs.Ytdjpkgaicmklmaa
open Go.RowKit

theorem below_step2 {w w1 wr : World} {R : Rep} {a1 a2 a3 : Option Addr} {k1 k2 k3 : Nat} {o : Obj} (hb : BoxR w R a1 a2 a3 k1 k2 k3 w1) (h : Below (w1.heap.size + 1) (w1.alloc o) wr) : BoxR w R a1 a2 a3 k1 k2 k3 wr :=
  boxR_step hb (below_box h)

set_option maxRecDepth 100000 in
set_option maxHeartbeats 4000000 in
theorem checks_any (R : Rep) (a1 a2 a3 : Option Addr) (k1 k2 k3 : Nat) (w : World) (hR : Has w R a1 a2 a3) :
    Calls Try.prog 3 #[repV R a1 a2 a3 k1 k2 k3] w fun e w' => e = .returned (.bool true) ∧ Below w.heap.size w w' := by
  have hb0 : BoxR w R a1 a2 a3 k1 k2 k3 (w.alloc (.cells #[.slice a1 R.n1 k1, .slice a2 R.n2 k2, .slice a3 R.n3 k3] 26)) := Below.refl _ _
  go_enter Try.func3, Try.ntmps3
  go_wp2_with fail
  refine (handed_any R a1 a2 a3 k1 k2 k3 _ (hR.below (below_box hb0))).mono ?_
  rintro e w1 ⟨b1, b2, b3, g1, g2, g3, rfl, hH, hg, h1⟩
  have hb1 := boxR_step hb0 h1
  clear h1 hb0
  obtain ⟨x1, x2, x3⟩ := box3 hb1
  have hws : w.heap.size < w1.heap.size := by have := hb1.size; simp at this; omega
  have hq0 : BoxR w1 R b1 b2 b3 (R.n1 + 2) (R.n2 + 2) (R.n3 + 2) (w1.alloc (.cells #[.slice b1 R.n1 (R.n1 + 2), .slice b2 R.n2 (R.n2 + 2), .slice b3 R.n3 (R.n3 + 2)] 26)) := Below.refl _ _
  go_wp2_with fail
  refine (pcheck_any R b1 b2 b3 _ _ _ _ ((hH.has hR).below (below_box hq0))).mono ?_
  rintro e w2 ⟨rfl, h2⟩
  have hq2 := boxR_step hq0 h2
  clear h2 hq0 x1 x2 x3
  obtain ⟨x1, x2, x3⟩ := box3 (below_step2 hb1 hq2)
  obtain ⟨z1, z2, z3⟩ := box3 hq2
  go_wp2_with fail
  refine (rcheck_any R a1 a2 a3 _ _ _ _ (hR.below (below_box (below_step2 hb1 hq2)))).mono ?_
  rintro e w3 ⟨rfl, h3⟩
  have hq3 := boxR_step hq2 h3
  clear h3 hq2 x1 x2 x3 z1 z2 z3
  obtain ⟨x1, x2, x3⟩ := box3 (below_step2 hb1 hq3)
  obtain ⟨z1, z2, z3⟩ := box3 hq3
  go_wp2_with fail
  refine (still_any R a1 a2 a3 b1 b2 b3 g1 g2 g3 _ _ _ _ (hR.below (below_box (below_step2 hb1 hq3))) (hH.below (below_box hq3))).mono ?_
  rintro e w4 ⟨rfl, h4⟩
  have hq4 := boxR_step hq3 h4
  clear h4 hq3 x1 x2 x3 z1 z2 z3
  go_wp2_with fail
  go_ret
  exact ⟨rfl, below_box (below_step2 hb1 hq4)⟩
end Go.Proofs.Ytdjpkgaicmklmaa

/- Export of both, and parcellaw.Exports: called with any replica that lies in memory it answers true. -/
namespace Go.Proofs.Ytdjpkgaicmklmaa
open Go.RowKit

/-- A sound replica can be written. -/
theorem Rep.fit {R : Rep} (h : R.chk = 0) : Fit R := by
  have g1 : R.manyB = false := by
    cases hh : R.manyB
    · rfl
    · simp [Rep.chk, hh] at h
  have g2 : R.numB = false := by
    cases hh : R.numB
    · rfl
    · simp [Rep.chk, g1, hh] at h
  have g3 : R.txtB = false := by
    cases hh : R.txtB
    · rfl
    · simp [Rep.chk, g1, g2, hh] at h
  have hm : R.n1 ≤ 8 ∧ R.n2 ≤ 40 ∧ R.n3 ≤ 16 := by
    unfold Rep.manyB at g1; simp at g1; omega
  unfold Rep.numB at g2
  simp only [Bool.or_eq_false_iff] at g2
  unfold Rep.txtB at g3
  simp only [Bool.or_eq_false_iff] at g3
  have num : ∀ n m : Int, outB n m = false → m ≤ 4611686018427387904 → Num n := by
    intro n m hh hm
    unfold outB at hh
    simp at hh
    exact ⟨by omega, by omega⟩
  have none_of : ∀ (p : Nat → Bool) (n : Nat), anyTo p n = false → ∀ i, i < n → p i = false := by
    intro p n hh i hi
    cases hp : p i
    · rfl
    · rw [anyTo_hit hi hp] at hh; cases hh
  have long : ∀ t : ByteArray, longB t = false → t.size ≤ 60 := by
    intro t ht
    unfold longB at ht
    simp at ht
    omega
  refine ⟨by omega, by omega, by omega, fun i hi => ?_, fun i hi => ?_, fun i hi => ?_⟩
  · have h1 := none_of _ _ g2.1 i hi
    unfold Rep.num1 scB at h1
    simp only [Bool.or_eq_false_iff] at h1
    exact ⟨num _ _ h1.1 (by decide), num _ _ h1.2 (by decide)⟩
  · have h1 := none_of _ _ g2.2.1 i hi
    unfold Rep.num2 scB at h1
    simp only [Bool.or_eq_false_iff] at h1
    have h2 := none_of _ _ g3.1 i hi
    unfold Rep.txt2 at h2
    simp only [Bool.or_eq_false_iff] at h2
    exact ⟨num _ _ h1.2 (by decide), num _ _ h1.1.1 (by decide), num _ _ h1.1.2 (by decide), long _ h2.1⟩
  · have h1 := none_of _ _ g2.2.2 i hi
    unfold Rep.num3 at h1
    have h2 := none_of _ _ g3.2 i hi
    unfold Rep.txt3 at h2
    exact ⟨num _ _ h1 (by decide), long _ h2⟩

/-- The answer of Export. -/
def Rep.exp (R : Rep) : List UInt8 := if R.chk = 0 then bundleB (recsOf 0 0 R) else []

set_option maxRecDepth 100000 in
set_option maxHeartbeats 2000000 in
theorem export_any (R : Rep) (a1 a2 a3 : Option Addr) (k1 k2 k3 : Nat) (w : World) (hR : Has w R a1 a2 a3) :
    Calls Try.prog 18 #[repV R a1 a2 a3 k1 k2 k3] w fun e w' => e = .returned (.tuple #[.string (str R.exp), .int .i64 R.chk]) ∧ Below w.heap.size w w' := by
  have hb0 : BoxR w R a1 a2 a3 k1 k2 k3 (w.alloc (.cells #[.slice a1 R.n1 k1, .slice a2 R.n2 k2, .slice a3 R.n3 k3] 26)) := Below.refl _ _
  go_enter Try.func18, Try.ntmps18
  go_wp2_with fail
  refine (check_any R a1 a2 a3 k1 k2 k3 _ (hR.below (below_box hb0))).mono ?_
  rintro e w1 ⟨rfl, h1⟩
  have hb1 := boxR_step hb0 h1
  clear h1 hb0
  by_cases hc : R.chk = 0
  · have E : Hid (R.exp = bundleB (recsOf 0 0 R)) := by show _ = _; unfold Rep.exp; rw [if_pos hc]
    have hF := Rep.fit hc
    obtain ⟨x1, x2, x3⟩ := box3 hb1
    rw [hc]
    have HC : Hid (R.chk = 0) := hc
    clear hc
    go_wp2_with fail
    refine (bundle_any 0 0 R a1 a2 a3 k1 k2 k3 _ (hR.below (below_box hb1)) hF ⟨by decide, by decide⟩ (by decide) (by decide)).mono ?_
    rintro e w2 ⟨rfl, h2⟩
    have hb2 := boxR_step hb1 h2
    go_wp2_with fail
    go_ret2
    exact ⟨by rw [E.out, HC.out]; rfl, below_box hb2⟩
  · have E : Hid (R.exp = []) := by show _ = _; unfold Rep.exp; rw [if_neg hc]
    have hcb : (R.chk != 0) = true := by simp [hc]
    clear hc
    go_wp2_with fail
    go_ret2
    exact ⟨by rw [E.out]; rfl, below_box hb1⟩

set_option maxRecDepth 100000 in
set_option maxHeartbeats 2000000 in
theorem rexport_any (R : Rep) (a1 a2 a3 : Option Addr) (k1 k2 k3 : Nat) (w : World) (hR : Has w R a1 a2 a3) :
    Calls Try.prog 19 #[repV R a1 a2 a3 k1 k2 k3] w fun e w' => e = .returned (.tuple #[.string (str R.exp), .int .i64 R.chk]) ∧ Below w.heap.size w w' := by
  have hb0 : BoxR w R a1 a2 a3 k1 k2 k3 (w.alloc (.cells #[.slice a1 R.n1 k1, .slice a2 R.n2 k2, .slice a3 R.n3 k3] 26)) := Below.refl _ _
  go_enter Try.func19, Try.ntmps19
  go_wp2_with fail
  refine (rcheck_any R a1 a2 a3 k1 k2 k3 _ (hR.below (below_box hb0))).mono ?_
  rintro e w1 ⟨rfl, h1⟩
  have hb1 := boxR_step hb0 h1
  clear h1 hb0
  by_cases hc : R.chk = 0
  · have E : Hid (R.exp = bundleB (recsOf 0 0 R)) := by show _ = _; unfold Rep.exp; rw [if_pos hc]
    have hF := Rep.fit hc
    obtain ⟨x1, x2, x3⟩ := box3 hb1
    rw [hc]
    have HC : Hid (R.chk = 0) := hc
    clear hc
    go_wp2_with fail
    refine (rbundle_any 0 0 R a1 a2 a3 k1 k2 k3 _ (hR.below (below_box hb1)) hF ⟨by decide, by decide⟩ (by decide) (by decide)).mono ?_
    rintro e w2 ⟨rfl, h2⟩
    have hb2 := boxR_step hb1 h2
    go_wp2_with fail
    go_ret2
    exact ⟨by rw [E.out, HC.out]; rfl, below_box hb2⟩
  · have E : Hid (R.exp = []) := by show _ = _; unfold Rep.exp; rw [if_neg hc]
    have hcb : (R.chk != 0) = true := by simp [hc]
    clear hc
    go_wp2_with fail
    go_ret2
    exact ⟨by rw [E.out]; rfl, below_box hb1⟩

set_option maxRecDepth 100000 in
set_option maxHeartbeats 4000000 in
theorem exports_any (R : Rep) (a1 a2 a3 : Option Addr) (k1 k2 k3 : Nat) (w : World) (hR : Has w R a1 a2 a3) :
    Calls Try.prog 4 #[repV R a1 a2 a3 k1 k2 k3] w fun e w' => e = .returned (.bool true) ∧ Below w.heap.size w w' := by
  have hb0 : BoxR w R a1 a2 a3 k1 k2 k3 (w.alloc (.cells #[.slice a1 R.n1 k1, .slice a2 R.n2 k2, .slice a3 R.n3 k3] 26)) := Below.refl _ _
  go_enter Try.func4, Try.ntmps4
  go_wp2_with fail
  refine (handed_any R a1 a2 a3 k1 k2 k3 _ (hR.below (below_box hb0))).mono ?_
  rintro e w1 ⟨b1, b2, b3, g1, g2, g3, rfl, hH, hg, h1⟩
  have hb1 := boxR_step hb0 h1
  clear h1 hb0
  obtain ⟨x1, x2, x3⟩ := box3 hb1
  have hws : w.heap.size < w1.heap.size := by have := hb1.size; simp at this; omega
  have hq0 : BoxR w1 R b1 b2 b3 (R.n1 + 2) (R.n2 + 2) (R.n3 + 2) (w1.alloc (.cells #[.slice b1 R.n1 (R.n1 + 2), .slice b2 R.n2 (R.n2 + 2), .slice b3 R.n3 (R.n3 + 2)] 26)) := Below.refl _ _
  go_wp2_with fail
  refine (export_any R b1 b2 b3 _ _ _ _ ((hH.has hR).below (below_box hq0))).mono ?_
  rintro e w2 ⟨rfl, h2⟩
  have hq2 := boxR_step hq0 h2
  clear h2 hq0 x1 x2 x3
  obtain ⟨x1, x2, x3⟩ := box3 (below_step2 hb1 hq2)
  obtain ⟨z1, z2, z3⟩ := box3 hq2
  go_wp2_with fail
  refine (rexport_any R a1 a2 a3 _ _ _ _ (hR.below (below_box (below_step2 hb1 hq2)))).mono ?_
  rintro e w3 ⟨rfl, h3⟩
  have hq3 := boxR_step hq2 h3
  clear h3 hq2 x1 x2 x3 z1 z2 z3
  obtain ⟨x1, x2, x3⟩ := box3 (below_step2 hb1 hq3)
  obtain ⟨z1, z2, z3⟩ := box3 hq3
  go_wp2_with fail
  refine (still_any R a1 a2 a3 b1 b2 b3 g1 g2 g3 _ _ _ _ (hR.below (below_box (below_step2 hb1 hq3))) (hH.below (below_box hq3))).mono ?_
  rintro e w4 ⟨rfl, h4⟩
  have hq4 := boxR_step hq3 h4
  clear h4 hq3 x1 x2 x3 z1 z2 z3
  go_wp2_with fail
  go_ret
  exact ⟨rfl, below_box (below_step2 hb1 hq4)⟩
end Go.Proofs.Ytdjpkgaicmklmaa

/- A replica that comes in, opened: its reading as data gives its rows. -/
namespace Go.Proofs.Ytdjpkgaicmklmaa
open Go.ChangeShapes Go.WideShapes Go.ChangeAt Go.RowKit Go.Joins Go.Deep

section
variable {H : Type} {enc : TypeId × Value → H} {w : World} {base : Nat} {spare : Nat → Bool} {held : Bool}

theorem Try.cellsInt : Try.prog.cellsOf 3 = 1 := by kernel_rfl
theorem Try.cellsBool : Try.prog.cellsOf 4 = 1 := by kernel_rfl
theorem Try.cellsString : Try.prog.cellsOf 9 = 1 := by kernel_rfl
theorem Try.cellsClock : Try.prog.cellsOf 67 = 2 := by kernel_rfl
theorem Try.cellsCard : Try.prog.cellsOf 69 = 5 := by kernel_rfl
theorem Try.cellsEdit : Try.prog.cellsOf 71 = 2 := by kernel_rfl

theorem list2 {α : Type} {l : List α} (h : l.length = 2) : ∃ a b, l = [a, b] := by
  match l, h with
  | [a, b], _ => exact ⟨a, b, rfl⟩
theorem list5 {α : Type} {l : List α} (h : l.length = 5) : ∃ a b c d e, l = [a, b, c, d, e] := by
  match l, h with
  | [a, b, c, d, e], _ => exact ⟨a, b, c, d, e, rfl⟩

theorem read_clock {n : Nat} {cs : List Value} {x : DataW H × List MemPlace} (h : DataW.trod enc Try.prog w base spare held n 67 cs = some x) : ∃ c : Ck, cs = c.cells := by
  obtain ⟨xs, k, _, _, hl, hlen, hf⟩ := DataW.trod_struct Try.underlying67 h
  rw [Try.cellsClock] at hl
  obtain ⟨c0, c1, rfl⟩ := list2 hl
  obtain ⟨y0, y1, rfl⟩ := list2 (show xs.length = 2 from hlen)
  have g0 := hf 0 _ rfl
  have g1 := hf 1 _ rfl
  simp [Try.cellsInt] at g0 g1
  obtain ⟨n0, e0, _⟩ := DataW.trod_int Try.underlying3 g0
  obtain ⟨n1, e1, _⟩ := DataW.trod_int Try.underlying3 g1
  simp at e0 e1
  subst e0 e1
  exact ⟨⟨n0, n1⟩, rfl⟩

theorem read_edit {n : Nat} {cs : List Value} {x : DataW H × List MemPlace} (h : DataW.trod enc Try.prog w base spare held n 71 cs = some x) : ∃ c : Ed, cs = c.cells := by
  obtain ⟨xs, k, _, _, hl, hlen, hf⟩ := DataW.trod_struct Try.underlying71 h
  rw [Try.cellsEdit] at hl
  obtain ⟨c0, c1, rfl⟩ := list2 hl
  obtain ⟨y0, y1, rfl⟩ := list2 (show xs.length = 2 from hlen)
  have g0 := hf 0 _ rfl
  have g1 := hf 1 _ rfl
  simp [Try.cellsInt, Try.cellsString] at g0 g1
  obtain ⟨n0, e0, _⟩ := DataW.trod_int Try.underlying3 g0
  obtain ⟨n1, e1, _⟩ := DataW.trod_string Try.underlying9 g1
  simp at e0 e1
  subst e0 e1
  exact ⟨⟨n0, n1⟩, rfl⟩

theorem read_card {n : Nat} {cs : List Value} {x : DataW H × List MemPlace} (h : DataW.trod enc Try.prog w base spare held n 69 cs = some x) : ∃ c : Cd, cs = c.cells := by
  obtain ⟨xs, k, _, _, hl, hlen, hf⟩ := DataW.trod_struct Try.underlying69 h
  rw [Try.cellsCard] at hl
  obtain ⟨c0, c1, c2, c3, c4, rfl⟩ := list5 hl
  obtain ⟨y0, y1, y2, y3, y4, rfl⟩ := list5 (show xs.length = 5 from hlen)
  have g0 := hf 0 _ rfl
  have g1 := hf 1 _ rfl
  have g2 := hf 2 _ rfl
  have g3 := hf 3 _ rfl
  have g4 := hf 4 _ rfl
  simp [Try.cellsInt, Try.cellsString, Try.cellsBool] at g0 g1 g2 g3 g4
  obtain ⟨n0, e0, _⟩ := DataW.trod_int Try.underlying3 g0
  obtain ⟨n1, e1, _⟩ := DataW.trod_int Try.underlying3 g1
  obtain ⟨n2, e2, _⟩ := DataW.trod_int Try.underlying3 g2
  obtain ⟨n3, e3, _⟩ := DataW.trod_bool Try.underlying4 g3
  obtain ⟨n4, e4, _⟩ := DataW.trod_string Try.underlying9 g4
  simp at e0 e1 e2 e3 e4
  subst e0 e1 e2 e3 e4
  exact ⟨⟨n0, n1, n2, n3, n4⟩, rfl⟩

theorem addr_plus (b off j : Nat) : (⟨b, off, none⟩ : Addr).add j = ⟨b, off + j, none⟩ := by
  unfold Addr.add
  by_cases h : j = 0 <;> simp [h]

/-- A slice of records that comes in. -/
theorem read_rows {α : Type} [Inhabited α] (cells : α → List Value) (m : Nat) {t e : TypeId} {fuel : Nat} {v : Value} {x : DataW H × List MemPlace} (ht : Try.prog.underlying t = some (.slice e)) (hc : Try.prog.cellsOf e = m) (h0 : 0 < m)
    (hr : ∀ (n : Nat) (cs : List Value) (y : DataW H × List MemPlace), DataW.trod enc Try.prog w 0 (fun _ => true) held n e cs = some y → ∃ c : α, cs = cells c)
    (h : DataW.trod enc Try.prog w 0 (fun _ => true) held fuel t [v] = some x) :
    ∃ (a : Option Addr) (n k : Nat) (f : Nat → α), v = .slice a n k ∧ Lies w a n m (fun i => cells (f i)) ∧ n ≤ k ∧ ((x.1 = .nil ∧ n = 0) ∨ ∃ el sp : List (DataW H), x.1 = .slice el sp ∧ el.length + sp.length = k) := by
  rcases open_slice ht h with ⟨hcs, hx⟩ | ⟨a, len, cap, mm, n, D, Pl, hcs, _, hl, hm, hmm, hx, hel⟩
  · simp at hcs
    exact ⟨none, 0, 0, fun _ => default, hcs, Or.inl rfl, Nat.le_refl _, Or.inl ⟨by rw [hx], rfl⟩⟩
  · simp at hcs
    simp at hmm
    subst hmm
    rw [hc] at hel
    have hall : ∀ i, i < mm → ∃ c : α, w.cells? 0 (a.add (i * m)) m = some (cells c) := fun i hi => by
      obtain ⟨cs', h1, h2⟩ := hel i hi
      obtain ⟨c, rfl⟩ := hr _ _ _ h2
      exact ⟨c, h1⟩
    obtain ⟨f, hf⟩ := choose_lt (α := α) (p := fun i c => w.cells? 0 (a.add (i * m)) m = some (cells c)) hall
    refine ⟨some a, len, mm, f, hcs, ?_, hl, Or.inr ⟨_, _, by rw [hx], by simp; omega⟩⟩
    by_cases hz : len = 0
    · exact Or.inl hz
    · obtain ⟨b, off, spot⟩ := a
      obtain ⟨_, hlen0, hc0⟩ := World.cells?_some (hf 0 (by omega))
      have hcell : w.cell? ((Addr.add ⟨b, off, spot⟩ (0 * m)).add 0) = (cells (f 0))[0]? := hc0 0 h0
      rw [List.getElem?_eq_getElem (by omega)] at hcell
      have hspot : spot = none := by simpa [Addr.add] using World.cell?_spot hcell
      subst hspot
      have hblk : b < w.heap.size := by
        simp only [Nat.zero_mul, addr_plus, Nat.add_zero] at hcell
        unfold World.cell? at hcell
        rcases Nat.lt_or_ge b w.heap.size with h | h
        · exact h
        · simp [Array.getElem?_eq_none h] at hcell
      refine Or.inr ⟨b, off, rfl, hblk, fun i hi j v hj hv => ?_⟩
      obtain ⟨_, _, hci⟩ := World.cells?_some (hf i (by omega))
      have := hci j hj
      rw [addr_plus, addr_plus] at this
      rw [this, hv]

theorem Try.bytesClock : Try.prog.bytesOf 67 = 16 := by kernel_rfl
theorem Try.bytesCard : Try.prog.bytesOf 69 = 48 := by kernel_rfl
theorem Try.bytesEdit : Try.prog.bytesOf 71 = 24 := by kernel_rfl

/-- The bytes of a slice that came in. -/
theorem weigh {t e : TypeId} {d : DataW H} {n k b : Nat} (ht : Try.prog.underlying t = some (.slice e)) (hb : Try.prog.bytesOf e = b) (hn : n ≤ k)
    (hx : (d = .nil ∧ n = 0) ∨ ∃ el sp : List (DataW H), d = .slice el sp ∧ el.length + sp.length = k) (hw : ∀ q, q ∈ d.weights Try.prog t → q ≤ reachBytes) : n * b ≤ reachBytes := by
  rcases hx with ⟨_, rfl⟩ | ⟨el, sp, rfl, rfl⟩
  · simp
  · have := hw ((el.length + sp.length) * Try.prog.bytesOf e) (by simp [DataW.weights, ht])
    rw [hb] at this
    exact Nat.le_trans (Nat.mul_le_mul_right _ hn) this

set_option maxRecDepth 100000 in
/-- A replica that comes in. -/
theorem open_rep {r : Reach} {b0 : Nat} {v : Value} {d : DataW H} {p : List MemPlace} (hv : Value.okWide Try.prog w r b0 26 v)
    (h : DataW.Trod enc Try.prog w 0 (fun _ => true) held 26 v d p) (hw : ∀ q, q ∈ d.weights Try.prog 26 → q ≤ reachBytes) :
    ∃ (R : Rep) (a1 a2 a3 : Option Addr) (k1 k2 k3 : Nat), v = repV R a1 a2 a3 k1 k2 k3 ∧ Has w R a1 a2 a3 := by
  obtain ⟨v0, v1, v2, y0, y1, y2, n, rfl, rfl, _, h0, h1, h2⟩ := open_agg3 Try.underlying26 (by kernel_rfl) (by kernel_rfl) hv h
  have : Inhabited Ck := ⟨⟨0, 0⟩⟩
  have : Inhabited Cd := ⟨⟨0, 0, 0, false, ⟨#[]⟩⟩⟩
  have : Inhabited Ed := ⟨⟨0, ⟨#[]⟩⟩⟩
  obtain ⟨a1, n1, k1, c, rfl, l1, m1, x1⟩ := read_rows Ck.cells 2 Try.underlying22 Try.cellsClock (by omega) (fun _ _ _ hh => read_clock hh) h0
  obtain ⟨a2, n2, k2, dd, rfl, l2, m2, x2⟩ := read_rows Cd.cells 5 Try.underlying23 Try.cellsCard (by omega) (fun _ _ _ hh => read_card hh) h1
  obtain ⟨a3, n3, k3, e, rfl, l3, m3, x3⟩ := read_rows Ed.cells 2 Try.underlying24 Try.cellsEdit (by omega) (fun _ _ _ hh => read_edit hh) h2
  have hw' : ∀ q, q ∈ DataW.weightsEach Try.prog [22, 23, 24] [y0.1, y1.1, y2.1] → q ≤ reachBytes := fun q hq => hw q (by
    simp only [DataW.weights, Try.underlying26]; exact hq)
  simp only [DataW.weightsEach, List.mem_append] at hw'
  have z1 := weigh Try.underlying22 Try.bytesClock m1 x1 (fun q hq => hw' q (Or.inl hq))
  have z2 := weigh Try.underlying23 Try.bytesCard m2 x2 (fun q hq => hw' q (Or.inr (Or.inl hq)))
  have z3 := weigh Try.underlying24 Try.bytesEdit m3 x3 (fun q hq => hw' q (Or.inr (Or.inr (Or.inl hq))))
  unfold reachBytes at z1 z2 z3
  exact ⟨⟨n1, n2, n3, c, dd, e⟩, a1, a2, a3, k1, k2, k3, rfl, l1, l2, l3, by show n1 ≤ _; omega, by show n2 ≤ _; omega, by show n3 ≤ _; omega, by show 16 * n1 ≤ _; omega, by show 48 * n2 ≤ _; omega, by show 24 * n3 ≤ _; omega⟩
end
end Go.Proofs.Ytdjpkgaicmklmaa

