/- Texts of the proof, one behind the other; what each holds is said at its head. -/
import Derived.Test.YtdjpkgaicmklmaaPartReplaysupto0
import Derived.Test.YtdjpkgaicmklmaaPartReplaysupto4
import Derived.Deep.RegionHeld3
import Derived.Test.YtdjpkgaicmklmaaPartReplaysupto2
import Derived.BigQuiet
import Derived.Deep.QuietTactic
/- sound.wrongNumber, walked. -/
namespace Go.Proofs.Ytdjpkgaicmklmaa
open Go.RowKit

set_option maxHeartbeats 2000000 in
theorem wrongNumber_any (R : Rep) (a1 a2 a3 : Option Addr) (k1 k2 k3 : Nat) (w : World) (hR : Has w R a1 a2 a3) :
    Calls Try.prog 75 #[repV R a1 a2 a3 k1 k2 k3] w fun e w' => e = .returned (.bool R.numB) ∧ Below w.heap.size w w' := by
  have b1 := hR.b1; have b2 := hR.b2; have b3 := hR.b3
  go_enter Try.func75, Try.ntmps75
  go_wp2
  go_loopw [3] (fun i wr => ∃ k : Nat, k ≤ R.n1 ∧ i = .int .i64 k ∧ anyTo R.num1 k = false ∧ BoxR w R a1 a2 a3 k1 k2 k3 wr) (fun i _ => R.n1 - (intOf i).toNat)
  case atStart => exact ⟨0, Nat.zero_le _, rfl, rfl, Below.refl _ _⟩
  case round =>
    obtain ⟨k, hk, rfl, hno, hb⟩ := hrel
    obtain ⟨x1, x2, x3⟩ := box3 hb
    have HN : Hid (anyTo R.num1 k = false) := hno
    clear hno
    by_cases hlt : k < R.n1
    · obtain ⟨b, o, hbl, hix, hs, hc⟩ := (hR.below (below_box hb)).l1.clock k1 hlt
      go_wp2
      go_quiet ((go_at_call 116; exact Calls.quiet_of_same (wrongSiteOrCount_any _ _ _)))
      go_wp2
      · have hp : R.num1 k = true := by unfold Rep.num1; assumption
        go_ret
        exact ⟨ret_bool (by simp [Rep.numB, anyTo_hit hlt hp]), below_drewN (below_box hb) _⟩
      · have hp : R.num1 k = false := by unfold Rep.num1; assumption
        go_roundw
        case rel => exact ⟨k + 1, by omega, by go_num, anyTo_no HN.out hp, below_drewN hb _⟩
        case measure => simp [intOf]; omega
    · have e1 : k = R.n1 := by omega
      have N1 : Hid (anyTo R.num1 R.n1 = false) := e1 ▸ HN.out
      clear HN e1
      go_wp2
      go_loopw [4] (fun i wr => ∃ k : Nat, k ≤ R.n2 ∧ i = .int .i64 k ∧ anyTo R.num2 k = false ∧ BoxR w R a1 a2 a3 k1 k2 k3 wr) (fun i _ => R.n2 - (intOf i).toNat)
      case atStart => exact ⟨0, Nat.zero_le _, rfl, rfl, hb⟩
      case round =>
        clear x1 x2 x3 hb hk
        obtain ⟨k, hk, rfl, hno, hb⟩ := hrel
        obtain ⟨x1, x2, x3⟩ := box3 hb
        have HN : Hid (anyTo R.num2 k = false) := hno
        clear hno
        by_cases hlt : k < R.n2
        · obtain ⟨b, o, hbl, hix, hi, hs, hc, -, -⟩ := (hR.below (below_box hb)).l2.card k2 hlt
          go_wp2
          go_quiet ((go_at_call 116; exact Calls.quiet_of_same (wrongSiteOrCount_any _ _ _)))
          go_wp2_with (go_at_call 117; refine (outOfRange_any _ _ _).mono ?_; rintro e w' ⟨rfl, rfl⟩)
          · have hp : R.num2 k = true := by unfold Rep.num2; simp [*]
            go_ret
            exact ⟨ret_bool (by simp [Rep.numB, anyTo_hit hlt hp]), below_drewN (below_box hb) _⟩
          · have hp : R.num2 k = true := by unfold Rep.num2; simp [*]
            go_ret
            exact ⟨ret_bool (by simp [Rep.numB, anyTo_hit hlt hp]), below_drewN (below_box hb) _⟩
          · have hp : R.num2 k = false := by unfold Rep.num2; simp [*]
            go_roundw
            case rel => exact ⟨k + 1, by omega, by go_num, anyTo_no HN.out hp, below_drewN hb _⟩
            case measure => simp [intOf]; omega
        · have e1 : k = R.n2 := by omega
          have N2 : Hid (anyTo R.num2 R.n2 = false) := e1 ▸ HN.out
          clear HN e1
          go_wp2
          go_loopw [5] (fun i wr => ∃ k : Nat, k ≤ R.n3 ∧ i = .int .i64 k ∧ anyTo R.num3 k = false ∧ BoxR w R a1 a2 a3 k1 k2 k3 wr) (fun i _ => R.n3 - (intOf i).toNat)
          case atStart => exact ⟨0, Nat.zero_le _, rfl, rfl, hb⟩
          case round =>
            clear x1 x2 x3 hb hk
            obtain ⟨k, hk, rfl, hno, hb⟩ := hrel
            obtain ⟨x1, x2, x3⟩ := box3 hb
            have HN : Hid (anyTo R.num3 k = false) := hno
            clear hno
            by_cases hlt : k < R.n3
            · obtain ⟨b, o, hbl, hix, hi, -⟩ := (hR.below (below_box hb)).l3.edit k3 hlt
              go_wp2_with (go_at_call 117; refine (outOfRange_any _ _ _).mono ?_; rintro e w' ⟨rfl, rfl⟩)
              · have hp : R.num3 k = true := by unfold Rep.num3; assumption
                go_ret
                exact ⟨ret_bool (by simp [Rep.numB, anyTo_hit hlt hp]), below_box hb⟩
              · have hp : R.num3 k = false := by unfold Rep.num3; assumption
                go_roundw
                case rel => exact ⟨k + 1, by omega, by go_num, anyTo_no HN.out hp, hb⟩
                case measure => simp [intOf]; omega
            · have e1 : k = R.n3 := by omega
              have N3 : Hid (anyTo R.num3 R.n3 = false) := e1 ▸ HN.out
              clear HN e1
              go_wp2
              go_ret
              exact ⟨ret_bool (by simp [Rep.numB, N1.out, N2.out, N3.out]), below_box hb⟩


end Go.Proofs.Ytdjpkgaicmklmaa

/- sound.wrongText, walked. -/
namespace Go.Proofs.Ytdjpkgaicmklmaa
open Go.RowKit

set_option maxHeartbeats 2000000 in
theorem wrongText_any (R : Rep) (a1 a2 a3 : Option Addr) (k1 k2 k3 : Nat) (w : World) (hR : Has w R a1 a2 a3) :
    Calls Try.prog 76 #[repV R a1 a2 a3 k1 k2 k3] w fun e w' => e = .returned (.bool R.txtB) ∧ Below w.heap.size w w' := by
  have b1 := hR.b1; have b2 := hR.b2; have b3 := hR.b3
  go_enter Try.func76, Try.ntmps76
  go_wp2
  go_loopw [3] (fun i wr => ∃ k : Nat, k ≤ R.n2 ∧ i = .int .i64 k ∧ anyTo R.txt2 k = false ∧ BoxR w R a1 a2 a3 k1 k2 k3 wr) (fun i _ => R.n2 - (intOf i).toNat)
  case atStart => exact ⟨0, Nat.zero_le _, rfl, rfl, Below.refl _ _⟩
  case round =>
    obtain ⟨k, hk, rfl, hno, hb⟩ := hrel
    obtain ⟨x1, x2, x3⟩ := box3 hb
    have HN : Hid (anyTo R.txt2 k = false) := hno
    clear hno
    by_cases hlt : k < R.n2
    · obtain ⟨b, o, hbl, hix, -, -, -, hg, ht⟩ := (hR.below (below_box hb)).l2.card k2 hlt
      go_wp2
      · have hp : R.txt2 k = true := by unfold Rep.txt2 longB; simp [‹(60 : Int) < ((R.d k).text.size : Int)›]
        go_ret
        exact ⟨ret_bool (by simp [Rep.txtB, anyTo_hit hlt hp]), below_box hb⟩
      · have hp : R.txt2 k = true := by unfold Rep.txt2; simp only [‹(R.d k).gone = true›, ‹(!(R.d k).text.toList.isEmpty) = true›]; simp
        go_ret
        exact ⟨ret_bool (by simp [Rep.txtB, anyTo_hit hlt hp]), below_box hb⟩
      · have hp : R.txt2 k = false := by
          have h1 : ((R.d k).text.size : Int) ≤ 60 := by assumption
          unfold Rep.txt2 longB; simp only [‹(!(R.d k).text.toList.isEmpty) = false›]; simp; omega
        go_roundw
        case rel => exact ⟨k + 1, by omega, by go_num, anyTo_no HN.out hp, hb⟩
        case measure => simp [intOf]; omega
      · have hp : R.txt2 k = false := by
          have h1 : ((R.d k).text.size : Int) ≤ 60 := by assumption
          have h2 : ¬ (R.d k).gone = true := by assumption
          unfold Rep.txt2 longB; simp [h2]; omega
        go_roundw
        case rel => exact ⟨k + 1, by omega, by go_num, anyTo_no HN.out hp, hb⟩
        case measure => simp [intOf]; omega
    · have e1 : k = R.n2 := by omega
      have N1 : Hid (anyTo R.txt2 R.n2 = false) := e1 ▸ HN.out
      clear HN e1
      go_wp2
      go_loopw [4] (fun i wr => ∃ k : Nat, k ≤ R.n3 ∧ i = .int .i64 k ∧ anyTo R.txt3 k = false ∧ BoxR w R a1 a2 a3 k1 k2 k3 wr) (fun i _ => R.n3 - (intOf i).toNat)
      case atStart => exact ⟨0, Nat.zero_le _, rfl, rfl, hb⟩
      case round =>
        clear x1 x2 x3 hb hk
        obtain ⟨k, hk, rfl, hno, hb⟩ := hrel
        obtain ⟨x1, x2, x3⟩ := box3 hb
        have HN : Hid (anyTo R.txt3 k = false) := hno
        clear hno
        by_cases hlt : k < R.n3
        · obtain ⟨b, o, hbl, hix, -, ht⟩ := (hR.below (below_box hb)).l3.edit k3 hlt
          go_wp2
          · have hp : R.txt3 k = true := by unfold Rep.txt3 longB; simp [‹(60 : Int) < ((R.e k).text.size : Int)›]
            go_ret
            exact ⟨ret_bool (by simp [Rep.txtB, anyTo_hit hlt hp]), below_box hb⟩
          · have hp : R.txt3 k = false := by
              have h1 : ((R.e k).text.size : Int) ≤ 60 := by assumption
              unfold Rep.txt3 longB; simp; omega
            go_roundw
            case rel => exact ⟨k + 1, by omega, by go_num, anyTo_no HN.out hp, hb⟩
            case measure => simp [intOf]; omega
        · have e1 : k = R.n3 := by omega
          have N2 : Hid (anyTo R.txt3 R.n3 = false) := e1 ▸ HN.out
          clear HN e1
          go_wp2
          go_ret
          exact ⟨ret_bool (by simp [Rep.txtB, N1.out, N2.out]), below_box hb⟩


end Go.Proofs.Ytdjpkgaicmklmaa

/- sound.notRising, walked. -/
namespace Go.Proofs.Ytdjpkgaicmklmaa
open Go.RowKit

set_option maxHeartbeats 2000000 in
theorem notRising_any (R : Rep) (a1 a2 a3 : Option Addr) (k1 k2 k3 : Nat) (w : World) (hR : Has w R a1 a2 a3) :
    Calls Try.prog 77 #[repV R a1 a2 a3 k1 k2 k3] w fun e w' => e = .returned (.bool R.risB) ∧ Below w.heap.size w w' := by
  have b1 := hR.b1; have b2 := hR.b2; have b3 := hR.b3
  go_enter Try.func77, Try.ntmps77
  go_wp2
  go_loopw [3] (fun i wr => ∃ k : Nat, k ≤ R.n1 - 1 ∧ i = .int .i64 ((k : Int) + 1) ∧ anyTo R.ris1 k = false ∧ BoxR w R a1 a2 a3 k1 k2 k3 wr) (fun i _ => R.n1 - (intOf i).toNat)
  case atStart => exact ⟨0, Nat.zero_le _, rfl, rfl, Below.refl _ _⟩
  case round =>
    obtain ⟨k, hk, rfl, hno, hb⟩ := hrel
    obtain ⟨x1, x2, x3⟩ := box3 hb
    have HN : Hid (anyTo R.ris1 k = false) := hno
    clear hno
    by_cases hlt : k + 1 < R.n1
    · obtain ⟨b, o, hbl, hix, hs, -⟩ := (hR.below (below_box hb)).l1.clock k1 (show k < R.n1 by omega)
      obtain ⟨b', o', hbl', hix', hs', -⟩ := (hR.below (below_box hb)).l1.clock k1 hlt
      rw [show ((k + 1 : Nat) : Int) = (k : Int) + 1 from by omega] at hix'
      go_wp2
      go_quiet (fail)
      go_wp2
      · have hp : R.ris1 k = true := by unfold Rep.ris1; simp [‹(R.c (k + 1)).site ≤ (R.c k).site›]
        go_ret
        exact ⟨ret_bool (by simp [Rep.risB, anyTo_hit (show k < R.n1 - 1 by omega) hp]), below_drewN (below_box hb) _⟩
      · have hp : R.ris1 k = false := by
          have h1 : (R.c k).site < (R.c (k + 1)).site := by assumption
          unfold Rep.ris1; simp; omega
        go_roundw
        case rel => exact ⟨k + 1, by omega, by go_num, anyTo_no HN.out hp, below_drewN hb _⟩
        case measure => simp [intOf]; omega
    · have e1 : k = R.n1 - 1 := by omega
      have N1 : Hid (anyTo R.ris1 (R.n1 - 1) = false) := e1 ▸ HN.out
      clear HN e1
      go_wp2
      go_loopw [4] (fun i wr => ∃ k : Nat, k ≤ R.n2 - 1 ∧ i = .int .i64 ((k : Int) + 1) ∧ anyTo R.ris2 k = false ∧ BoxR w R a1 a2 a3 k1 k2 k3 wr) (fun i _ => R.n2 - (intOf i).toNat)
      case atStart => exact ⟨0, Nat.zero_le _, rfl, rfl, hb⟩
      case round =>
        clear x1 x2 x3 hb hk hlt
        obtain ⟨k, hk, rfl, hno, hb⟩ := hrel
        obtain ⟨x1, x2, x3⟩ := box3 hb
        have HN : Hid (anyTo R.ris2 k = false) := hno
        clear hno
        by_cases hlt : k + 1 < R.n2
        · obtain ⟨b, o, hbl, hix, hs, -, -, -, -⟩ := (hR.below (below_box hb)).l2.card k2 (show k < R.n2 by omega)
          obtain ⟨b', o', hbl', hix', hs', -, -, -, -⟩ := (hR.below (below_box hb)).l2.card k2 hlt
          rw [show ((k + 1 : Nat) : Int) = (k : Int) + 1 from by omega] at hix'
          go_wp2
          go_quiet (fail)
          go_wp2
          · have hp : R.ris2 k = true := by unfold Rep.ris2; simp [‹(R.d (k + 1)).id ≤ (R.d k).id›]
            go_ret
            exact ⟨ret_bool (by simp [Rep.risB, anyTo_hit (show k < R.n2 - 1 by omega) hp]), below_drewN (below_box hb) _⟩
          · have hp : R.ris2 k = false := by
              have h1 : (R.d k).id < (R.d (k + 1)).id := by assumption
              unfold Rep.ris2; simp; omega
            go_roundw
            case rel => exact ⟨k + 1, by omega, by go_num, anyTo_no HN.out hp, below_drewN hb _⟩
            case measure => simp [intOf]; omega
        · have e1 : k = R.n2 - 1 := by omega
          have N2 : Hid (anyTo R.ris2 (R.n2 - 1) = false) := e1 ▸ HN.out
          clear HN e1
          go_wp2
          go_ret
          exact ⟨ret_bool (by simp [Rep.risB, N1.out, N2.out]), below_box hb⟩

end Go.Proofs.Ytdjpkgaicmklmaa

/- replicas.CountOf and sound.uncovered, walked. -/
namespace Go.Proofs.Ytdjpkgaicmklmaa
open Go.RowKit

set_option maxHeartbeats 1000000 in
theorem countOf_any (a : Option Addr) (n cap : Nat) (c : Nat → Ck) (site : Int) (w : World) (hn : n ≤ 140737488355328) (hL : Lies w a n 2 (fun i => (c i).cells)) :
    Calls Try.prog 118 #[.slice a n cap, .int .i64 site] w fun e w' => e = .returned (.int .i64 ((clockTo c site n).getD 0)) ∧ w' = w := by
  go_enter Try.func118, Try.ntmps118
  go_wp2
  go_loop [5] (fun i => ∃ k : Nat, k ≤ n ∧ i = .int .i64 k ∧ clockTo c site k = none) (fun i => n - (intOf i).toNat)
  case atStart => exact ⟨0, Nat.zero_le _, rfl, rfl⟩
  case round =>
    obtain ⟨k, hk, rfl, hno⟩ := hrel
    have HN : Hid (clockTo c site k = none) := hno
    clear hno
    by_cases hlt : k < n
    · obtain ⟨b, o, hbl, hix, hs, hc⟩ := hL.clock cap hlt
      go_wp2
      · have hp : (c k).site = site := by simpa using ‹((c k).site == site) = true›
        go_ret
        exact ⟨ret_int (by rw [clockTo_hit hlt HN.out hp]; rfl), rfl⟩
      · have hp : ¬ (c k).site = site := by simpa using ‹((c k).site == site) = false›
        go_round
        case rel => exact ⟨k + 1, by omega, by go_num, clockTo_no HN.out hp⟩
        case measure => simp [intOf]; omega
    · have e1 : k = n := by omega
      have N1 : Hid (clockTo c site n = none) := e1 ▸ HN.out
      clear HN e1
      go_wp2
      go_ret
      exact ⟨ret_int (by rw [N1.out]; rfl), rfl⟩

theorem Lies.drewN {w : World} {a : Option Addr} {n m : Nat} {f : Nat → List Value} (h : Lies w a n m f) (q : Nat) : Lies (w.drewN q) a n m f := h.below (below_drewN (Below.refl _ _) _)

set_option maxHeartbeats 1000000 in
theorem uncovered_any (R : Rep) (a1 a2 a3 : Option Addr) (k1 k2 k3 : Nat) (w : World) (hR : Has w R a1 a2 a3) :
    Calls Try.prog 78 #[repV R a1 a2 a3 k1 k2 k3] w fun e w' => e = .returned (.bool R.uncB) ∧ Below w.heap.size w w' := by
  have b1 := hR.b1; have b2 := hR.b2; have b3 := hR.b3
  go_enter Try.func78, Try.ntmps78
  go_wp2
  go_loopw [3] (fun i wr => ∃ k : Nat, k ≤ R.n2 ∧ i = .int .i64 k ∧ anyTo R.unc k = false ∧ BoxR w R a1 a2 a3 k1 k2 k3 wr) (fun i _ => R.n2 - (intOf i).toNat)
  case atStart => exact ⟨0, Nat.zero_le _, rfl, rfl, Below.refl _ _⟩
  case round =>
    obtain ⟨k, hk, rfl, hno, hb⟩ := hrel
    obtain ⟨x1, x2, x3⟩ := box3 hb
    have HN : Hid (anyTo R.unc k = false) := hno
    clear hno
    by_cases hlt : k < R.n2
    · obtain ⟨b, o, hbl, hix, -, hs, hc, -, -⟩ := (hR.below (below_box hb)).l2.card k2 hlt
      have hL := (hR.below (below_box hb)).l1
      go_wp2
      go_quiet ((go_at_call 118; exact Calls.quiet_of_same (countOf_any _ _ _ R.c _ _ (by omega) (by exact hL.drewN _))))
      go_wp2
      · have hp : R.unc k = true := by unfold Rep.unc Rep.clk; simp [‹(clockTo R.c (R.d k).site R.n1).getD 0 < (R.d k).count›]
        go_ret
        exact ⟨ret_bool (by simp [Rep.uncB, anyTo_hit hlt hp]), below_drewN (below_box hb) _⟩
      · have hp : R.unc k = false := by
          have h1 : (R.d k).count ≤ (clockTo R.c (R.d k).site R.n1).getD 0 := by assumption
          unfold Rep.unc Rep.clk; simp; omega
        go_roundw
        case rel => exact ⟨k + 1, by omega, by go_num, anyTo_no HN.out hp, below_drewN hb _⟩
        case measure => simp [intOf]; omega
    · have e1 : k = R.n2 := by omega
      have N1 : Hid (anyTo R.unc R.n2 = false) := e1 ▸ HN.out
      clear HN e1
      go_wp2
      go_ret
      exact ⟨ret_bool (by simp [Rep.uncB, N1.out]), below_box hb⟩

end Go.Proofs.Ytdjpkgaicmklmaa

/- sound.TooMany, sound.Check and parcel.Check, walked. -/
namespace Go.Proofs.Ytdjpkgaicmklmaa
open Go.RowKit

set_option maxHeartbeats 1000000 in
theorem tooMany_any (R : Rep) (a1 a2 a3 : Option Addr) (k1 k2 k3 : Nat) (w : World) (hR : Has w R a1 a2 a3) :
    Calls Try.prog 74 #[repV R a1 a2 a3 k1 k2 k3] w fun e w' => e = .returned (.bool R.manyB) ∧ Below w.heap.size w w' := by
  have b1 := hR.b1; have b2 := hR.b2; have b3 := hR.b3
  go_enter Try.func74, Try.ntmps74
  go_wp2
  all_goals (go_ret; refine ⟨ret_bool ?_, (Below.refl _ _).alloc (Nat.le_refl _) _⟩; unfold Rep.manyB; rw [Bool.eq_iff_iff]; simp; try omega)

/-- The world behind a call made with the box laid. -/
theorem boxR_step {w wr w1 : World} {R : Rep} {a1 a2 a3 : Option Addr} {k1 k2 k3 : Nat} (hb : BoxR w R a1 a2 a3 k1 k2 k3 wr) (h : Below wr.heap.size wr w1) : BoxR w R a1 a2 a3 k1 k2 k3 w1 :=
  hb.trans (h.mono (by have := hb.size; simpa using this))

set_option maxHeartbeats 2000000 in
theorem check_any (R : Rep) (a1 a2 a3 : Option Addr) (k1 k2 k3 : Nat) (w : World) (hR : Has w R a1 a2 a3) :
    Calls Try.prog 35 #[repV R a1 a2 a3 k1 k2 k3] w fun e w' => e = .returned (.int .i64 R.chk) ∧ Below w.heap.size w w' := by
  have hb0 : BoxR w R a1 a2 a3 k1 k2 k3 (w.alloc (.cells #[.slice a1 R.n1 k1, .slice a2 R.n2 k2, .slice a3 R.n3 k3] 26)) := Below.refl _ _
  go_enter Try.func35, Try.ntmps35
  go_wp2_with fail
  refine (tooMany_any R a1 a2 a3 k1 k2 k3 _ (hR.below (below_box hb0))).mono ?_
  rintro e w1 ⟨rfl, h1⟩
  have hb1 := boxR_step hb0 h1
  obtain ⟨x1, x2, x3⟩ := box3 hb1
  clear h1 hb0
  cases g1 : R.manyB
  case true =>
    go_wp2_with fail
    go_ret
    exact ⟨ret_int (by simp [Rep.chk, g1]), below_box hb1⟩
  go_wp2_with fail
  refine (wrongNumber_any R a1 a2 a3 k1 k2 k3 _ (hR.below (below_box hb1))).mono ?_
  rintro e w2 ⟨rfl, h1⟩
  have hb2 := boxR_step hb1 h1
  clear x1 x2 x3 h1 hb1
  obtain ⟨x1, x2, x3⟩ := box3 hb2
  cases g2 : R.numB
  case true =>
    go_wp2_with fail
    go_ret
    exact ⟨ret_int (by simp [Rep.chk, g1, g2]), below_box hb2⟩
  go_wp2_with fail
  refine (wrongText_any R a1 a2 a3 k1 k2 k3 _ (hR.below (below_box hb2))).mono ?_
  rintro e w3 ⟨rfl, h1⟩
  have hb3 := boxR_step hb2 h1
  clear x1 x2 x3 h1 hb2
  obtain ⟨x1, x2, x3⟩ := box3 hb3
  cases g3 : R.txtB
  case true =>
    go_wp2_with fail
    go_ret
    exact ⟨ret_int (by simp [Rep.chk, g1, g2, g3]), below_box hb3⟩
  go_wp2_with fail
  refine (notRising_any R a1 a2 a3 k1 k2 k3 _ (hR.below (below_box hb3))).mono ?_
  rintro e w4 ⟨rfl, h1⟩
  have hb4 := boxR_step hb3 h1
  clear x1 x2 x3 h1 hb3
  obtain ⟨x1, x2, x3⟩ := box3 hb4
  cases g4 : R.risB
  case true =>
    go_wp2_with fail
    go_ret
    exact ⟨ret_int (by simp [Rep.chk, g1, g2, g3, g4]), below_box hb4⟩
  go_wp2_with fail
  refine (uncovered_any R a1 a2 a3 k1 k2 k3 _ (hR.below (below_box hb4))).mono ?_
  rintro e w5 ⟨rfl, h1⟩
  have hb5 := boxR_step hb4 h1
  clear x1 x2 x3 h1 hb4
  obtain ⟨x1, x2, x3⟩ := box3 hb5
  cases g5 : R.uncB
  case true =>
    go_wp2_with fail
    go_ret
    exact ⟨ret_int (by simp [Rep.chk, g1, g2, g3, g4, g5]), below_box hb5⟩
  go_wp2_with fail
  refine (clashing_any a2 R.n2 k2 R.d _ hR.b2 (hR.below (below_box hb5)).l2).mono ?_
  rintro e w6 ⟨rfl, h1⟩
  have hb6 := boxR_step hb5 h1
  clear x1 x2 x3 h1 hb5
  have hcl : anyTo (fun i => anyTo (fun k => stampB (R.d i) (R.d k)) i) R.n2 = R.clashB := rfl
  rw [hcl]
  clear hcl
  cases g6 : R.clashB
  case true =>
    go_wp2_with fail
    go_ret
    exact ⟨ret_int (by simp [Rep.chk, g1, g2, g3, g4, g5, g6]), below_box hb6⟩
  go_wp2_with fail
  go_ret
  exact ⟨ret_int (by simp [Rep.chk, g1, g2, g3, g4, g5, g6]), below_box hb6⟩

set_option maxHeartbeats 1000000 in
theorem pcheck_any (R : Rep) (a1 a2 a3 : Option Addr) (k1 k2 k3 : Nat) (w : World) (hR : Has w R a1 a2 a3) :
    Calls Try.prog 15 #[repV R a1 a2 a3 k1 k2 k3] w fun e w' => e = .returned (.int .i64 R.chk) ∧ Below w.heap.size w w' := by
  have hb0 : BoxR w R a1 a2 a3 k1 k2 k3 (w.alloc (.cells #[.slice a1 R.n1 k1, .slice a2 R.n2 k2, .slice a3 R.n3 k3] 26)) := Below.refl _ _
  go_enter Try.func15, Try.ntmps15
  go_wp2_with fail
  refine (check_any R a1 a2 a3 k1 k2 k3 _ (hR.below (below_box hb0))).mono ?_
  rintro e w1 ⟨rfl, h1⟩
  go_wp2_with fail
  go_ret
  exact ⟨rfl, below_box (boxR_step hb0 h1)⟩
end Go.Proofs.Ytdjpkgaicmklmaa

/- parcelref.Check, walked. -/
namespace Go.Proofs.Ytdjpkgaicmklmaa
open Go.RowKit

set_option maxHeartbeats 4000000 in
theorem rcheck_any (R : Rep) (a1 a2 a3 : Option Addr) (k1 k2 k3 : Nat) (w : World) (hR : Has w R a1 a2 a3) :
    Calls Try.prog 16 #[repV R a1 a2 a3 k1 k2 k3] w fun e w' => e = .returned (.int .i64 R.chk) ∧ Below w.heap.size w w' := by
  have b1 := hR.b1; have b2 := hR.b2; have b3 := hR.b3
  have hb0 : BoxR w R a1 a2 a3 k1 k2 k3 (w.alloc (.cells #[.slice a1 R.n1 k1, .slice a2 R.n2 k2, .slice a3 R.n3 k3] 26)) := Below.refl _ _
  cases g1 : R.manyB
  case true =>
    have hm : (8 : Int) < (R.n1 : Int) ∨ (R.n1 : Int) ≤ 8 ∧ ((40 : Int) < (R.n2 : Int) ∨ (R.n2 : Int) ≤ 40 ∧ (16 : Int) < (R.n3 : Int)) := by
      unfold Rep.manyB at g1; simp at g1; omega
    rcases hm with h | ⟨h, h' | ⟨h', h''⟩⟩
    all_goals
      go_enter Try.func16, Try.ntmps16
      go_wp2_with fail
      go_ret
      exact ⟨ret_int (by simp [Rep.chk, g1]), below_box hb0⟩
  have hm : (R.n1 : Int) ≤ 8 ∧ (R.n2 : Int) ≤ 40 ∧ (R.n3 : Int) ≤ 16 := by
    unfold Rep.manyB at g1; simp at g1; omega
  obtain ⟨m1, m2, m3⟩ := hm
  go_enter Try.func16, Try.ntmps16
  go_wp2_with fail
  refine (numbered_any R a1 a2 a3 k1 k2 k3 _ (hR.below (below_box hb0))).mono ?_
  rintro e w2 ⟨rfl, h1⟩
  have hb2 := boxR_step hb0 h1
  clear h1 hb0
  obtain ⟨x1, x2, x3⟩ := box3 hb2
  cases g2 : R.numB
  case true =>
    go_wp2_with fail
    go_ret
    exact ⟨ret_int (by simp [Rep.chk, g1, g2]), below_box hb2⟩
  go_wp2_with fail
  refine (texted_any R a1 a2 a3 k1 k2 k3 _ (hR.below (below_box hb2))).mono ?_
  rintro e w3 ⟨rfl, h1⟩
  have hb3 := boxR_step hb2 h1
  clear x1 x2 x3 h1 hb2
  obtain ⟨x1, x2, x3⟩ := box3 hb3
  cases g3 : R.txtB
  case true =>
    go_wp2_with fail
    go_ret
    exact ⟨ret_int (by simp [Rep.chk, g1, g2, g3]), below_box hb3⟩
  go_wp2_with fail
  refine (rising_any R a1 a2 a3 k1 k2 k3 _ (hR.below (below_box hb3))).mono ?_
  rintro e w4 ⟨rfl, h1⟩
  have hb4 := boxR_step hb3 h1
  clear x1 x2 x3 h1 hb3
  obtain ⟨x1, x2, x3⟩ := box3 hb4
  cases g4 : R.risB
  case true =>
    go_wp2_with fail
    go_ret
    exact ⟨ret_int (by simp [Rep.chk, g1, g2, g3, g4]), below_box hb4⟩
  go_wp2_with fail
  go_loopw [4, 5] (fun i _ wr => ∃ k : Nat, k ≤ R.n2 ∧ i = .int .i64 k ∧ anyTo R.unc k = false ∧ BoxR w R a1 a2 a3 k1 k2 k3 wr) (fun i _ _ => R.n2 - (intOf i).toNat)
  case atStart => exact ⟨0, Nat.zero_le _, rfl, rfl, hb4⟩
  case round =>
    clear x1 x2 x3
    have HB4 : Hid (BoxR w R a1 a2 a3 k1 k2 k3 w4) := hb4
    clear hb4
    obtain ⟨k, hk, rfl, hno, hb⟩ := hrel
    obtain ⟨x1, x2, x3⟩ := box3 hb
    have HN : Hid (anyTo R.unc k = false) := hno
    clear hno
    by_cases hlt : k < R.n2
    · obtain ⟨b, o, hbl, hix, -, hs, hc, -, -⟩ := (hR.below (below_box hb)).l2.card k2 hlt
      have hH := hR.below (below_box hb)
      have hws : w.heap.size < wr.heap.size := by have := hb.size; simp at this; omega
      go_wp2_with fail
      go_region_held3 (fun w' => w'.cell? ⟨w.heap.size, 0, none⟩ = some (.slice a1 R.n1 k1) ∧ w'.cell? ⟨w.heap.size, 1, none⟩ = some (.slice a2 R.n2 k2) ∧ w'.cell? ⟨w.heap.size, 2, none⟩ = some (.slice a3 R.n3 k3) ∧ w'.cell? ⟨b, o + 1, none⟩ = some (.int .i64 (R.d k).site) ∧ w'.cell? ⟨b, o + 2, none⟩ = some (.int .i64 (R.d k).count))
         (first | (go_keep; done) | (simp only [hcc b _ hbl, hcc w.heap.size _ hws]; go_keep; done))
         (first | (go_at_call 39; refine (clocked_any R a1 a2 a3 k1 k2 k3 _ _ (by exact hH.below (below_drewN (Below.refl _ _) 1))).mono ?_; rintro e w' ⟨rfl, hb2⟩; obtain ⟨hcc, hff⟩ := bcell hb2))
      have hb3 : BoxR w R a1 a2 a3 k1 k2 k3 w' := boxR_step (below_drewN hb 1) hb2
      clear hcc hff hb2
      go_wp2_with fail
      · have hp : R.unc k = true := by unfold Rep.unc; simp [‹R.clk (R.d k).site < (R.d k).count›]
        go_ret
        exact ⟨ret_int (by simp [Rep.chk, g1, g2, g3, g4, show R.uncB = true from anyTo_hit hlt hp]), below_box hb3⟩
      · have hp : R.unc k = false := by
          have h1 : (R.d k).count ≤ R.clk (R.d k).site := by assumption
          unfold Rep.unc; simp; omega
        go_roundw
        case rel => exact ⟨k + 1, by omega, by go_num, anyTo_no HN.out hp, hb3⟩
        case measure => simp [intOf]; omega
    · have e1 : k = R.n2 := by omega
      have g5 : Hid (R.uncB = false) := by unfold Rep.uncB; rw [← e1]; exact HN.out
      clear HN e1
      go_wp2_with fail
      go_loopw [6, 7] (fun i _ wr => ∃ k : Nat, k ≤ R.n2 ∧ i = .int .i64 k ∧ anyTo R.clash k = false ∧ BoxR w R a1 a2 a3 k1 k2 k3 wr) (fun i _ _ => R.n2 - (intOf i).toNat)
      case atStart => exact ⟨0, Nat.zero_le _, rfl, rfl, hb⟩
      case round =>
        clear x1 x2 x3 hb hk hlt
        obtain ⟨k, hk, rfl, hno, hb⟩ := hrel
        obtain ⟨x1, x2, x3⟩ := box3 hb
        have HN : Hid (anyTo R.clash k = false) := hno
        clear hno
        by_cases hlt : k < R.n2
        · have hd1 : decide ((k : Int) < (R.n2 : Int)) = true := by simp; omega
          go_wp2_with fail
          go_loopw [7] (fun i wr => ∃ j : Nat, j ≤ k ∧ i = .int .i64 j ∧ anyTo (fun i => stampB (R.d k) (R.d i)) j = false ∧ BoxR w R a1 a2 a3 k1 k2 k3 wr) (fun i _ => k - (intOf i).toNat)
          case atStart => exact ⟨0, Nat.zero_le _, rfl, rfl, hb⟩
          case round =>
            clear x1 x2 x3 hb
            obtain ⟨j, hj, rfl, hno, hb⟩ := hrel
            obtain ⟨x1, x2, x3⟩ := box3 hb
            have HM : Hid (anyTo (fun i => stampB (R.d k) (R.d i)) j = false) := hno
            clear hno
            by_cases hjt : j < k
            · obtain ⟨b, o, hbl, hix, -, c2, c3, -, -⟩ := (hR.below (below_box hb)).l2.card k2 hlt
              obtain ⟨b', o', hbl', hix', -, c2', c3', -, -⟩ := (hR.below (below_box hb)).l2.card k2 (show j < R.n2 by omega)
              by_cases hss : (R.d k).site = (R.d j).site
              · have hs1 : ((R.d k).site == (R.d j).site) = true := by simp [hss]
                clear hss
                go_wp2_with fail
                go_quiet (fail)
                go_wp2_with fail
                · have hp : stampB (R.d k) (R.d j) = true := by unfold stampB; rw [hs1, ‹((R.d k).count == (R.d j).count) = true›]; rfl
                  go_ret
                  refine ⟨ret_int ?_, below_box (below_drewN hb _)⟩
                  have hc : R.clashB = true := anyTo_hit (p := R.clash) hlt (anyTo_hit (p := fun i => stampB (R.d k) (R.d i)) hjt hp)
                  simp [Rep.chk, g1, g2, g3, g4, g5.out, hc]
                · have hp : stampB (R.d k) (R.d j) = false := by unfold stampB; rw [hs1, ‹((R.d k).count == (R.d j).count) = false›]; rfl
                  go_roundw
                  case rel => exact ⟨j + 1, by omega, by go_num, anyTo_no (p := fun i => stampB (R.d k) (R.d i)) HM.out hp, below_drewN hb _⟩
                  case measure => simp [intOf]; omega
              · have hs1 : ((R.d k).site == (R.d j).site) = false := by simp [hss]
                clear hss
                go_wp2_with fail
                go_quiet (fail)
                go_wp2_with fail
                have hp : stampB (R.d k) (R.d j) = false := by unfold stampB; rw [hs1]; rfl
                go_roundw
                case rel => exact ⟨j + 1, by omega, by go_num, anyTo_no (p := fun i => stampB (R.d k) (R.d i)) HM.out hp, below_drewN hb _⟩
                case measure => simp [intOf]; omega
            · have e1 : j = k := by omega
              have N1 : Hid (R.clash k = false) := by unfold Rep.clash; rw [← e1]; rw [← e1] at HM; exact HM.out
              clear HM e1
              go_wp2_with fail
              go_roundw
              case rel => exact ⟨k + 1, by omega, by go_num, anyTo_no HN.out N1.out, hb⟩
              case measure => simp [intOf]; omega
        · have e1 : k = R.n2 := by omega
          have g6 : Hid (R.clashB = false) := by unfold Rep.clashB; rw [← e1]; exact HN.out
          clear HN e1
          go_wp2_with fail
          go_ret
          exact ⟨ret_int (by simp [Rep.chk, g1, g2, g3, g4, g5.out, g6.out]), below_box hb⟩
end Go.Proofs.Ytdjpkgaicmklmaa

/- parcellaw.Checks: called with any replica that lies in memory it answers true, and nothing that was there has turned. -/
namespace Go.Proofs.Ytdjpkgaicmklmaa
open Go.RowKit

theorem below_step2 {w w1 wr : World} {R : Rep} {a1 a2 a3 : Option Addr} {k1 k2 k3 : Nat} {o : Obj} (hb : BoxR w R a1 a2 a3 k1 k2 k3 w1) (h : Below (w1.heap.size + 1) (w1.alloc o) wr) : BoxR w R a1 a2 a3 k1 k2 k3 wr :=
  boxR_step hb (below_box h)

set_option maxRecDepth 100000 in
set_option maxHeartbeats 4000000 in
theorem checks_any (R : Rep) (a1 a2 a3 : Option Addr) (k1 k2 k3 : Nat) (w : World) (hR : Has w R a1 a2 a3) :
    Calls Try.prog 3 #[repV R a1 a2 a3 k1 k2 k3] w fun e w' => e = .returned (.bool true) ∧ Below w.heap.size w w' := by
  have hb0 : BoxR w R a1 a2 a3 k1 k2 k3 (w.alloc (.cells #[.slice a1 R.n1 k1, .slice a2 R.n2 k2, .slice a3 R.n3 k3] 26)) := Below.refl _ _
  go_enter Try.func3, Try.ntmps3
  go_wp2_with fail
  refine (handed_any R a1 a2 a3 k1 k2 k3 _ (hR.below (below_box hb0))).mono ?_
  rintro e w1 ⟨b1, b2, b3, g1, g2, g3, rfl, hH, hg, h1⟩
  have hb1 := boxR_step hb0 h1
  clear h1 hb0
  obtain ⟨x1, x2, x3⟩ := box3 hb1
  have hws : w.heap.size < w1.heap.size := by have := hb1.size; simp at this; omega
  have hq0 : BoxR w1 R b1 b2 b3 (R.n1 + 2) (R.n2 + 2) (R.n3 + 2) (w1.alloc (.cells #[.slice b1 R.n1 (R.n1 + 2), .slice b2 R.n2 (R.n2 + 2), .slice b3 R.n3 (R.n3 + 2)] 26)) := Below.refl _ _
  go_wp2_with fail
  refine (pcheck_any R b1 b2 b3 _ _ _ _ ((hH.has hR).below (below_box hq0))).mono ?_
  rintro e w2 ⟨rfl, h2⟩
  have hq2 := boxR_step hq0 h2
  clear h2 hq0 x1 x2 x3
  obtain ⟨x1, x2, x3⟩ := box3 (below_step2 hb1 hq2)
  obtain ⟨z1, z2, z3⟩ := box3 hq2
  go_wp2_with fail
  refine (rcheck_any R a1 a2 a3 _ _ _ _ (hR.below (below_box (below_step2 hb1 hq2)))).mono ?_
  rintro e w3 ⟨rfl, h3⟩
  have hq3 := boxR_step hq2 h3
  clear h3 hq2 x1 x2 x3 z1 z2 z3
  obtain ⟨x1, x2, x3⟩ := box3 (below_step2 hb1 hq3)
  obtain ⟨z1, z2, z3⟩ := box3 hq3
  go_wp2_with fail
  refine (still_any R a1 a2 a3 b1 b2 b3 g1 g2 g3 _ _ _ _ (hR.below (below_box (below_step2 hb1 hq3))) (hH.below (below_box hq3))).mono ?_
  rintro e w4 ⟨rfl, h4⟩
  have hq4 := boxR_step hq3 h4
  clear h4 hq3 x1 x2 x3 z1 z2 z3
  go_wp2_with fail
  go_ret
  exact ⟨rfl, below_box (below_step2 hb1 hq4)⟩
end Go.Proofs.Ytdjpkgaicmklmaa

/- Export of both, and parcellaw.Exports: called with any replica that lies in memory it answers true. -/
namespace Go.Proofs.Ytdjpkgaicmklmaa
open Go.RowKit

/-- A sound replica can be written. -/
theorem Rep.fit {R : Rep} (h : R.chk = 0) : Fit R := by
  have g1 : R.manyB = false := by
    cases hh : R.manyB
    · rfl
    · simp [Rep.chk, hh] at h
  have g2 : R.numB = false := by
    cases hh : R.numB
    · rfl
    · simp [Rep.chk, g1, hh] at h
  have g3 : R.txtB = false := by
    cases hh : R.txtB
    · rfl
    · simp [Rep.chk, g1, g2, hh] at h
  have hm : R.n1 ≤ 8 ∧ R.n2 ≤ 40 ∧ R.n3 ≤ 16 := by
    unfold Rep.manyB at g1; simp at g1; omega
  unfold Rep.numB at g2
  simp only [Bool.or_eq_false_iff] at g2
  unfold Rep.txtB at g3
  simp only [Bool.or_eq_false_iff] at g3
  have num : ∀ n m : Int, outB n m = false → m ≤ 4611686018427387904 → Num n := by
    intro n m hh hm
    unfold outB at hh
    simp at hh
    exact ⟨by omega, by omega⟩
  have none_of : ∀ (p : Nat → Bool) (n : Nat), anyTo p n = false → ∀ i, i < n → p i = false := by
    intro p n hh i hi
    cases hp : p i
    · rfl
    · rw [anyTo_hit hi hp] at hh; cases hh
  have long : ∀ t : ByteArray, longB t = false → t.size ≤ 60 := by
    intro t ht
    unfold longB at ht
    simp at ht
    omega
  refine ⟨by omega, by omega, by omega, fun i hi => ?_, fun i hi => ?_, fun i hi => ?_⟩
  · have h1 := none_of _ _ g2.1 i hi
    unfold Rep.num1 scB at h1
    simp only [Bool.or_eq_false_iff] at h1
    exact ⟨num _ _ h1.1 (by decide), num _ _ h1.2 (by decide)⟩
  · have h1 := none_of _ _ g2.2.1 i hi
    unfold Rep.num2 scB at h1
    simp only [Bool.or_eq_false_iff] at h1
    have h2 := none_of _ _ g3.1 i hi
    unfold Rep.txt2 at h2
    simp only [Bool.or_eq_false_iff] at h2
    exact ⟨num _ _ h1.2 (by decide), num _ _ h1.1.1 (by decide), num _ _ h1.1.2 (by decide), long _ h2.1⟩
  · have h1 := none_of _ _ g2.2.2 i hi
    unfold Rep.num3 at h1
    have h2 := none_of _ _ g3.2 i hi
    unfold Rep.txt3 at h2
    exact ⟨num _ _ h1 (by decide), long _ h2⟩

/-- The answer of Export. -/
def Rep.exp (R : Rep) : List UInt8 := if R.chk = 0 then bundleB (recsOf 0 0 R) else []

set_option maxRecDepth 100000 in
set_option maxHeartbeats 2000000 in
theorem export_any (R : Rep) (a1 a2 a3 : Option Addr) (k1 k2 k3 : Nat) (w : World) (hR : Has w R a1 a2 a3) :
    Calls Try.prog 18 #[repV R a1 a2 a3 k1 k2 k3] w fun e w' => e = .returned (.tuple #[.string (str R.exp), .int .i64 R.chk]) ∧ Below w.heap.size w w' := by
  have hb0 : BoxR w R a1 a2 a3 k1 k2 k3 (w.alloc (.cells #[.slice a1 R.n1 k1, .slice a2 R.n2 k2, .slice a3 R.n3 k3] 26)) := Below.refl _ _
  go_enter Try.func18, Try.ntmps18
  go_wp2_with fail
  refine (check_any R a1 a2 a3 k1 k2 k3 _ (hR.below (below_box hb0))).mono ?_
  rintro e w1 ⟨rfl, h1⟩
  have hb1 := boxR_step hb0 h1
  clear h1 hb0
  by_cases hc : R.chk = 0
  · have E : Hid (R.exp = bundleB (recsOf 0 0 R)) := by show _ = _; unfold Rep.exp; rw [if_pos hc]
    have hF := Rep.fit hc
    obtain ⟨x1, x2, x3⟩ := box3 hb1
    rw [hc]
    have HC : Hid (R.chk = 0) := hc
    clear hc
    go_wp2_with fail
    refine (bundle_any 0 0 R a1 a2 a3 k1 k2 k3 _ (hR.below (below_box hb1)) hF ⟨by decide, by decide⟩ (by decide) (by decide)).mono ?_
    rintro e w2 ⟨rfl, h2⟩
    have hb2 := boxR_step hb1 h2
    go_wp2_with fail
    go_ret2
    exact ⟨by rw [E.out, HC.out]; rfl, below_box hb2⟩
  · have E : Hid (R.exp = []) := by show _ = _; unfold Rep.exp; rw [if_neg hc]
    have hcb : (R.chk != 0) = true := by simp [hc]
    clear hc
    go_wp2_with fail
    go_ret2
    exact ⟨by rw [E.out]; rfl, below_box hb1⟩

set_option maxRecDepth 100000 in
set_option maxHeartbeats 2000000 in
theorem rexport_any (R : Rep) (a1 a2 a3 : Option Addr) (k1 k2 k3 : Nat) (w : World) (hR : Has w R a1 a2 a3) :
    Calls Try.prog 19 #[repV R a1 a2 a3 k1 k2 k3] w fun e w' => e = .returned (.tuple #[.string (str R.exp), .int .i64 R.chk]) ∧ Below w.heap.size w w' := by
  have hb0 : BoxR w R a1 a2 a3 k1 k2 k3 (w.alloc (.cells #[.slice a1 R.n1 k1, .slice a2 R.n2 k2, .slice a3 R.n3 k3] 26)) := Below.refl _ _
  go_enter Try.func19, Try.ntmps19
  go_wp2_with fail
  refine (rcheck_any R a1 a2 a3 k1 k2 k3 _ (hR.below (below_box hb0))).mono ?_
  rintro e w1 ⟨rfl, h1⟩
  have hb1 := boxR_step hb0 h1
  clear h1 hb0
  by_cases hc : R.chk = 0
  · have E : Hid (R.exp = bundleB (recsOf 0 0 R)) := by show _ = _; unfold Rep.exp; rw [if_pos hc]
    have hF := Rep.fit hc
    obtain ⟨x1, x2, x3⟩ := box3 hb1
    rw [hc]
    have HC : Hid (R.chk = 0) := hc
    clear hc
    go_wp2_with fail
    refine (rbundle_any 0 0 R a1 a2 a3 k1 k2 k3 _ (hR.below (below_box hb1)) hF ⟨by decide, by decide⟩ (by decide) (by decide)).mono ?_
    rintro e w2 ⟨rfl, h2⟩
    have hb2 := boxR_step hb1 h2
    go_wp2_with fail
    go_ret2
    exact ⟨by rw [E.out, HC.out]; rfl, below_box hb2⟩
  · have E : Hid (R.exp = []) := by show _ = _; unfold Rep.exp; rw [if_neg hc]
    have hcb : (R.chk != 0) = true := by simp [hc]
    clear hc
    go_wp2_with fail
    go_ret2
    exact ⟨by rw [E.out]; rfl, below_box hb1⟩

set_option maxRecDepth 100000 in
set_option maxHeartbeats 4000000 in
theorem exports_any (R : Rep) (a1 a2 a3 : Option Addr) (k1 k2 k3 : Nat) (w : World) (hR : Has w R a1 a2 a3) :
    Calls Try.prog 4 #[repV R a1 a2 a3 k1 k2 k3] w fun e w' => e = .returned (.bool true) ∧ Below w.heap.size w w' := by
  have hb0 : BoxR w R a1 a2 a3 k1 k2 k3 (w.alloc (.cells #[.slice a1 R.n1 k1, .slice a2 R.n2 k2, .slice a3 R.n3 k3] 26)) := Below.refl _ _
  go_enter Try.func4, Try.ntmps4
  go_wp2_with fail
  refine (handed_any R a1 a2 a3 k1 k2 k3 _ (hR.below (below_box hb0))).mono ?_
  rintro e w1 ⟨b1, b2, b3, g1, g2, g3, rfl, hH, hg, h1⟩
  have hb1 := boxR_step hb0 h1
  clear h1 hb0
  obtain ⟨x1, x2, x3⟩ := box3 hb1
  have hws : w.heap.size < w1.heap.size := by have := hb1.size; simp at this; omega
  have hq0 : BoxR w1 R b1 b2 b3 (R.n1 + 2) (R.n2 + 2) (R.n3 + 2) (w1.alloc (.cells #[.slice b1 R.n1 (R.n1 + 2), .slice b2 R.n2 (R.n2 + 2), .slice b3 R.n3 (R.n3 + 2)] 26)) := Below.refl _ _
  go_wp2_with fail
  refine (export_any R b1 b2 b3 _ _ _ _ ((hH.has hR).below (below_box hq0))).mono ?_
  rintro e w2 ⟨rfl, h2⟩
  have hq2 := boxR_step hq0 h2
  clear h2 hq0 x1 x2 x3
  obtain ⟨x1, x2, x3⟩ := box3 (below_step2 hb1 hq2)
  obtain ⟨z1, z2, z3⟩ := box3 hq2
  go_wp2_with fail
  refine (rexport_any R a1 a2 a3 _ _ _ _ (hR.below (below_box (below_step2 hb1 hq2)))).mono ?_
  rintro e w3 ⟨rfl, h3⟩
  have hq3 := boxR_step hq2 h3
  clear h3 hq2 x1 x2 x3 z1 z2 z3
  obtain ⟨x1, x2, x3⟩ := box3 (below_step2 hb1 hq3)
  obtain ⟨z1, z2, z3⟩ := box3 hq3
  go_wp2_with fail
  refine (still_any R a1 a2 a3 b1 b2 b3 g1 g2 g3 _ _ _ _ (hR.below (below_box (below_step2 hb1 hq3))) (hH.below (below_box hq3))).mono ?_
  rintro e w4 ⟨rfl, h4⟩
  have hq4 := boxR_step hq3 h4
  clear h4 hq3 x1 x2 x3 z1 z2 z3
  go_wp2_with fail
  go_ret
  exact ⟨rfl, below_box (below_step2 hb1 hq4)⟩
end Go.Proofs.Ytdjpkgaicmklmaa

/- parcelkeep's bytes and same, walked. -/
namespace Go.Proofs.Ytdjpkgaicmklmaa
open Go.RowKit

theorem bytesI_le : ∀ (k : Nat) (n : Int), bytesI k n ≤ k + 1
  | 0, n => by simp [bytesI]
  | k + 1, n => by
    simp only [bytesI]; split
    · omega
    · have := bytesI_le k (n / 128); omega
theorem bytesI_small (k : Nat) (n : Int) (h : n < 128) : bytesI k n = 1 := by
  cases k with
  | zero => rfl
  | succ k => simp [bytesI, h]

set_option maxRecDepth 100000 in
set_option maxHeartbeats 2000000 in
theorem bytes_any (n : Int) (w : World) (hn : Num n) :
    Calls Try.prog 72 #[.int .i64 n] w fun e w' => e = .returned (.int .i64 (bytesI 9 n : Nat)) ∧ w' = w := by
  obtain ⟨h0, h1⟩ := hn
  go_enter Try.func72, Try.ntmps72
  go_wp2
  go_loopw [0, 3] (fun v u wr => ∃ (k N : Nat) (y : Int), v = .int .i64 y ∧ u = .int .i64 ((N : Int) + 1) ∧ 0 ≤ y ∧ y ≤ 9223372036854775807 ∧ y < 128 ^ (k + 1) ∧ N + bytesI k y = bytesI 9 n ∧ N + k = 9 ∧ wr = w) (fun v _ _ => (intOf v).toNat)
  case atStart => exact ⟨9, 0, n, rfl, rfl, h0, h1, by omega, by omega, rfl, rfl⟩
  case round =>
    obtain ⟨k, N, y, rfl, rfl, y0, y1, hy, hns, hk, hw⟩ := hrel
    obtain rfl := hw.symm
    have HY : Hid (y < 128 ^ (k + 1)) := hy
    have HN : Hid (N + bytesI k y = bytesI 9 n) := hns
    have HK : Hid (N + k = 9) := hk
    have hN : N ≤ 9 := by omega
    clear hy hns hk
    by_cases hlt : 127 < y
    · have hq : y.tdiv 128 = y / 128 := Int.tdiv_eq_ediv_of_nonneg (by omega)
      go_wp2_with fail
      have hk1 : ∃ j, k = j + 1 := by
        rcases k with _ | j
        · have := HY.out; simp at this; omega
        · exact ⟨j, rfl⟩
      obtain ⟨j, rfl⟩ := hk1
      have e1 : bytesI (j + 1) y = bytesI j (y / 128) + 1 := by simp only [bytesI]; rw [if_neg (by omega)]
      have e2 : (N + 1) + bytesI j (y / 128) = bytesI 9 n := by rw [← HN.out, e1]; omega
      have e3 : y / 128 < 128 ^ (j + 1) := by
        have h := HY.out
        rw [Int.pow_succ] at h
        exact Int.ediv_lt_of_lt_mul (by omega) h
      have e4 : N + 1 + j = 9 := by have := HK.out; omega
      go_roundw
      case rel => exact ⟨j, N + 1, y / 128, rfl, by go_num, by omega, by omega, e3, e2, e4, by trivial⟩
      case measure => simp [intOf]; omega
    · have hr : bytesI 9 n = N + 1 := by rw [← HN.out, bytesI_small k y (by omega)]
      have HR : Hid (bytesI 9 n = N + 1) := hr
      clear hr
      go_wp2_with fail
      go_ret
      exact ⟨by rw [HR.out]; push_cast; rfl, rfl⟩

/-- The two parameters' boxes. -/
abbrev BoxT (w : World) (R T : Rep) (a1 a2 a3 b1 b2 b3 : Option Addr) (k1 k2 k3 l1 l2 l3 : Nat) (wr : World) : Prop :=
  Below (w.heap.size + 2) ((w.alloc (.cells #[.slice a1 R.n1 k1, .slice a2 R.n2 k2, .slice a3 R.n3 k3] 26)).alloc (.cells #[.slice b1 T.n1 l1, .slice b2 T.n2 l2, .slice b3 T.n3 l3] 26)) wr
theorem BoxT.cells {w : World} {R T : Rep} {a1 a2 a3 b1 b2 b3 : Option Addr} {k1 k2 k3 l1 l2 l3 : Nat} {wr : World} (hb : BoxT w R T a1 a2 a3 b1 b2 b3 k1 k2 k3 l1 l2 l3 wr) :
    (wr.cell? ⟨w.heap.size, 0, none⟩ = some (.slice a1 R.n1 k1) ∧ wr.cell? ⟨w.heap.size, 1, none⟩ = some (.slice a2 R.n2 k2) ∧ wr.cell? ⟨w.heap.size, 2, none⟩ = some (.slice a3 R.n3 k3)) ∧
    (wr.cell? ⟨w.heap.size + 1, 0, none⟩ = some (.slice b1 T.n1 l1) ∧ wr.cell? ⟨w.heap.size + 1, 1, none⟩ = some (.slice b2 T.n2 l2) ∧ wr.cell? ⟨w.heap.size + 1, 2, none⟩ = some (.slice b3 T.n3 l3)) := by
  refine ⟨⟨?_, ?_, ?_⟩, ?_, ?_, ?_⟩
  · rw [hb.cell (p := ⟨w.heap.size, 0, none⟩) (by simp)]; simp
  · rw [hb.cell (p := ⟨w.heap.size, 1, none⟩) (by simp)]; simp
  · rw [hb.cell (p := ⟨w.heap.size, 2, none⟩) (by simp)]; simp
  · rw [hb.cell (p := ⟨w.heap.size + 1, 0, none⟩) (by simp)]; simp
  · rw [hb.cell (p := ⟨w.heap.size + 1, 1, none⟩) (by simp)]; simp
  · rw [hb.cell (p := ⟨w.heap.size + 1, 2, none⟩) (by simp)]; simp
theorem BoxT.old {w : World} {R T : Rep} {a1 a2 a3 b1 b2 b3 : Option Addr} {k1 k2 k3 l1 l2 l3 : Nat} {wr : World} (hb : BoxT w R T a1 a2 a3 b1 b2 b3 k1 k2 k3 l1 l2 l3 wr) : Below w.heap.size w wr :=
  (((Below.refl _ w).alloc (Nat.le_refl _) _).alloc (by simp) _).trans (hb.mono (by omega))

theorem ret_same {R T : Rep} {b : Bool} (h : b = true ↔ Same R T) : ∃ b', Ending.returned (.bool b) = .returned (.bool b') ∧ (b' = true ↔ Same R T) := ⟨b, rfl, h⟩
theorem not_same {R T : Rep} (h : ¬ Same R T) : (false = true ↔ Same R T) := ⟨fun e => (by cases e), fun e => absurd e h⟩

theorem ba_beq {x y : ByteArray} (h : ¬ x = y) : (x == y) = false := by
  cases x with | mk a => cases y with | mk b =>
  have : ¬ a = b := fun e => h (by rw [e])
  show (a == b) = false
  rw [beq_eq_false_iff_ne]; exact this
theorem bl_beq {x y : ByteArray} (h : ¬ x = y) : (x.toList == y.toList) = false := by
  rw [← beq_toListBytes]; exact ba_beq h
theorem ck_ne {x y : Ck} (h : ¬ x = y) : ¬ x.site = y.site ∨ (x.site = y.site ∧ ¬ x.count = y.count) := by
  by_cases h1 : x.site = y.site
  · exact Or.inr ⟨h1, fun h2 => h (by cases x; cases y; simp at h1 h2; simp [h1, h2])⟩
  · exact Or.inl h1
theorem cd_ne {x y : Cd} (h : ¬ x = y) : ¬ x.id = y.id ∨ (x.id = y.id ∧ ¬ x.site = y.site) ∨ (x.id = y.id ∧ x.site = y.site ∧ ¬ x.count = y.count) ∨ (x.id = y.id ∧ x.site = y.site ∧ x.count = y.count ∧ ¬ x.gone = y.gone) ∨ (x.id = y.id ∧ x.site = y.site ∧ x.count = y.count ∧ x.gone = y.gone ∧ ¬ x.text = y.text) := by
  by_cases h1 : x.id = y.id
  · by_cases h2 : x.site = y.site
    · by_cases h3 : x.count = y.count
      · by_cases h4 : x.gone = y.gone
        · exact Or.inr (Or.inr (Or.inr (Or.inr ⟨h1, h2, h3, h4, fun h5 => h (by cases x; cases y; simp at h1 h2 h3 h4 h5; simp [h1, h2, h3, h4, h5])⟩)))
        · exact Or.inr (Or.inr (Or.inr (Or.inl ⟨h1, h2, h3, h4⟩)))
      · exact Or.inr (Or.inr (Or.inl ⟨h1, h2, h3⟩))
    · exact Or.inr (Or.inl ⟨h1, h2⟩)
  · exact Or.inl h1
theorem ed_ne {x y : Ed} (h : ¬ x = y) : ¬ x.id = y.id ∨ (x.id = y.id ∧ ¬ x.text = y.text) := by
  by_cases h1 : x.id = y.id
  · exact Or.inr ⟨h1, fun h2 => h (by cases x; cases y; simp at h1 h2; simp [h1, h2])⟩
  · exact Or.inl h1

set_option maxRecDepth 100000 in
set_option maxHeartbeats 4000000 in
theorem same_len (R : Rep) (tc : Nat → Ck) (td : Nat → Cd) (te : Nat → Ed) (a1 a2 a3 b1 b2 b3 : Option Addr) (k1 k2 k3 l1 l2 l3 : Nat) (w : World) (hA : Has w R a1 a2 a3) (hB : Has w ⟨R.n1, R.n2, R.n3, tc, td, te⟩ b1 b2 b3) :
    Calls Try.prog 32 #[repV R a1 a2 a3 k1 k2 k3, repV R b1 b2 b3 l1 l2 l3] w fun e w' => ∃ b, (e = .returned (.bool b) ∧ (b = true ↔ Same R ⟨R.n1, R.n2, R.n3, tc, td, te⟩)) ∧ Below w.heap.size w w' := by
  have y1 := hA.b1; have y2 := hA.b2; have y3 := hA.b3
  go_enter Try.func32, Try.ntmps32
  go_wp2
  go_loopw [5] (fun i wr => ∃ k : Nat, k ≤ R.n1 ∧ i = .int .i64 k ∧ (∀ j, j < k → R.c j = tc j) ∧ BoxS w R a1 a2 a3 b1 b2 b3 k1 k2 k3 l1 l2 l3 wr) (fun i _ => R.n1 - (intOf i).toNat)
  case atStart => exact ⟨0, Nat.zero_le _, rfl, fun j h => by omega, Below.refl _ _⟩
  case round =>
    obtain ⟨k, hk, rfl, hj, hb⟩ := hrel
    have HJ1 : Hid (∀ j, j < k → R.c j = tc j) := hj
    clear hj
    obtain ⟨⟨x1, x2, x3⟩, z1, z2, z3⟩ := hb.cells
    by_cases hlt : k < R.n1
    · obtain ⟨b, o, hbl, hix, p1, p2⟩ := (hA.below hb.old).l1.clock k1 hlt
      obtain ⟨b', o', hbl', hix', q1, q2⟩ := (hB.below hb.old).l1.clock l1 hlt
      by_cases he : R.c k = tc k
      · have HE : Hid (R.c k = tc k) := he
        rw [he] at p1 p2
        clear he
        go_wp2
        go_quiet (fail)
        go_wp2
        go_roundw
        case rel => exact ⟨k + 1, by omega, by go_num, fun j h => by rcases Nat.lt_succ_iff_lt_or_eq.1 h with h | rfl; exact HJ1.out j h; exact HE.out, below_drewN hb _⟩
        case measure => simp [intOf]; omega
      · have HS : Hid (¬ Same R ⟨R.n1, R.n2, R.n3, tc, td, te⟩) := fun h => he (h.c k hlt)
        have hne := ck_ne he
        clear he
        rcases hne with hne | ⟨r1, hne⟩
        · go_wp2
          go_quiet (fail)
          go_wp2
          go_ret
          exact ⟨_, ⟨rfl, not_same HS.out⟩, BoxS.old (below_drewN hb _)⟩
        · rw [r1] at p1
          clear r1
          go_wp2
          go_quiet (fail)
          go_wp2
          go_ret
          exact ⟨_, ⟨rfl, not_same HS.out⟩, BoxS.old (below_drewN hb _)⟩
    · have E1 : Hid (k = R.n1) := by show _ = _; omega
      have J1 : Hid (∀ j, j < R.n1 → R.c j = tc j) := fun j h => HJ1.out j (by have := E1.out; omega)
      clear HJ1 E1
      go_wp2
      go_loopw [6] (fun i wr => ∃ k : Nat, k ≤ R.n2 ∧ i = .int .i64 k ∧ (∀ j, j < k → R.d j = td j) ∧ BoxS w R a1 a2 a3 b1 b2 b3 k1 k2 k3 l1 l2 l3 wr) (fun i _ => R.n2 - (intOf i).toNat)
      case atStart => exact ⟨0, Nat.zero_le _, rfl, fun j h => by omega, hb⟩
      case round =>
        clear x1 x2 x3 z1 z2 z3 hb hk hlt
        obtain ⟨k, hk, rfl, hj, hb⟩ := hrel
        have HJ2 : Hid (∀ j, j < k → R.d j = td j) := hj
        clear hj
        obtain ⟨⟨x1, x2, x3⟩, z1, z2, z3⟩ := hb.cells
        by_cases hlt : k < R.n2
        · obtain ⟨b, o, hbl, hix, p1, p2, p3, p4, p5⟩ := (hA.below hb.old).l2.card k2 hlt
          obtain ⟨b', o', hbl', hix', q1, q2, q3, q4, q5⟩ := (hB.below hb.old).l2.card l2 hlt
          by_cases he : R.d k = td k
          · have HE : Hid (R.d k = td k) := he
            rw [he] at p1 p2 p3 p4 p5
            clear he
            go_wp2
            go_quiet (fail)
            go_wp2
            go_roundw
            case rel => exact ⟨k + 1, by omega, by go_num, fun j h => by rcases Nat.lt_succ_iff_lt_or_eq.1 h with h | rfl; exact HJ2.out j h; exact HE.out, below_drewN hb _⟩
            case measure => simp [intOf]; omega
          · have HS : Hid (¬ Same R ⟨R.n1, R.n2, R.n3, tc, td, te⟩) := fun h => he (h.d k hlt)
            have hne := cd_ne he
            clear he
            rcases hne with hne | ⟨r1, hne⟩ | ⟨r1, r2, hne⟩ | ⟨r1, r2, r3, hne⟩ | ⟨r1, r2, r3, r4, hne⟩
            · go_wp2
              go_quiet (fail)
              go_wp2
              go_ret
              exact ⟨_, ⟨rfl, not_same HS.out⟩, BoxS.old (below_drewN hb _)⟩
            · rw [r1] at p1
              clear r1
              go_wp2
              go_quiet (fail)
              go_wp2
              go_ret
              exact ⟨_, ⟨rfl, not_same HS.out⟩, BoxS.old (below_drewN hb _)⟩
            · rw [r1] at p1
              clear r1
              rw [r2] at p2
              clear r2
              go_wp2
              go_quiet (fail)
              go_wp2
              go_ret
              exact ⟨_, ⟨rfl, not_same HS.out⟩, BoxS.old (below_drewN hb _)⟩
            · rw [r1] at p1
              clear r1
              rw [r2] at p2
              clear r2
              rw [r3] at p3
              clear r3
              go_wp2
              go_quiet (fail)
              go_wp2
              go_ret
              exact ⟨_, ⟨rfl, not_same HS.out⟩, BoxS.old (below_drewN hb _)⟩
            · rw [r1] at p1
              clear r1
              rw [r2] at p2
              clear r2
              rw [r3] at p3
              clear r3
              rw [r4] at p4
              clear r4
              have hnb := ba_beq hne
              have hnl := bl_beq hne
              clear hne
              go_wp2
              go_quiet (fail)
              go_wp2
              go_ret
              exact ⟨_, ⟨rfl, not_same HS.out⟩, BoxS.old (below_drewN hb _)⟩
        · have E2 : Hid (k = R.n2) := by show _ = _; omega
          have J2 : Hid (∀ j, j < R.n2 → R.d j = td j) := fun j h => HJ2.out j (by have := E2.out; omega)
          clear HJ2 E2
          go_wp2
          go_loopw [7] (fun i wr => ∃ k : Nat, k ≤ R.n3 ∧ i = .int .i64 k ∧ (∀ j, j < k → R.e j = te j) ∧ BoxS w R a1 a2 a3 b1 b2 b3 k1 k2 k3 l1 l2 l3 wr) (fun i _ => R.n3 - (intOf i).toNat)
          case atStart => exact ⟨0, Nat.zero_le _, rfl, fun j h => by omega, hb⟩
          case round =>
            clear x1 x2 x3 z1 z2 z3 hb hk hlt
            obtain ⟨k, hk, rfl, hj, hb⟩ := hrel
            have HJ3 : Hid (∀ j, j < k → R.e j = te j) := hj
            clear hj
            obtain ⟨⟨x1, x2, x3⟩, z1, z2, z3⟩ := hb.cells
            by_cases hlt : k < R.n3
            · obtain ⟨b, o, hbl, hix, p1, p2⟩ := (hA.below hb.old).l3.edit k3 hlt
              obtain ⟨b', o', hbl', hix', q1, q2⟩ := (hB.below hb.old).l3.edit l3 hlt
              by_cases he : R.e k = te k
              · have HE : Hid (R.e k = te k) := he
                rw [he] at p1 p2
                clear he
                go_wp2
                go_quiet (fail)
                go_wp2
                go_roundw
                case rel => exact ⟨k + 1, by omega, by go_num, fun j h => by rcases Nat.lt_succ_iff_lt_or_eq.1 h with h | rfl; exact HJ3.out j h; exact HE.out, below_drewN hb _⟩
                case measure => simp [intOf]; omega
              · have HS : Hid (¬ Same R ⟨R.n1, R.n2, R.n3, tc, td, te⟩) := fun h => he (h.e k hlt)
                have hne := ed_ne he
                clear he
                rcases hne with hne | ⟨r1, hne⟩
                · go_wp2
                  go_quiet (fail)
                  go_wp2
                  go_ret
                  exact ⟨_, ⟨rfl, not_same HS.out⟩, BoxS.old (below_drewN hb _)⟩
                · rw [r1] at p1
                  clear r1
                  have hnb := ba_beq hne
                  have hnl := bl_beq hne
                  clear hne
                  go_wp2
                  go_quiet (fail)
                  go_wp2
                  go_ret
                  exact ⟨_, ⟨rfl, not_same HS.out⟩, BoxS.old (below_drewN hb _)⟩
            · have E3 : Hid (k = R.n3) := by show _ = _; omega
              have HS : Hid (Same R ⟨R.n1, R.n2, R.n3, tc, td, te⟩) := ⟨rfl, rfl, rfl, J1.out, J2.out, fun j h => HJ3.out j (by have := E3.out; omega)⟩
              go_wp2
              go_ret
              exact ⟨_, ⟨rfl, ⟨fun _ => HS.out, fun _ => rfl⟩⟩, hb.old⟩

set_option maxRecDepth 100000 in
set_option maxHeartbeats 4000000 in
theorem same_any (R T : Rep) (a1 a2 a3 b1 b2 b3 : Option Addr) (k1 k2 k3 l1 l2 l3 : Nat) (w : World) (hA : Has w R a1 a2 a3) (hB : Has w T b1 b2 b3) :
    Calls Try.prog 32 #[repV R a1 a2 a3 k1 k2 k3, repV T b1 b2 b3 l1 l2 l3] w fun e w' => ∃ b, (e = .returned (.bool b) ∧ (b = true ↔ Same R T)) ∧ Below w.heap.size w w' := by
  have y1 := hA.b1; have y2 := hA.b2; have y3 := hA.b3
  have u1 := hB.b1; have u2 := hB.b2; have u3 := hB.b3
  have h0 : BoxT w R T a1 a2 a3 b1 b2 b3 k1 k2 k3 l1 l2 l3 ((w.alloc (.cells #[.slice a1 R.n1 k1, .slice a2 R.n2 k2, .slice a3 R.n3 k3] 26)).alloc (.cells #[.slice b1 T.n1 l1, .slice b2 T.n2 l2, .slice b3 T.n3 l3] 26)) := Below.refl _ _
  have HO : Hid (Below w.heap.size w ((w.alloc (.cells #[.slice a1 R.n1 k1, .slice a2 R.n2 k2, .slice a3 R.n3 k3] 26)).alloc (.cells #[.slice b1 T.n1 l1, .slice b2 T.n2 l2, .slice b3 T.n3 l3] 26))) := h0.old
  clear h0
  by_cases n1 : R.n1 = T.n1
  case neg =>
    have HS : Hid (¬ Same R T) := fun h => n1 h.n1
    have nb : ((R.n1 : Int) != (T.n1 : Int)) = true := by simp; omega
    go_enter Try.func32, Try.ntmps32
    go_wp2
    go_ret
    exact ⟨_, ⟨rfl, not_same HS.out⟩, HO.out⟩
  by_cases n2 : R.n2 = T.n2
  case neg =>
    have HS : Hid (¬ Same R T) := fun h => n2 h.n2
    have nb : ((R.n2 : Int) != (T.n2 : Int)) = true := by simp; omega
    have na : ((R.n1 : Int) != (T.n1 : Int)) = false := by simp; omega
    clear n1
    go_enter Try.func32, Try.ntmps32
    go_wp2
    go_ret
    exact ⟨_, ⟨rfl, not_same HS.out⟩, HO.out⟩
  by_cases n3 : R.n3 = T.n3
  case neg =>
    have HS : Hid (¬ Same R T) := fun h => n3 h.n3
    have nb : ((R.n3 : Int) != (T.n3 : Int)) = true := by simp; omega
    have na : ((R.n1 : Int) != (T.n1 : Int)) = false := by simp; omega
    have nc : ((R.n2 : Int) != (T.n2 : Int)) = false := by simp; omega
    clear n1 n2
    go_enter Try.func32, Try.ntmps32
    go_wp2
    go_ret
    exact ⟨_, ⟨rfl, not_same HS.out⟩, HO.out⟩
  obtain ⟨m1, m2, m3, tc, td, te⟩ := T
  have n1 : R.n1 = m1 := n1
  have n2 : R.n2 = m2 := n2
  have n3 : R.n3 = m3 := n3
  subst n1 n2 n3
  exact same_len R tc td te a1 a2 a3 b1 b2 b3 k1 k2 k3 l1 l2 l3 w hA hB
end Go.Proofs.Ytdjpkgaicmklmaa

/- parcelkeep.records, walked: what a bundle's records are and where, and how long it is. -/
namespace Go.Proofs.Ytdjpkgaicmklmaa
open Go.RowKit

/-- Each block but the list's own is as it was. -/
def Kept (ad : Option Addr) (w w' : World) : Prop := ∀ k, k < w.heap.size → (∀ b, ad = some b → b.block ≠ k) → w'.heap[k]? = w.heap[k]?

section
variable {P : Program} {w : World} {ops : Array Oper} {rest : List Oper} {o : Oper} {a : Act} {Q : Exit → Act → World → Prop}

/-- 'l = append(l, x)', and what is elsewhere stays. -/
theorem wpList_push2 (hgd : o.guard = none) (s x : Operand) (t : TypeId) (ho : o.op = .call { callee := .builtin .append, args := #[s, x], argTypes := #[t, t] })
    (B e m bytes : Nat) (z : Value) (ht : P.underlying t = some (.slice e)) (hinfo : (P.info? e).map (fun i => (i.zero, i.size, i.bytes)) = some (some z, m, bytes)) (hzs : z.cells.size = m) (hm : 0 < m)
    (ad : Option Addr) (n cap : Nat) (xs : List Value) (hs : a.eval s = .slice ad n cap) (hown : Vec w B e m ad n cap xs)
    (ad1 : Addr) (c : Nat) (row : List Value) (hx : a.eval x = .slice (some ad1) 1 c) (hl : row.length = m) (hnews : ∀ j u, row[j]? = some u → w.cell? (ad1.add j) = some u) (h1 : ∀ u, u ∈ row → u.oneCell' = true)
    (hbytes : (n + 1) * bytes ≤ 140737488355328) (hn : n < 9223372036854775807) (hB : B ≤ w.heap.size)
    (h : ∀ ad' cap' w', Vec w' B e m ad' (n + 1) cap' (xs ++ row) → Below B w w' → Kept ad w w' → wpList P ops Q rest (a.put o.dst (.slice ad' (n + 1) cap')) w') : wpList P ops Q (o :: rest) a w := by
  obtain ⟨i, hi, hzz⟩ := Option.map_eq_some_iff.1 hinfo
  simp only [Prod.mk.injEq] at hzz
  obtain ⟨hz, hsz, hby⟩ := hzz
  refine wpList_append_lies w hgd s x t ho B e i z m bytes ht hi hz hsz hby hzs hm (.slice ad n cap) n xs hs hown ad1 1 c row hx (by rw [hl, Nat.one_mul]) hnews h1 (by omega) (by unfold maxLen; omega) hbytes hB w.heap.size rfl ?_
  intro g cap' w' ho' hgr _ _
  refine h (some ⟨g, 0, none⟩) cap' w' ho' ?_ ?_
  · exact (Below.refl _ _).grown hgr hB (fun k hk => (World.ownsRow.lt hown k hk).1)
  · intro k hk hne
    refine hgr.block k hk ?_
    cases ad with
    | none => simp [Value.ownBlock]
    | some b => simp [Value.ownBlock]; exact fun e => hne b rfl e.symm
end

/-- The variable's box is as it was behind the append. -/
theorem Kept.box {wr w' : World} {o1 o2 : Obj} {B e m : Nat} {ad : Option Addr} {n cap : Nat} {xs : List Value} (hk : Kept ad ((wr.alloc o1).alloc o2) w') (hv : Vec wr B e m ad n cap xs) : w'.heap[wr.heap.size]? = some o1 := by
  rw [hk wr.heap.size (by simp; omega) ?_]
  · show ((wr.heap.push o1).push o2)[wr.heap.size]? = _
    rw [Array.getElem?_push, if_neg (by simp), Array.getElem?_push, if_pos rfl]
  · intro b hb
    subst hb
    have := World.ownsRow.lt hv b.block rfl
    omega
theorem box_cell {w : World} {g : Nat} {cs : Array Value} {t : TypeId} (h : w.heap[g]? = some (.cells cs t)) (j : Nat) : w.cell? ⟨g, j, none⟩ = cs[j]? := by
  simp [World.cell?, h]

/-- A record at its place. -/
def Fd.put (f : Fd) (p : Nat) : Fd := { f with at_ := p }
/-- Records one directly behind the other, from a place on. -/
def atL : Nat → List Fd → List Fd
  | _, [] => []
  | p, f :: l => f.put p :: atL (p + lenF f) l
theorem atL_snoc (f : Fd) : ∀ (p : Nat) (l : List Fd), atL p (l ++ [f]) = atL p l ++ [f.put (p + lenL l)]
  | p, [] => by simp [atL, lenL]
  | p, g :: l => by
    simp only [List.cons_append, atL, atL_snoc f (p + lenF g) l]
    simp [lenL]
    congr 1; omega
theorem atL_length : ∀ (p : Nat) (l : List Fd), (atL p l).length = l.length
  | _, [] => rfl
  | p, f :: l => by simp [atL, atL_length (p + lenF f) l]
theorem ones9 (f : Fd) : ∀ v, v ∈ f.cells → v.oneCell' = true := by intro v h; simp at h; rcases h with rfl | rfl | rfl | rfl | rfl | rfl | rfl | rfl | rfl <;> rfl

set_option maxRecDepth 100000 in
set_option maxHeartbeats 4000000 in
theorem krecords_any (R : Rep) (a1 a2 a3 : Option Addr) (k1 k2 k3 : Nat) (w : World) (hR : Has w R a1 a2 a3) (hF : Fit R) :
    Calls Try.prog 31 #[repV R a1 a2 a3 k1 k2 k3] w fun e w' => ∃ ad cap N, (e = .returned (.tuple #[.slice ad N cap, .int .i64 (8 + lenL (recsOf 0 0 R) : Nat)]) ∧ N = (recsOf 0 0 R).length ∧ Vec w' w.heap.size 64 9 ad N cap (fcells (atL 4 (recsOf 0 0 R)))) ∧ Below w.heap.size w w' := by
  have m1 := hF.n1; have m2 := hF.n2; have m3 := hF.n3
  have h0 : BoxR w R a1 a2 a3 k1 k2 k3 (w.alloc (.cells #[.slice a1 R.n1 k1, .slice a2 R.n2 k2, .slice a3 R.n3 k3] 26)) := Below.refl _ _
  have z0 : w.heap.size + 1 ≤ (w.alloc (.cells #[.slice a1 R.n1 k1, .slice a2 R.n2 k2, .slice a3 R.n3 k3] 26)).heap.size := by simp
  have HV : Hid (Vec ((w.alloc (.cells #[.slice a1 R.n1 k1, .slice a2 R.n2 k2, .slice a3 R.n3 k3] 26)).alloc (.cells ((fdHead 0 0).put 4).cells.toArray 64)) (w.heap.size + 1) 64 9 (some ⟨w.heap.size + 1, 0, none⟩) 1 1 (fcells (atL 4 (recs1 0 0 R 0)))) := by
    have := Vec.lit (w.alloc (.cells #[.slice a1 R.n1 k1, .slice a2 R.n2 k2, .slice a3 R.n3 k3] 26)) (w.heap.size + 1) 64 9 1 ((fdHead 0 0).put 4).cells z0 (by omega) rfl
    rw [World.size_alloc] at this
    have e : fcells (atL 4 (recs1 0 0 R 0)) = ((fdHead 0 0).put 4).cells := by simp [recs1, atL, fcells]
    show Vec _ _ _ _ _ _ _ _
    rw [e]; exact this
  have HB : Hid (BoxR w R a1 a2 a3 k1 k2 k3 ((w.alloc (.cells #[.slice a1 R.n1 k1, .slice a2 R.n2 k2, .slice a3 R.n3 k3] 26)).alloc (.cells ((fdHead 0 0).put 4).cells.toArray 64))) := h0.alloc z0 _
  have HP : Hid (4 + lenL (recs1 0 0 R 0) = 13) := by show _ = _; simp [recs1, lenL, lenF_head]
  clear h0 z0
  go_enter Try.func31, Try.ntmps31
  go_wp2_with fail
  go_loopw [4, 5, 6, 7] (fun q v u _ wr => ∃ (k : Nat) (ad : Option Addr) (cap N P : Nat), k ≤ R.n1 ∧ u = .int .i64 k ∧ q = .int .i64 P ∧ v = .slice ad N cap ∧ N = 1 + k ∧ P ≤ 200 * N ∧ 4 + lenL (recs1 0 0 R k) = P ∧ Vec wr (w.heap.size + 1) 64 9 ad N cap (fcells (atL 4 (recs1 0 0 R k))) ∧ BoxR w R a1 a2 a3 k1 k2 k3 wr) (fun _ _ u _ _ => R.n1 - (intOf u).toNat)
  case atStart => exact ⟨0, _, _, 1, 13, Nat.zero_le _, rfl, rfl, rfl, rfl, by omega, HP.out, HV.out, HB.out⟩
  case round =>
    clear HV HB HP
    obtain ⟨k, ad, cap, N, P, hk, rfl, rfl, rfl, hN, hP, hL, hv, hb⟩ := hrel
    have HN : Hid (N = 1 + k) := hN
    have HL : Hid (4 + lenL (recs1 0 0 R k) = P) := hL
    have hNb : N ≤ 3000001 := by omega
    clear hN hL
    obtain ⟨x1, x2, x3⟩ := box3 hb
    have z1 : w.heap.size + 1 ≤ wr.heap.size := by have := hb.size; simpa using this
    by_cases hlt : k < R.n1
    · obtain ⟨bb, o, hbl, hix, c1, c2⟩ := (hR.below (below_box hb)).l1.clock k1 hlt
      obtain ⟨f1, f2⟩ := hF.c1 k hlt
      have HX : Hid (∀ o1 o2, Vec ((wr.alloc o1).alloc o2) (w.heap.size + 1) 64 9 ad N cap (fcells (atL 4 (recs1 0 0 R k)))) := fun o1 o2 => hv.keep (((Below.refl _ wr).alloc (Nat.le_refl _) _).alloc (by simp) _)
      go_wp2_with (at_builtin; refine wpList_push2 (by rfl) _ _ 57 (by rfl) (w.heap.size + 1) 64 9 80 (.agg #[.int .i64 0, .int .i64 0, .int .i64 0, .int .i64 0, .int .i64 0, .int .i64 0, .int .i64 0, .bool false, .string ⟨#[]⟩]) Try.underlying57 (by kernel_rfl) rfl (by decide) ad N cap _ (by rfl) (HX.out _ _) _ _ ((fdClock (R.c k)).put P).cells (by rfl) rfl ?_ ?_ ?_ ?_ ?_ ?_; exact new_cells2 _ _ _ _; exact ones9 _; (omega); (omega); (simp; omega); intro ad' cap' w' hv' hb' hk')
      have hbx := hk'.box hv
      have g0 := box_cell hbx 0
      have g1 := box_cell hbx 1
      simp only [List.getElem?_toArray, List.getElem?_cons_zero, List.getElem?_cons_succ] at g0 g1
      have h2 : BoxR w R a1 a2 a3 k1 k2 k3 w' := ((hb.alloc z1 _).alloc (by simp; omega) _).trans hb'
      have hv2 : Hid (Vec w' (w.heap.size + 1) 64 9 ad' (N + 1) cap' (fcells (atL 4 (recs1 0 0 R (k + 1))))) := by
        show Vec _ _ _ _ _ _ _ _
        rw [recs1_succ, atL_snoc, fcells_append, fcells_one, HL.out]; exact hv'
      have HL2 : Hid (4 + lenL (recs1 0 0 R (k + 1)) = P + lenF (fdClock (R.c k))) := by show _ = _; rw [recs1_succ, lenL_snoc, ← HL.out]; omega
      rw [lenF_clock] at HL2
      clear hv' hb' hk' hbx hv hb HX HL x1 x2 x3 c1 c2
      have i1 := bytesI_le 9 (R.c k).site
      have i2 := bytesI_le 9 (R.c k).count
      go_quiet ((go_at_call 72; first | exact Calls.quiet_of_same (bytes_any _ _ f1) | exact Calls.quiet_of_same (bytes_any _ _ f2)))
      go_wp2
      go_roundw
      case rel =>
        refine ⟨k + 1, ad', cap', N + 1, _, by omega, by go_num, ?_, rfl, by have := HN.out; omega, ?_, HL2.out, hv2.out.keep (below_drewN (Below.refl _ _) _), below_drewN h2 _⟩
        · exact congrArg (Value.int .i64) (by push_cast; omega)
        · omega
      case measure => simp [intOf]; omega
    · have HN2 : Hid (N = 1 + R.n1) := by have := HN.out; show _ = _; omega
      have HV2 : Hid (Vec wr (w.heap.size + 1) 64 9 ad N cap (fcells (atL 4 (recs2 0 0 R 0)))) := by
        show Vec _ _ _ _ _ _ _ _
        rw [recs2_zero, ← show k = R.n1 by omega]; exact hv
      have HL2 : Hid (4 + lenL (recs2 0 0 R 0) = P) := by show _ = _; rw [recs2_zero, ← show k = R.n1 by omega]; exact HL.out
      clear hv HN HL
      go_wp2_with fail
      go_loopw [4, 5, 8, 9] (fun q v u _ wr => ∃ (k : Nat) (ad : Option Addr) (cap N P : Nat), k ≤ R.n2 ∧ u = .int .i64 k ∧ q = .int .i64 P ∧ v = .slice ad N cap ∧ N = 1 + R.n1 + k ∧ P ≤ 200 * N ∧ 4 + lenL (recs2 0 0 R k) = P ∧ Vec wr (w.heap.size + 1) 64 9 ad N cap (fcells (atL 4 (recs2 0 0 R k))) ∧ BoxR w R a1 a2 a3 k1 k2 k3 wr) (fun _ _ u _ _ => R.n2 - (intOf u).toNat)
      case atStart => exact ⟨0, _, _, N, P, Nat.zero_le _, rfl, rfl, rfl, by have := HN2.out; omega, hP, HL2.out, HV2.out, hb⟩
      case round =>
        clear hb x1 x2 x3 z1 HN2 HL2 HV2 hP hNb hlt
        obtain ⟨k, ad, cap, N, P, hk, rfl, rfl, rfl, hN, hP, hL, hv, hb⟩ := hrel
        have HN : Hid (N = 1 + R.n1 + k) := hN
        have HL : Hid (4 + lenL (recs2 0 0 R k) = P) := hL
        have hNb : N ≤ 3000001 := by omega
        clear hN hL
        obtain ⟨x1, x2, x3⟩ := box3 hb
        have z1 : w.heap.size + 1 ≤ wr.heap.size := by have := hb.size; simpa using this
        by_cases hlt : k < R.n2
        · obtain ⟨bb, o, hbl, hix, c1, c2, c3, c4, c5⟩ := (hR.below (below_box hb)).l2.card k2 hlt
          obtain ⟨f1, f2, f3, f4⟩ := hF.d1 k hlt
          have HX : Hid (∀ o1 o2, Vec ((wr.alloc o1).alloc o2) (w.heap.size + 1) 64 9 ad N cap (fcells (atL 4 (recs2 0 0 R k)))) := fun o1 o2 => hv.keep (((Below.refl _ wr).alloc (Nat.le_refl _) _).alloc (by simp) _)
          go_wp2_with (at_builtin; refine wpList_push2 (by rfl) _ _ 57 (by rfl) (w.heap.size + 1) 64 9 80 (.agg #[.int .i64 0, .int .i64 0, .int .i64 0, .int .i64 0, .int .i64 0, .int .i64 0, .int .i64 0, .bool false, .string ⟨#[]⟩]) Try.underlying57 (by kernel_rfl) rfl (by decide) ad N cap _ (by rfl) (HX.out _ _) _ _ ((fdCard (R.d k)).put P).cells (by rfl) rfl ?_ ?_ ?_ ?_ ?_ ?_; exact new_cells2 _ _ _ _; exact ones9 _; (omega); (omega); (simp; omega); intro ad' cap' w' hv' hb' hk')
          have hbx := hk'.box hv
          have g0 := box_cell hbx 0
          have g1 := box_cell hbx 1
          have g2 := box_cell hbx 2
          have g3 := box_cell hbx 3
          have g4 := box_cell hbx 4
          simp only [List.getElem?_toArray, List.getElem?_cons_zero, List.getElem?_cons_succ] at g0 g1 g2 g3 g4
          have h2 : BoxR w R a1 a2 a3 k1 k2 k3 w' := ((hb.alloc z1 _).alloc (by simp; omega) _).trans hb'
          have hv2 : Hid (Vec w' (w.heap.size + 1) 64 9 ad' (N + 1) cap' (fcells (atL 4 (recs2 0 0 R (k + 1))))) := by
            show Vec _ _ _ _ _ _ _ _
            rw [recs2_succ, atL_snoc, fcells_append, fcells_one, HL.out]; exact hv'
          have HL2 : Hid (4 + lenL (recs2 0 0 R (k + 1)) = P + lenF (fdCard (R.d k))) := by show _ = _; rw [recs2_succ, lenL_snoc, ← HL.out]; omega
          rw [lenF_card] at HL2
          clear hv' hb' hk' hbx hv hb HX HL x1 x2 x3 c1 c2 c3 c4 c5
          have i1 := bytesI_le 9 (R.d k).id
          have i2 := bytesI_le 9 (R.d k).site
          have i3 := bytesI_le 9 (R.d k).count
          have ht : ((R.d k).text.size : Int) ≤ 60 := by omega
          go_quiet ((go_at_call 72; first | exact Calls.quiet_of_same (bytes_any _ _ f1) | exact Calls.quiet_of_same (bytes_any _ _ f2) | exact Calls.quiet_of_same (bytes_any _ _ f3)))
          go_wp2
          go_roundw
          case rel =>
            refine ⟨k + 1, ad', cap', N + 1, _, by omega, by go_num, ?_, rfl, by have := HN.out; omega, ?_, HL2.out, hv2.out.keep (below_drewN (Below.refl _ _) _), below_drewN h2 _⟩
            · exact congrArg (Value.int .i64) (by push_cast; omega)
            · omega
          case measure => simp [intOf]; omega
        · have HN2 : Hid (N = 1 + R.n1 + R.n2) := by have := HN.out; show _ = _; omega
          have HV2 : Hid (Vec wr (w.heap.size + 1) 64 9 ad N cap (fcells (atL 4 (recs3 0 0 R 0)))) := by
            show Vec _ _ _ _ _ _ _ _
            rw [recs3_zero, ← show k = R.n2 by omega]; exact hv
          have HL2 : Hid (4 + lenL (recs3 0 0 R 0) = P) := by show _ = _; rw [recs3_zero, ← show k = R.n2 by omega]; exact HL.out
          clear hv HN HL
          go_wp2_with fail
          go_loopw [4, 5, 10, 11] (fun q v u _ wr => ∃ (k : Nat) (ad : Option Addr) (cap N P : Nat), k ≤ R.n3 ∧ u = .int .i64 k ∧ q = .int .i64 P ∧ v = .slice ad N cap ∧ N = 1 + R.n1 + R.n2 + k ∧ P ≤ 200 * N ∧ 4 + lenL (recs3 0 0 R k) = P ∧ Vec wr (w.heap.size + 1) 64 9 ad N cap (fcells (atL 4 (recs3 0 0 R k))) ∧ BoxR w R a1 a2 a3 k1 k2 k3 wr) (fun _ _ u _ _ => R.n3 - (intOf u).toNat)
          case atStart => exact ⟨0, _, _, N, P, Nat.zero_le _, rfl, rfl, rfl, by have := HN2.out; omega, hP, HL2.out, HV2.out, hb⟩
          case round =>
            clear hb x1 x2 x3 z1 HN2 HL2 HV2 hP hNb hlt
            obtain ⟨k, ad, cap, N, P, hk, rfl, rfl, rfl, hN, hP, hL, hv, hb⟩ := hrel
            have HN : Hid (N = 1 + R.n1 + R.n2 + k) := hN
            have HL : Hid (4 + lenL (recs3 0 0 R k) = P) := hL
            have hNb : N ≤ 3000001 := by omega
            clear hN hL
            obtain ⟨x1, x2, x3⟩ := box3 hb
            have z1 : w.heap.size + 1 ≤ wr.heap.size := by have := hb.size; simpa using this
            by_cases hlt : k < R.n3
            · obtain ⟨bb, o, hbl, hix, c1, c2⟩ := (hR.below (below_box hb)).l3.edit k3 hlt
              obtain ⟨f1, f4⟩ := hF.e1 k hlt
              have HX : Hid (∀ o1 o2, Vec ((wr.alloc o1).alloc o2) (w.heap.size + 1) 64 9 ad N cap (fcells (atL 4 (recs3 0 0 R k)))) := fun o1 o2 => hv.keep (((Below.refl _ wr).alloc (Nat.le_refl _) _).alloc (by simp) _)
              go_wp2_with (at_builtin; refine wpList_push2 (by rfl) _ _ 57 (by rfl) (w.heap.size + 1) 64 9 80 (.agg #[.int .i64 0, .int .i64 0, .int .i64 0, .int .i64 0, .int .i64 0, .int .i64 0, .int .i64 0, .bool false, .string ⟨#[]⟩]) Try.underlying57 (by kernel_rfl) rfl (by decide) ad N cap _ (by rfl) (HX.out _ _) _ _ ((fdEdit (R.e k)).put P).cells (by rfl) rfl ?_ ?_ ?_ ?_ ?_ ?_; exact new_cells2 _ _ _ _; exact ones9 _; (omega); (omega); (simp; omega); intro ad' cap' w' hv' hb' hk')
              have hbx := hk'.box hv
              have g0 := box_cell hbx 0
              have g1 := box_cell hbx 1
              simp only [List.getElem?_toArray, List.getElem?_cons_zero, List.getElem?_cons_succ] at g0 g1
              have h2 : BoxR w R a1 a2 a3 k1 k2 k3 w' := ((hb.alloc z1 _).alloc (by simp; omega) _).trans hb'
              have hv2 : Hid (Vec w' (w.heap.size + 1) 64 9 ad' (N + 1) cap' (fcells (atL 4 (recs3 0 0 R (k + 1))))) := by
                show Vec _ _ _ _ _ _ _ _
                rw [recs3_succ, atL_snoc, fcells_append, fcells_one, HL.out]; exact hv'
              have HL2 : Hid (4 + lenL (recs3 0 0 R (k + 1)) = P + lenF (fdEdit (R.e k))) := by show _ = _; rw [recs3_succ, lenL_snoc, ← HL.out]; omega
              rw [lenF_edit] at HL2
              clear hv' hb' hk' hbx hv hb HX HL x1 x2 x3 c1 c2
              have i1 := bytesI_le 9 (R.e k).id
              have ht : ((R.e k).text.size : Int) ≤ 60 := by omega
              go_quiet ((go_at_call 72; first | exact Calls.quiet_of_same (bytes_any _ _ f1)))
              go_wp2
              go_roundw
              case rel =>
                refine ⟨k + 1, ad', cap', N + 1, _, by omega, by go_num, ?_, rfl, by have := HN.out; omega, ?_, HL2.out, hv2.out.keep (below_drewN (Below.refl _ _) _), below_drewN h2 _⟩
                · exact congrArg (Value.int .i64) (by push_cast; omega)
                · omega
              case measure => simp [intOf]; omega
            · have HN2 : Hid (N = 1 + R.n1 + R.n2 + R.n3) := by have := HN.out; show _ = _; omega
              have HV2 : Hid (Vec wr w.heap.size 64 9 ad N cap (fcells (atL 4 (recsOf 0 0 R)))) := by
                have h : Vec wr (w.heap.size + 1) 64 9 ad N cap (fcells (atL 4 (recs3 0 0 R R.n3))) := by rw [← show k = R.n3 by omega]; exact hv
                exact h.mono (by omega)
              have HL2 : Hid (8 + lenL (recsOf 0 0 R) = P + 4) := by
                have h : 4 + lenL (recs3 0 0 R R.n3) = P := by rw [← show k = R.n3 by omega]; exact HL.out
                show 8 + lenL (recs3 0 0 R R.n3) = P + 4
                omega
              clear hv HN HL
              go_wp2_with fail
              go_ret2
              exact ⟨ad, cap, N, ⟨by rw [HL2.out]; push_cast; rfl, by have := HN2.out; rw [recsOf_length]; omega, HV2.out⟩, below_box hb⟩
end Go.Proofs.Ytdjpkgaicmklmaa

/- What is written is read back: numbers, records, frames; what Salvage finds in a bundle that is cut. -/
namespace Go.Proofs.Ytdjpkgaicmklmaa
open Go.RowKit

theorem rdAcc_num_back (x : List UInt8) : ∀ (k K : Nat) (n : Int), 0 ≤ n → n < 128 ^ (k + 1) → k ≤ K → ∀ (j i : Nat) (v : Int), rdAcc (k + 1 + j) i v ((numI K n).map byt ++ x) = some (v + n * 128 ^ i, i + (numI K n).length)
  | 0, K, n, h0, h1, _, j, i, v => by
    have h1 : n < 128 := by simpa using h1
    have hb := byt_toNat n h0 (by omega)
    rw [numI_small K n h1, show 0 + 1 + j = j + 1 by omega]
    simp only [List.map_cons, List.map_nil, List.cons_append, List.nil_append, rdAcc, List.length_cons, List.length_nil]
    rw [if_pos (by omega), show (((byt n).toNat % 128 : Nat) : Int) = n by omega]
  | k + 1, 0, n, _, _, hk, _, _, _ => by omega
  | k + 1, K + 1, n, h0, h1, hk, j, i, v => by
    by_cases hn : n < 128
    · have hb := byt_toNat n h0 (by omega)
      rw [numI_small (K + 1) n hn, show k + 1 + 1 + j = (k + 1 + j) + 1 by omega]
      simp only [List.map_cons, List.map_nil, List.cons_append, List.nil_append, rdAcc, List.length_cons, List.length_nil]
      rw [if_pos (by omega), show (((byt n).toNat % 128 : Nat) : Int) = n by omega]
    · have hb := byt_toNat (n % 128 + 128) (by omega) (by omega)
      have e : numI (K + 1) n = (n % 128 + 128) :: numI K (n / 128) := by simp [numI, hn]
      rw [e, show k + 1 + 1 + j = (k + 1 + j) + 1 by omega]
      simp only [List.map_cons, List.cons_append, rdAcc]
      rw [if_neg (by omega), rdAcc_num_back x k K (n / 128) (by omega) (by rw [Int.pow_succ] at h1; omega) (by omega) j (i + 1)]
      have ev : (((byt (n % 128 + 128)).toNat % 128 : Nat) : Int) = n % 128 := by omega
      rw [ev, Int.pow_succ]
      have : v + n % 128 * 128 ^ i + n / 128 * (128 ^ i * 128) = v + n * 128 ^ i := by
        have h : n = n / 128 * 128 + n % 128 := by omega
        have e2 : n / 128 * (128 ^ i * 128) = n / 128 * 128 * 128 ^ i := by rw [Int.mul_comm (128 ^ i) 128, Int.mul_assoc]
        rw [e2]
        conv => rhs; rw [h]
        rw [Int.add_mul]; omega
      rw [this]
      simp; omega
theorem numRd_back {n : Int} (h : Num n) (x : List UInt8) : numRd (numB n ++ x) = some (n, (numB n).length) := by
  have e := rdAcc_num_back x 8 9 n h.1 (by have := h.2; omega) (by omega) 0 0 0
  have e2 : rdAcc 9 0 0 (numB n ++ x) = some (n, (numB n).length) := by
    unfold numB; rw [e]; simp
  unfold numRd
  rw [e2]
  simp only
  rw [if_pos]
  simp
theorem numsRd_back {n : Int} (h : Num n) (k : Nat) (x : List UInt8) : numsRd (k + 1) (numB n ++ x) = (numsRd k x).map fun p => (n :: p.1, p.2) := by
  simp only [numsRd, numRd_back h, List.drop_left]
  cases numsRd k x <;> rfl
/-- What is written is read. -/
theorem recRd_back {f : Fd} (h : FdOk f) (hs : f.seq = 0 → f.base = 0) : recRd (recF f) = some f := by
  rcases h with ⟨s, b, rfl, h1, h2, h3⟩ | ⟨c, rfl, h1, h2⟩ | ⟨c, rfl, h1, h2, h3, h4⟩ | ⟨c, rfl, h1, h2⟩
  · rw [recF_head, recHead, rec4, numsRd_back h1]
    simp only [numsRd, Option.map_some]
    by_cases hq : s = 0
    · have : b = 0 := hs hq
      subst hq this
      simp
    · simp only [if_neg hq]
      rw [if_pos (by simp [fourI]), fourRd_four b h2 (by omega)]
  · rw [recF_clock, recClock, rec1, numsRd_back h1]
    rw [show numB c.count = numB c.count ++ [] by simp, numsRd_back h2]
    simp [numsRd]
  · rw [recF_card, recCard, rec2, numsRd_back h1, numsRd_back h2, numsRd_back h3]
    simp only [numsRd, Option.map_some]
    obtain ⟨i, s, n, g, x⟩ := c
    cases g
    · simp [str_data]
    · simp [str_data]
  · rw [recF_edit, recEdit, rec3, numsRd_back h1]
    simp [numsRd, str_data]

theorem recF_pos (f : Fd) : 0 < (recF f).length := by
  unfold recF
  split
  · simp [recHead]
  · split
    · simp [recClock]
    · split
      · simp [recCard]
      · simp [recEdit]
theorem standRd_back {f : Fd} (h : FdOk f) (hs : f.seq = 0 → f.base = 0) (x : List UInt8) : standRd (frameB (recF f) ++ x) = some (f, lenF f) := by
  have hl := recF_length h
  have hp := recF_pos f
  have hk : (byt (recF f).length).toNat = (recF f).length := by have := byt_toNat (recF f).length (by omega) (by omega); omega
  simp only [frameB, List.cons_append, standRd]
  rw [if_pos (by simp), hk, if_neg (by simp only [List.length_append, fourI, List.length_cons]; omega)]
  have e1 : (recF f ++ fourI (crc pSum (byt (recF f).length :: recF f)) ++ x).take (recF f).length = recF f := by
    rw [List.append_assoc, List.take_left]
  have e2 : ((recF f ++ fourI (crc pSum (byt (recF f).length :: recF f)) ++ x).drop (recF f).length).take 4 = fourI (crc pSum (byt (recF f).length :: recF f)) := by
    rw [List.append_assoc, List.drop_left, List.take_append_of_le_length (by simp [fourI])]
    simp [fourI]
  rw [e1, e2, if_pos rfl, recRd_back h hs]
  rfl

abbrev framesB (l : List Fd) : List UInt8 := l.flatMap (fun f => frameB (recF f))
theorem framesB_length (l : List Fd) : (framesB l).length = lenL l := by
  induction l with
  | nil => rfl
  | cons f l ih => simp only [framesB, List.flatMap_cons, List.length_append, frameB_length, lenL, List.map_cons, List.sum_cons, lenF] at ih ⊢; rw [ih]
def Okay (l : List Fd) : Prop := ∀ f, f ∈ l → FdOk f ∧ (f.seq = 0 → f.base = 0)

/-- Of frames that are cut, those that are left whole are found where they stand. -/
theorem salvF_cut (tail : List UInt8) : ∀ (l : List Fd), Okay l → ∀ (j fuel p : Nat), ((framesB l ++ tail).take j).length ≤ fuel → ∀ i, i < l.length → lenL (l.take (i + 1)) ≤ j →
    (salvF fuel p ((framesB l ++ tail).take j))[i]? = (atL p l)[i]?
  | [], _, _, _, _, _, i, hi, _ => by simp at hi
  | f :: l, ho, j, fuel, p, hf, i, hi, hj => by
    have hw := ho f (by simp)
    have ho' : Okay l := fun g hg => ho g (by simp [hg])
    have hlf : lenF f ≤ j := by
      have : lenL ((f :: l).take (i + 1)) = lenF f + lenL (l.take i) := by simp [lenL]
      omega
    have e : (framesB (f :: l) ++ tail).take j = frameB (recF f) ++ (framesB l ++ tail).take (j - lenF f) := by
      have hlen : (frameB (recF f)).length = lenF f := frameB_length _
      rw [show framesB (f :: l) ++ tail = frameB (recF f) ++ (framesB l ++ tail) by simp [framesB]]
      rw [List.take_append, hlen, List.take_of_length_le (by omega)]
    rw [e] at hf ⊢
    have hlen : (frameB (recF f)).length = lenF f := frameB_length _
    obtain ⟨fuel, rfl⟩ : ∃ k, fuel = k + 1 := ⟨fuel - 1, by simp [hlen, lenF] at hf; omega⟩
    have hne : frameB (recF f) ++ (framesB l ++ tail).take (j - lenF f) ≠ [] := by simp [frameB]
    rw [salvF_some hne (standRd_back hw.1 hw.2 _)]
    have ed : (frameB (recF f) ++ (framesB l ++ tail).take (j - lenF f)).drop (lenF f) = (framesB l ++ tail).take (j - lenF f) := by rw [← hlen, List.drop_left]
    rw [ed]
    cases i with
    | zero => rfl
    | succ i =>
      simp only [List.getElem?_cons_succ, atL]
      refine salvF_cut tail l ho' (j - lenF f) fuel (p + lenF f) ?_ i (by simpa using hi) ?_
      · rw [List.length_append, hlen] at hf; simp [lenF] at hf ⊢; omega
      · have : lenL ((f :: l).take (i + 1 + 1)) = lenF f + lenL (l.take (i + 1)) := by simp [lenL]
        omega
theorem salvF_small : ∀ (fuel p : Nat) (s : List UInt8), s.length < 8 → salvF fuel p s = []
  | 0, _, _, _ => rfl
  | k + 1, p, s, h => by
    by_cases hs : s = []
    · subst hs; rfl
    · rw [salvF_none hs (standRd_short s h)]
      exact salvF_small k (p + 1) (s.drop 1) (by simp; omega)
/-- Of frames and a few bytes behind them these frames are found. -/
theorem salvF_whole (tail : List UInt8) (ht : tail.length < 8) : ∀ (l : List Fd), Okay l → ∀ (fuel p : Nat), (framesB l ++ tail).length ≤ fuel → salvF fuel p (framesB l ++ tail) = atL p l
  | [], _, fuel, p, _ => by simp only [framesB, List.flatMap_nil, List.nil_append, atL]; exact salvF_small _ _ _ ht
  | f :: l, ho, fuel, p, hf => by
    have hw := ho f (by simp)
    have ho' : Okay l := fun g hg => ho g (by simp [hg])
    have hlen : (frameB (recF f)).length = lenF f := frameB_length _
    have e : framesB (f :: l) ++ tail = frameB (recF f) ++ (framesB l ++ tail) := by simp [framesB]
    rw [e] at hf ⊢
    rw [List.length_append, hlen] at hf
    obtain ⟨fuel, rfl⟩ : ∃ k, fuel = k + 1 := ⟨fuel - 1, by simp [lenF] at hf; omega⟩
    rw [salvF_some (by simp [frameB]) (standRd_back hw.1 hw.2 _), ← hlen, List.drop_left, hlen, salvF_whole tail ht l ho' fuel (p + lenF f) (by simp [lenF] at hf ⊢; omega)]
    rfl

theorem standRd_first {c : UInt8} {s : List UInt8} (h : c ≠ 245) : standRd (c :: s) = none := by
  match s with
  | [] | [_] => rfl
  | y :: k :: t => simp only [standRd]; rw [if_neg (fun e => h e.1)]
theorem salvF_magic (s : List UInt8) : ∀ fuel, (80 :: 82 :: 67 :: 49 :: s).length ≤ fuel → ∃ k, s.length ≤ k ∧ salvF fuel 0 (80 :: 82 :: 67 :: 49 :: s) = salvF k 4 s := by
  intro fuel h
  obtain ⟨k, rfl⟩ : ∃ k, fuel = k + 1 + 1 + 1 + 1 := ⟨fuel - 4, by simp at h; omega⟩
  refine ⟨k, by simp at h; omega, ?_⟩
  rw [salvF_none (by simp) (standRd_first (by decide)), List.drop_one, List.tail_cons, salvF_none (by simp) (standRd_first (by decide)), List.drop_one, List.tail_cons,
    salvF_none (by simp) (standRd_first (by decide)), List.drop_one, List.tail_cons, salvF_none (by simp) (standRd_first (by decide)), List.drop_one, List.tail_cons]
/-- Of a bundle its records are found, and no others. -/
theorem salv_bundle (l : List Fd) (h : Okay l) : salv (bundleB l) = atL 4 l := by
  have e : bundleB l = 80 :: 82 :: 67 :: 49 :: (framesB l ++ fourI (crc pSeal (bodyB l))) := by simp [bundleB, bodyB, framesB]
  unfold salv
  rw [e]
  obtain ⟨k, hk, hs⟩ := salvF_magic (framesB l ++ fourI (crc pSeal (bodyB l))) _ (Nat.le_refl _)
  rw [hs]
  exact salvF_whole _ (by simp [fourI]) l h k 4 hk
/-- Of a bundle that is cut those that are left whole are found first. -/
theorem salv_cut (l : List Fd) (h : Okay l) (k i : Nat) (hi : i < l.length) (hk : 4 + lenL (l.take (i + 1)) ≤ k) : (salv ((bundleB l).take k))[i]? = (atL 4 l)[i]? := by
  have e : bundleB l = 80 :: 82 :: 67 :: 49 :: (framesB l ++ fourI (crc pSeal (bodyB l))) := by simp [bundleB, bodyB, framesB]
  obtain ⟨j, rfl⟩ : ∃ j, k = j + 1 + 1 + 1 + 1 := ⟨k - 4, by omega⟩
  unfold salv
  rw [e]
  simp only [List.take_succ_cons]
  obtain ⟨k, hk2, hs⟩ := salvF_magic ((framesB l ++ fourI (crc pSeal (bodyB l))).take j) _ (Nat.le_refl _)
  rw [hs]
  exact salvF_cut _ l h j k 4 hk2 i hi (by omega)
theorem atL_at : ∀ (l : List Fd) (p i : Nat) (h : i < l.length), (atL p l)[i]? = some ((l[i]).put (p + lenL (l.take i)))
  | f :: l, p, 0, _ => by simp [atL, lenL]
  | f :: l, p, i + 1, h => by
    simp only [atL, List.getElem?_cons_succ]
    rw [atL_at l (p + lenF f) i (by simpa using h)]
    simp [lenL]; congr 1; omega
end Go.Proofs.Ytdjpkgaicmklmaa

/- What was found, as it lies in memory; how much it is at most. -/
namespace Go.Proofs.Ytdjpkgaicmklmaa
open Go.RowKit

theorem Lies.found {w : World} {a : Option Addr} {n : Nat} {c : Nat → Fd} (h : Lies w a n 9 (fun i => (c i).cells)) (cap : Nat) {k : Nat} (hk : k < n) :
    ∃ b o, b < w.heap.size ∧ (∀ w', (Instr.indexAt 57 (.slice a n cap) (.int .i64 (k : Int))).run Try.prog w' = .ok (.pointer (some ⟨b, o, none⟩)) w') ∧
      w.cell? ⟨b, o, none⟩ = some (.int .i64 (c k).at_) ∧ w.cell? ⟨b, o + 1, none⟩ = some (.int .i64 (c k).kind) ∧ w.cell? ⟨b, o + 2, none⟩ = some (.int .i64 (c k).seq) ∧
      w.cell? ⟨b, o + 3, none⟩ = some (.int .i64 (c k).base) ∧ w.cell? ⟨b, o + 4, none⟩ = some (.int .i64 (c k).id) ∧ w.cell? ⟨b, o + 5, none⟩ = some (.int .i64 (c k).site) ∧
      w.cell? ⟨b, o + 6, none⟩ = some (.int .i64 (c k).count) ∧ w.cell? ⟨b, o + 7, none⟩ = some (.bool (c k).gone) ∧ w.cell? ⟨b, o + 8, none⟩ = some (.string (c k).text) := by
  obtain ⟨b, o, hb, hi, hc⟩ := h.at cap (P := Try.prog) (t := 57) (by kernel_rfl) (by kernel_rfl) hk
  exact ⟨b, o, hb, hi, hc 0 _ (by omega) rfl, hc 1 _ (by omega) rfl, hc 2 _ (by omega) rfl, hc 3 _ (by omega) rfl, hc 4 _ (by omega) rfl, hc 5 _ (by omega) rfl, hc 6 _ (by omega) rfl, hc 7 _ (by omega) rfl, hc 8 _ (by omega) rfl⟩
theorem fvec_lies {w : World} {B : Nat} {ad : Option Addr} {n cap : Nat} {L : List Fd} (h : Vec w B 64 9 ad n cap (fcells L)) (hn : n = L.length) : Lies w ad n 9 (fun i => (L.getD i fd0).cells) := by
  refine Vec.lies (rows := L.map Fd.cells) h ?_ (by simp [hn]) _ ?_
  · intro r hr; obtain ⟨f, _, rfl⟩ := List.mem_map.1 hr; rfl
  · intro i hi; subst hn; simp [List.getD, hi]
theorem salvF_length : ∀ (k p : Nat) (s : List UInt8), (salvF k p s).length ≤ k
  | 0, _, _ => by simp [salvF]
  | k + 1, p, s => by
    simp only [salvF]
    split
    · simp
    · split
      · rename_i f n _; have := salvF_length k (p + n) (s.drop n); simp; omega
      · have := salvF_length k (p + 1) (s.drop 1); omega
theorem salv_length (b : List UInt8) : (salv b).length ≤ b.length := salvF_length _ _ _
end Go.Proofs.Ytdjpkgaicmklmaa

/- What Read says, without the program: frames, their order, the link. -/
namespace Go.Proofs.Ytdjpkgaicmklmaa
open Go.RowKit

def Kd (f : Fd) : Prop := f.kind = 1 ∨ f.kind = 2 ∨ f.kind = 3 ∨ f.kind = 4
/-- May f stand behind p? -/
def fitB (p f : Fd) : Bool :=
  if f.kind = 1 then (p.kind == 4 || (p.kind == 1 && decide (p.site < f.site)))
  else if f.kind = 2 then ((p.kind == 4 || p.kind == 1) || (p.kind == 2 && decide (p.id < f.id)))
  else if f.kind = 3 then true else false
def mayB (p f : Fd) : Bool :=
  if f.kind = 4 then false else if p.kind = 4 then true else if f.kind ≠ p.kind then decide (p.kind < f.kind)
  else if f.kind = 1 then decide (p.site < f.site) else if f.kind = 2 then decide (p.id < f.id) else true
theorem may_fit {p f : Fd} (hp : Kd p) (hf : Kd f) : mayB p f = fitB p f := by
  unfold mayB fitB
  rcases hp with h | h | h | h <;> rcases hf with h' | h' | h' | h' <;> rw [h, h'] <;> simp
/-- The place of the first that cannot stand there. -/
def ordF : Fd → List Fd → Option Int
  | _, [] => none
  | p, f :: l => if fitB p f = true then ordF f l else some f.at_
def ordRd : List Fd → Option Int
  | [] => some 4
  | f :: l => if f.kind = 4 then ordF f l else some f.at_
/-- Frames one directly behind the other, and the first place behind them. -/
def frF : Nat → Nat → List UInt8 → List Fd × Nat
  | 0, i, _ => ([], i)
  | k + 1, i, s => if s = [] then ([], i) else match standRd s with
    | some (f, n) => (f.putI i :: (frF k (i + n) (s.drop n)).1, (frF k (i + n) (s.drop n)).2)
    | none => ([], i)
theorem frF_nil (k i : Nat) : frF k i [] = ([], i) := by cases k <;> rfl
theorem frF_none {k i : Nat} {s : List UInt8} (h : standRd s = none) : frF k i s = ([], i) := by
  cases k with
  | zero => rfl
  | succ k => by_cases hs : s = []
              · subst hs; rfl
              · simp only [frF, if_neg hs, h]
theorem frF_some {k i : Nat} {s : List UInt8} {f : Fd} {n : Nat} (hne : s ≠ []) (h : standRd s = some (f, n)) : frF (k + 1) i s = (f.putI i :: (frF k (i + n) (s.drop n)).1, (frF k (i + n) (s.drop n)).2) := by simp only [frF, if_neg hne, h]
def ckOf (l : List Fd) : List Ck := (l.filter (fun f => f.kind == 1)).map (fun f => ⟨f.site, f.count⟩)
def cdOf (l : List Fd) : List Cd := (l.filter (fun f => f.kind == 2)).map (fun f => ⟨f.id, f.site, f.count, f.gone, f.text⟩)
def edOf (l : List Fd) : List Ed := (l.filter (fun f => f.kind == 3)).map (fun f => ⟨f.id, f.text⟩)
/-- What Read answers. -/
structure Ans where
  seq : Int
  base : Int
  err : Int
  place : Int
  K : List Ck
  C : List Cd
  E : List Ed
def ansErr (e p : Int) : Ans := ⟨0, 0, e, p, [], [], []⟩
def ansOk (l : List Fd) : Ans := ⟨(l.getD 0 fd0).seq, (l.getD 0 fd0).base, 0, 0, ckOf l, cdOf l, edOf l⟩
def magicB : List UInt8 := [80, 82, 67, 49]
def sealedB (b : List UInt8) : Bool := decide (8 ≤ b.length) && (b.drop (b.length - 4) == fourI (crc pSeal (b.take (b.length - 4))))
def framed (body : List UInt8) : List Fd × Nat := frF body.length 4 (body.drop 4)
def readRd (b : List UInt8) : Ans :=
  if b.length < 4 ∨ b.take 4 ≠ magicB then ansErr 7 0
  else if sealedB b = true then
    if (framed (b.take (b.length - 4))).2 < b.length - 4 then ansErr 9 (framed (b.take (b.length - 4))).2
    else match ordRd (framed (b.take (b.length - 4))).1 with
      | some p => ansErr 10 p
      | none => ansOk (framed (b.take (b.length - 4))).1
  else ansErr 8 0

theorem recRd_kd {s : List UInt8} {f : Fd} (h : recRd s = some f) : Kd f := by
  match s, h with
  | c :: s, h =>
    simp only [recRd] at h
    split at h
    · split at h
      · split at h
        · split at h
          · simp at h; subst h; exact Or.inr (Or.inr (Or.inr rfl))
          · cases h
        · split at h
          · simp at h; subst h; exact Or.inr (Or.inr (Or.inr rfl))
          · cases h
      · cases h
    · split at h
      · split at h
        · split at h
          · simp at h; subst h; exact Or.inl rfl
          · cases h
        · cases h
      · split at h
        · split at h
          · split at h
            · simp at h; subst h; exact Or.inr (Or.inl rfl)
            · cases h
          · cases h
        · split at h
          · split at h
            · simp at h; subst h; exact Or.inr (Or.inr (Or.inl rfl))
            · cases h
          · cases h
theorem standRd_kd {s : List UInt8} {f : Fd} {n : Nat} (h : standRd s = some (f, n)) : Kd f := by
  match s, h with
  | x :: y :: k :: t, h =>
    simp only [standRd] at h
    split at h
    · split at h
      · cases h
      · split at h
        · cases hr : recRd (t.take k.toNat) with
          | none => rw [hr] at h; cases h
          | some g => rw [hr] at h; simp at h; obtain ⟨rfl, _⟩ := h; exact recRd_kd hr
        · cases h
    · cases h
theorem frF_kd : ∀ (k i : Nat) (s : List UInt8), ∀ f ∈ (frF k i s).1, Kd f
  | 0, _, _, f, h => by simp [frF] at h
  | k + 1, i, s, f, h => by
    by_cases hs : s = []
    · subst hs; simp [frF] at h
    · cases hst : standRd s with
      | none => rw [frF_none hst] at h; cases h
      | some p =>
        obtain ⟨g, n⟩ := p
        rw [frF_some hs hst] at h
        rcases List.mem_cons.1 h with rfl | h
        · exact (standRd_kd hst : Kd g)
        · exact frF_kd k (i + n) (s.drop n) f h
theorem frF_first (k i : Nat) (s : List UInt8) (f : Fd) (l : List Fd) (h : (frF k i s).1 = f :: l) : f.at_ = i := by
  cases k with
  | zero => simp [frF] at h
  | succ k =>
    by_cases hs : s = []
    · subst hs; simp [frF] at h
    · cases hst : standRd s with
      | none => rw [frF_none hst] at h; cases h
      | some p =>
        obtain ⟨g, n⟩ := p
        rw [frF_some hs hst] at h
        simp at h
        rw [← h.1]; rfl
theorem frF_length : ∀ (k i : Nat) (s : List UInt8), (frF k i s).1.length ≤ k
  | 0, _, _ => by simp [frF]
  | k + 1, i, s => by
    by_cases hs : s = []
    · subst hs; simp [frF]
    · cases hst : standRd s with
      | none => rw [frF_none hst]; simp
      | some p =>
        obtain ⟨g, n⟩ := p
        rw [frF_some hs hst]
        have := frF_length k (i + n) (s.drop n)
        simp; omega
theorem frF_le : ∀ (k i : Nat) (s : List UInt8), i ≤ (frF k i s).2 ∧ (frF k i s).2 ≤ i + s.length
  | 0, i, s => by simp [frF]
  | k + 1, i, s => by
    by_cases hs : s = []
    · subst hs; simp [frF]
    · cases hst : standRd s with
      | none => rw [frF_none hst]; simp
      | some p =>
        obtain ⟨g, n⟩ := p
        rw [frF_some hs hst]
        have := frF_le k (i + n) (s.drop n)
        have := standRd_le hst
        simp at this ⊢
        simp at *
        omega
end Go.Proofs.Ytdjpkgaicmklmaa

