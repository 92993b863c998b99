/- Texts of the proof, one behind the other; what each holds is said at its head. -/
import Derived.Test.YtdjpkgaicmklmaaPartOnly0
import Derived.Test.YtdjpkgaicmklmaaPartOnly2
import Derived.Deep.RegionHeld3
import Derived.BigQuiet
import Derived.Deep.QuietTactic
import Derived.Test.YtdjpkgaicmklmaaPartOnly1
import Derived.Carry
/- parcelref.Clocked, walked. -/
namespace Go.Proofs.Ytdjpkgaicmklmaa
open Go.RowKit

set_option maxHeartbeats 1000000 in
theorem clocked_any (R : Rep) (a1 a2 a3 : Option Addr) (k1 k2 k3 : Nat) (site : Int) (w : World) (hR : Has w R a1 a2 a3) :
    Calls Try.prog 39 #[repV R a1 a2 a3 k1 k2 k3, .int .i64 site] w fun e w' => e = .returned (.int .i64 (R.clk site)) ∧ Below w.heap.size w w' := by
  have b1 := hR.b1; have b2 := hR.b2; have b3 := hR.b3
  go_enter Try.func39, Try.ntmps39
  go_wp2
  go_loopw [5] (fun i wr => ∃ k : Nat, k ≤ R.n1 ∧ i = .int .i64 k ∧ clockTo R.c site k = none ∧ BoxR w R a1 a2 a3 k1 k2 k3 wr) (fun i _ => R.n1 - (intOf i).toNat)
  case atStart => exact ⟨0, Nat.zero_le _, rfl, rfl, Below.refl _ _⟩
  case round =>
    obtain ⟨k, hk, rfl, hno, hb⟩ := hrel
    obtain ⟨x1, x2, x3⟩ := box3 hb
    have HN : Hid (clockTo R.c site k = none) := hno
    clear hno
    by_cases hlt : k < R.n1
    · obtain ⟨b, o, hbl, hix, hs, hc⟩ := (hR.below (below_box hb)).l1.clock k1 hlt
      go_wp2
      · have hp : (R.c k).site = site := by simpa using ‹((R.c k).site == site) = true›
        go_ret
        exact ⟨ret_int (by unfold Rep.clk; rw [clockTo_hit hlt HN.out hp]; rfl), below_box hb⟩
      · have hp : ¬ (R.c k).site = site := by simpa using ‹((R.c k).site == site) = false›
        go_roundw
        case rel => exact ⟨k + 1, by omega, by go_num, clockTo_no HN.out hp, hb⟩
        case measure => simp [intOf]; omega
    · have e1 : k = R.n1 := by omega
      have N1 : Hid (clockTo R.c site R.n1 = none) := e1 ▸ HN.out
      clear HN e1
      go_wp2
      go_ret
      exact ⟨ret_int (by unfold Rep.clk; rw [N1.out]; rfl), below_box hb⟩
end Go.Proofs.Ytdjpkgaicmklmaa

/- sound.wrongNumber, walked. -/
namespace Go.Proofs.Ytdjpkgaicmklmaa
open Go.RowKit

set_option maxHeartbeats 2000000 in
theorem wrongNumber_any (R : Rep) (a1 a2 a3 : Option Addr) (k1 k2 k3 : Nat) (w : World) (hR : Has w R a1 a2 a3) :
    Calls Try.prog 75 #[repV R a1 a2 a3 k1 k2 k3] w fun e w' => e = .returned (.bool R.numB) ∧ Below w.heap.size w w' := by
  have b1 := hR.b1; have b2 := hR.b2; have b3 := hR.b3
  go_enter Try.func75, Try.ntmps75
  go_wp2
  go_loopw [3] (fun i wr => ∃ k : Nat, k ≤ R.n1 ∧ i = .int .i64 k ∧ anyTo R.num1 k = false ∧ BoxR w R a1 a2 a3 k1 k2 k3 wr) (fun i _ => R.n1 - (intOf i).toNat)
  case atStart => exact ⟨0, Nat.zero_le _, rfl, rfl, Below.refl _ _⟩
  case round =>
    obtain ⟨k, hk, rfl, hno, hb⟩ := hrel
    obtain ⟨x1, x2, x3⟩ := box3 hb
    have HN : Hid (anyTo R.num1 k = false) := hno
    clear hno
    by_cases hlt : k < R.n1
    · obtain ⟨b, o, hbl, hix, hs, hc⟩ := (hR.below (below_box hb)).l1.clock k1 hlt
      go_wp2
      go_quiet ((go_at_call 116; exact Calls.quiet_of_same (wrongSiteOrCount_any _ _ _)))
      go_wp2
      · have hp : R.num1 k = true := by unfold Rep.num1; assumption
        go_ret
        exact ⟨ret_bool (by simp [Rep.numB, anyTo_hit hlt hp]), below_drewN (below_box hb) _⟩
      · have hp : R.num1 k = false := by unfold Rep.num1; assumption
        go_roundw
        case rel => exact ⟨k + 1, by omega, by go_num, anyTo_no HN.out hp, below_drewN hb _⟩
        case measure => simp [intOf]; omega
    · have e1 : k = R.n1 := by omega
      have N1 : Hid (anyTo R.num1 R.n1 = false) := e1 ▸ HN.out
      clear HN e1
      go_wp2
      go_loopw [4] (fun i wr => ∃ k : Nat, k ≤ R.n2 ∧ i = .int .i64 k ∧ anyTo R.num2 k = false ∧ BoxR w R a1 a2 a3 k1 k2 k3 wr) (fun i _ => R.n2 - (intOf i).toNat)
      case atStart => exact ⟨0, Nat.zero_le _, rfl, rfl, hb⟩
      case round =>
        clear x1 x2 x3 hb hk
        obtain ⟨k, hk, rfl, hno, hb⟩ := hrel
        obtain ⟨x1, x2, x3⟩ := box3 hb
        have HN : Hid (anyTo R.num2 k = false) := hno
        clear hno
        by_cases hlt : k < R.n2
        · obtain ⟨b, o, hbl, hix, hi, hs, hc, -, -⟩ := (hR.below (below_box hb)).l2.card k2 hlt
          go_wp2
          go_quiet ((go_at_call 116; exact Calls.quiet_of_same (wrongSiteOrCount_any _ _ _)))
          go_wp2_with (go_at_call 117; refine (outOfRange_any _ _ _).mono ?_; rintro e w' ⟨rfl, rfl⟩)
          · have hp : R.num2 k = true := by unfold Rep.num2; simp [*]
            go_ret
            exact ⟨ret_bool (by simp [Rep.numB, anyTo_hit hlt hp]), below_drewN (below_box hb) _⟩
          · have hp : R.num2 k = true := by unfold Rep.num2; simp [*]
            go_ret
            exact ⟨ret_bool (by simp [Rep.numB, anyTo_hit hlt hp]), below_drewN (below_box hb) _⟩
          · have hp : R.num2 k = false := by unfold Rep.num2; simp [*]
            go_roundw
            case rel => exact ⟨k + 1, by omega, by go_num, anyTo_no HN.out hp, below_drewN hb _⟩
            case measure => simp [intOf]; omega
        · have e1 : k = R.n2 := by omega
          have N2 : Hid (anyTo R.num2 R.n2 = false) := e1 ▸ HN.out
          clear HN e1
          go_wp2
          go_loopw [5] (fun i wr => ∃ k : Nat, k ≤ R.n3 ∧ i = .int .i64 k ∧ anyTo R.num3 k = false ∧ BoxR w R a1 a2 a3 k1 k2 k3 wr) (fun i _ => R.n3 - (intOf i).toNat)
          case atStart => exact ⟨0, Nat.zero_le _, rfl, rfl, hb⟩
          case round =>
            clear x1 x2 x3 hb hk
            obtain ⟨k, hk, rfl, hno, hb⟩ := hrel
            obtain ⟨x1, x2, x3⟩ := box3 hb
            have HN : Hid (anyTo R.num3 k = false) := hno
            clear hno
            by_cases hlt : k < R.n3
            · obtain ⟨b, o, hbl, hix, hi, -⟩ := (hR.below (below_box hb)).l3.edit k3 hlt
              go_wp2_with (go_at_call 117; refine (outOfRange_any _ _ _).mono ?_; rintro e w' ⟨rfl, rfl⟩)
              · have hp : R.num3 k = true := by unfold Rep.num3; assumption
                go_ret
                exact ⟨ret_bool (by simp [Rep.numB, anyTo_hit hlt hp]), below_box hb⟩
              · have hp : R.num3 k = false := by unfold Rep.num3; assumption
                go_roundw
                case rel => exact ⟨k + 1, by omega, by go_num, anyTo_no HN.out hp, hb⟩
                case measure => simp [intOf]; omega
            · have e1 : k = R.n3 := by omega
              have N3 : Hid (anyTo R.num3 R.n3 = false) := e1 ▸ HN.out
              clear HN e1
              go_wp2
              go_ret
              exact ⟨ret_bool (by simp [Rep.numB, N1.out, N2.out, N3.out]), below_box hb⟩


end Go.Proofs.Ytdjpkgaicmklmaa

/- sound.wrongText, walked. -/
namespace Go.Proofs.Ytdjpkgaicmklmaa
open Go.RowKit

set_option maxHeartbeats 2000000 in
theorem wrongText_any (R : Rep) (a1 a2 a3 : Option Addr) (k1 k2 k3 : Nat) (w : World) (hR : Has w R a1 a2 a3) :
    Calls Try.prog 76 #[repV R a1 a2 a3 k1 k2 k3] w fun e w' => e = .returned (.bool R.txtB) ∧ Below w.heap.size w w' := by
  have b1 := hR.b1; have b2 := hR.b2; have b3 := hR.b3
  go_enter Try.func76, Try.ntmps76
  go_wp2
  go_loopw [3] (fun i wr => ∃ k : Nat, k ≤ R.n2 ∧ i = .int .i64 k ∧ anyTo R.txt2 k = false ∧ BoxR w R a1 a2 a3 k1 k2 k3 wr) (fun i _ => R.n2 - (intOf i).toNat)
  case atStart => exact ⟨0, Nat.zero_le _, rfl, rfl, Below.refl _ _⟩
  case round =>
    obtain ⟨k, hk, rfl, hno, hb⟩ := hrel
    obtain ⟨x1, x2, x3⟩ := box3 hb
    have HN : Hid (anyTo R.txt2 k = false) := hno
    clear hno
    by_cases hlt : k < R.n2
    · obtain ⟨b, o, hbl, hix, -, -, -, hg, ht⟩ := (hR.below (below_box hb)).l2.card k2 hlt
      go_wp2
      · have hp : R.txt2 k = true := by unfold Rep.txt2 longB; simp [‹(60 : Int) < ((R.d k).text.size : Int)›]
        go_ret
        exact ⟨ret_bool (by simp [Rep.txtB, anyTo_hit hlt hp]), below_box hb⟩
      · have hp : R.txt2 k = true := by unfold Rep.txt2; simp only [‹(R.d k).gone = true›, ‹(!(R.d k).text.toList.isEmpty) = true›]; simp
        go_ret
        exact ⟨ret_bool (by simp [Rep.txtB, anyTo_hit hlt hp]), below_box hb⟩
      · have hp : R.txt2 k = false := by
          have h1 : ((R.d k).text.size : Int) ≤ 60 := by assumption
          unfold Rep.txt2 longB; simp only [‹(!(R.d k).text.toList.isEmpty) = false›]; simp; omega
        go_roundw
        case rel => exact ⟨k + 1, by omega, by go_num, anyTo_no HN.out hp, hb⟩
        case measure => simp [intOf]; omega
      · have hp : R.txt2 k = false := by
          have h1 : ((R.d k).text.size : Int) ≤ 60 := by assumption
          have h2 : ¬ (R.d k).gone = true := by assumption
          unfold Rep.txt2 longB; simp [h2]; omega
        go_roundw
        case rel => exact ⟨k + 1, by omega, by go_num, anyTo_no HN.out hp, hb⟩
        case measure => simp [intOf]; omega
    · have e1 : k = R.n2 := by omega
      have N1 : Hid (anyTo R.txt2 R.n2 = false) := e1 ▸ HN.out
      clear HN e1
      go_wp2
      go_loopw [4] (fun i wr => ∃ k : Nat, k ≤ R.n3 ∧ i = .int .i64 k ∧ anyTo R.txt3 k = false ∧ BoxR w R a1 a2 a3 k1 k2 k3 wr) (fun i _ => R.n3 - (intOf i).toNat)
      case atStart => exact ⟨0, Nat.zero_le _, rfl, rfl, hb⟩
      case round =>
        clear x1 x2 x3 hb hk
        obtain ⟨k, hk, rfl, hno, hb⟩ := hrel
        obtain ⟨x1, x2, x3⟩ := box3 hb
        have HN : Hid (anyTo R.txt3 k = false) := hno
        clear hno
        by_cases hlt : k < R.n3
        · obtain ⟨b, o, hbl, hix, -, ht⟩ := (hR.below (below_box hb)).l3.edit k3 hlt
          go_wp2
          · have hp : R.txt3 k = true := by unfold Rep.txt3 longB; simp [‹(60 : Int) < ((R.e k).text.size : Int)›]
            go_ret
            exact ⟨ret_bool (by simp [Rep.txtB, anyTo_hit hlt hp]), below_box hb⟩
          · have hp : R.txt3 k = false := by
              have h1 : ((R.e k).text.size : Int) ≤ 60 := by assumption
              unfold Rep.txt3 longB; simp; omega
            go_roundw
            case rel => exact ⟨k + 1, by omega, by go_num, anyTo_no HN.out hp, hb⟩
            case measure => simp [intOf]; omega
        · have e1 : k = R.n3 := by omega
          have N2 : Hid (anyTo R.txt3 R.n3 = false) := e1 ▸ HN.out
          clear HN e1
          go_wp2
          go_ret
          exact ⟨ret_bool (by simp [Rep.txtB, N1.out, N2.out]), below_box hb⟩


end Go.Proofs.Ytdjpkgaicmklmaa

/- sound.notRising, walked. -/
namespace Go.Proofs.Ytdjpkgaicmklmaa
open Go.RowKit

set_option maxHeartbeats 2000000 in
theorem notRising_any (R : Rep) (a1 a2 a3 : Option Addr) (k1 k2 k3 : Nat) (w : World) (hR : Has w R a1 a2 a3) :
    Calls Try.prog 77 #[repV R a1 a2 a3 k1 k2 k3] w fun e w' => e = .returned (.bool R.risB) ∧ Below w.heap.size w w' := by
  have b1 := hR.b1; have b2 := hR.b2; have b3 := hR.b3
  go_enter Try.func77, Try.ntmps77
  go_wp2
  go_loopw [3] (fun i wr => ∃ k : Nat, k ≤ R.n1 - 1 ∧ i = .int .i64 ((k : Int) + 1) ∧ anyTo R.ris1 k = false ∧ BoxR w R a1 a2 a3 k1 k2 k3 wr) (fun i _ => R.n1 - (intOf i).toNat)
  case atStart => exact ⟨0, Nat.zero_le _, rfl, rfl, Below.refl _ _⟩
  case round =>
    obtain ⟨k, hk, rfl, hno, hb⟩ := hrel
    obtain ⟨x1, x2, x3⟩ := box3 hb
    have HN : Hid (anyTo R.ris1 k = false) := hno
    clear hno
    by_cases hlt : k + 1 < R.n1
    · obtain ⟨b, o, hbl, hix, hs, -⟩ := (hR.below (below_box hb)).l1.clock k1 (show k < R.n1 by omega)
      obtain ⟨b', o', hbl', hix', hs', -⟩ := (hR.below (below_box hb)).l1.clock k1 hlt
      rw [show ((k + 1 : Nat) : Int) = (k : Int) + 1 from by omega] at hix'
      go_wp2
      go_quiet (fail)
      go_wp2
      · have hp : R.ris1 k = true := by unfold Rep.ris1; simp [‹(R.c (k + 1)).site ≤ (R.c k).site›]
        go_ret
        exact ⟨ret_bool (by simp [Rep.risB, anyTo_hit (show k < R.n1 - 1 by omega) hp]), below_drewN (below_box hb) _⟩
      · have hp : R.ris1 k = false := by
          have h1 : (R.c k).site < (R.c (k + 1)).site := by assumption
          unfold Rep.ris1; simp; omega
        go_roundw
        case rel => exact ⟨k + 1, by omega, by go_num, anyTo_no HN.out hp, below_drewN hb _⟩
        case measure => simp [intOf]; omega
    · have e1 : k = R.n1 - 1 := by omega
      have N1 : Hid (anyTo R.ris1 (R.n1 - 1) = false) := e1 ▸ HN.out
      clear HN e1
      go_wp2
      go_loopw [4] (fun i wr => ∃ k : Nat, k ≤ R.n2 - 1 ∧ i = .int .i64 ((k : Int) + 1) ∧ anyTo R.ris2 k = false ∧ BoxR w R a1 a2 a3 k1 k2 k3 wr) (fun i _ => R.n2 - (intOf i).toNat)
      case atStart => exact ⟨0, Nat.zero_le _, rfl, rfl, hb⟩
      case round =>
        clear x1 x2 x3 hb hk hlt
        obtain ⟨k, hk, rfl, hno, hb⟩ := hrel
        obtain ⟨x1, x2, x3⟩ := box3 hb
        have HN : Hid (anyTo R.ris2 k = false) := hno
        clear hno
        by_cases hlt : k + 1 < R.n2
        · obtain ⟨b, o, hbl, hix, hs, -, -, -, -⟩ := (hR.below (below_box hb)).l2.card k2 (show k < R.n2 by omega)
          obtain ⟨b', o', hbl', hix', hs', -, -, -, -⟩ := (hR.below (below_box hb)).l2.card k2 hlt
          rw [show ((k + 1 : Nat) : Int) = (k : Int) + 1 from by omega] at hix'
          go_wp2
          go_quiet (fail)
          go_wp2
          · have hp : R.ris2 k = true := by unfold Rep.ris2; simp [‹(R.d (k + 1)).id ≤ (R.d k).id›]
            go_ret
            exact ⟨ret_bool (by simp [Rep.risB, anyTo_hit (show k < R.n2 - 1 by omega) hp]), below_drewN (below_box hb) _⟩
          · have hp : R.ris2 k = false := by
              have h1 : (R.d k).id < (R.d (k + 1)).id := by assumption
              unfold Rep.ris2; simp; omega
            go_roundw
            case rel => exact ⟨k + 1, by omega, by go_num, anyTo_no HN.out hp, below_drewN hb _⟩
            case measure => simp [intOf]; omega
        · have e1 : k = R.n2 - 1 := by omega
          have N2 : Hid (anyTo R.ris2 (R.n2 - 1) = false) := e1 ▸ HN.out
          clear HN e1
          go_wp2
          go_ret
          exact ⟨ret_bool (by simp [Rep.risB, N1.out, N2.out]), below_box hb⟩

end Go.Proofs.Ytdjpkgaicmklmaa

/- replicas.CountOf and sound.uncovered, walked. -/
namespace Go.Proofs.Ytdjpkgaicmklmaa
open Go.RowKit

set_option maxHeartbeats 1000000 in
theorem countOf_any (a : Option Addr) (n cap : Nat) (c : Nat → Ck) (site : Int) (w : World) (hn : n ≤ 140737488355328) (hL : Lies w a n 2 (fun i => (c i).cells)) :
    Calls Try.prog 118 #[.slice a n cap, .int .i64 site] w fun e w' => e = .returned (.int .i64 ((clockTo c site n).getD 0)) ∧ w' = w := by
  go_enter Try.func118, Try.ntmps118
  go_wp2
  go_loop [5] (fun i => ∃ k : Nat, k ≤ n ∧ i = .int .i64 k ∧ clockTo c site k = none) (fun i => n - (intOf i).toNat)
  case atStart => exact ⟨0, Nat.zero_le _, rfl, rfl⟩
  case round =>
    obtain ⟨k, hk, rfl, hno⟩ := hrel
    have HN : Hid (clockTo c site k = none) := hno
    clear hno
    by_cases hlt : k < n
    · obtain ⟨b, o, hbl, hix, hs, hc⟩ := hL.clock cap hlt
      go_wp2
      · have hp : (c k).site = site := by simpa using ‹((c k).site == site) = true›
        go_ret
        exact ⟨ret_int (by rw [clockTo_hit hlt HN.out hp]; rfl), rfl⟩
      · have hp : ¬ (c k).site = site := by simpa using ‹((c k).site == site) = false›
        go_round
        case rel => exact ⟨k + 1, by omega, by go_num, clockTo_no HN.out hp⟩
        case measure => simp [intOf]; omega
    · have e1 : k = n := by omega
      have N1 : Hid (clockTo c site n = none) := e1 ▸ HN.out
      clear HN e1
      go_wp2
      go_ret
      exact ⟨ret_int (by rw [N1.out]; rfl), rfl⟩

theorem Lies.drewN {w : World} {a : Option Addr} {n m : Nat} {f : Nat → List Value} (h : Lies w a n m f) (q : Nat) : Lies (w.drewN q) a n m f := h.below (below_drewN (Below.refl _ _) _)

set_option maxHeartbeats 1000000 in
theorem uncovered_any (R : Rep) (a1 a2 a3 : Option Addr) (k1 k2 k3 : Nat) (w : World) (hR : Has w R a1 a2 a3) :
    Calls Try.prog 78 #[repV R a1 a2 a3 k1 k2 k3] w fun e w' => e = .returned (.bool R.uncB) ∧ Below w.heap.size w w' := by
  have b1 := hR.b1; have b2 := hR.b2; have b3 := hR.b3
  go_enter Try.func78, Try.ntmps78
  go_wp2
  go_loopw [3] (fun i wr => ∃ k : Nat, k ≤ R.n2 ∧ i = .int .i64 k ∧ anyTo R.unc k = false ∧ BoxR w R a1 a2 a3 k1 k2 k3 wr) (fun i _ => R.n2 - (intOf i).toNat)
  case atStart => exact ⟨0, Nat.zero_le _, rfl, rfl, Below.refl _ _⟩
  case round =>
    obtain ⟨k, hk, rfl, hno, hb⟩ := hrel
    obtain ⟨x1, x2, x3⟩ := box3 hb
    have HN : Hid (anyTo R.unc k = false) := hno
    clear hno
    by_cases hlt : k < R.n2
    · obtain ⟨b, o, hbl, hix, -, hs, hc, -, -⟩ := (hR.below (below_box hb)).l2.card k2 hlt
      have hL := (hR.below (below_box hb)).l1
      go_wp2
      go_quiet ((go_at_call 118; exact Calls.quiet_of_same (countOf_any _ _ _ R.c _ _ (by omega) (by exact hL.drewN _))))
      go_wp2
      · have hp : R.unc k = true := by unfold Rep.unc Rep.clk; simp [‹(clockTo R.c (R.d k).site R.n1).getD 0 < (R.d k).count›]
        go_ret
        exact ⟨ret_bool (by simp [Rep.uncB, anyTo_hit hlt hp]), below_drewN (below_box hb) _⟩
      · have hp : R.unc k = false := by
          have h1 : (R.d k).count ≤ (clockTo R.c (R.d k).site R.n1).getD 0 := by assumption
          unfold Rep.unc Rep.clk; simp; omega
        go_roundw
        case rel => exact ⟨k + 1, by omega, by go_num, anyTo_no HN.out hp, below_drewN hb _⟩
        case measure => simp [intOf]; omega
    · have e1 : k = R.n2 := by omega
      have N1 : Hid (anyTo R.unc R.n2 = false) := e1 ▸ HN.out
      clear HN e1
      go_wp2
      go_ret
      exact ⟨ret_bool (by simp [Rep.uncB, N1.out]), below_box hb⟩

end Go.Proofs.Ytdjpkgaicmklmaa

/- sound.TooMany, sound.Check and parcel.Check, walked. -/
namespace Go.Proofs.Ytdjpkgaicmklmaa
open Go.RowKit

set_option maxHeartbeats 1000000 in
theorem tooMany_any (R : Rep) (a1 a2 a3 : Option Addr) (k1 k2 k3 : Nat) (w : World) (hR : Has w R a1 a2 a3) :
    Calls Try.prog 74 #[repV R a1 a2 a3 k1 k2 k3] w fun e w' => e = .returned (.bool R.manyB) ∧ Below w.heap.size w w' := by
  have b1 := hR.b1; have b2 := hR.b2; have b3 := hR.b3
  go_enter Try.func74, Try.ntmps74
  go_wp2
  all_goals (go_ret; refine ⟨ret_bool ?_, (Below.refl _ _).alloc (Nat.le_refl _) _⟩; unfold Rep.manyB; rw [Bool.eq_iff_iff]; simp; try omega)

/-- The world behind a call made with the box laid. -/
theorem boxR_step {w wr w1 : World} {R : Rep} {a1 a2 a3 : Option Addr} {k1 k2 k3 : Nat} (hb : BoxR w R a1 a2 a3 k1 k2 k3 wr) (h : Below wr.heap.size wr w1) : BoxR w R a1 a2 a3 k1 k2 k3 w1 :=
  hb.trans (h.mono (by have := hb.size; simpa using this))

set_option maxHeartbeats 2000000 in
theorem check_any (R : Rep) (a1 a2 a3 : Option Addr) (k1 k2 k3 : Nat) (w : World) (hR : Has w R a1 a2 a3) :
    Calls Try.prog 35 #[repV R a1 a2 a3 k1 k2 k3] w fun e w' => e = .returned (.int .i64 R.chk) ∧ Below w.heap.size w w' := by
  have hb0 : BoxR w R a1 a2 a3 k1 k2 k3 (w.alloc (.cells #[.slice a1 R.n1 k1, .slice a2 R.n2 k2, .slice a3 R.n3 k3] 26)) := Below.refl _ _
  go_enter Try.func35, Try.ntmps35
  go_wp2_with fail
  refine (tooMany_any R a1 a2 a3 k1 k2 k3 _ (hR.below (below_box hb0))).mono ?_
  rintro e w1 ⟨rfl, h1⟩
  have hb1 := boxR_step hb0 h1
  obtain ⟨x1, x2, x3⟩ := box3 hb1
  clear h1 hb0
  cases g1 : R.manyB
  case true =>
    go_wp2_with fail
    go_ret
    exact ⟨ret_int (by simp [Rep.chk, g1]), below_box hb1⟩
  go_wp2_with fail
  refine (wrongNumber_any R a1 a2 a3 k1 k2 k3 _ (hR.below (below_box hb1))).mono ?_
  rintro e w2 ⟨rfl, h1⟩
  have hb2 := boxR_step hb1 h1
  clear x1 x2 x3 h1 hb1
  obtain ⟨x1, x2, x3⟩ := box3 hb2
  cases g2 : R.numB
  case true =>
    go_wp2_with fail
    go_ret
    exact ⟨ret_int (by simp [Rep.chk, g1, g2]), below_box hb2⟩
  go_wp2_with fail
  refine (wrongText_any R a1 a2 a3 k1 k2 k3 _ (hR.below (below_box hb2))).mono ?_
  rintro e w3 ⟨rfl, h1⟩
  have hb3 := boxR_step hb2 h1
  clear x1 x2 x3 h1 hb2
  obtain ⟨x1, x2, x3⟩ := box3 hb3
  cases g3 : R.txtB
  case true =>
    go_wp2_with fail
    go_ret
    exact ⟨ret_int (by simp [Rep.chk, g1, g2, g3]), below_box hb3⟩
  go_wp2_with fail
  refine (notRising_any R a1 a2 a3 k1 k2 k3 _ (hR.below (below_box hb3))).mono ?_
  rintro e w4 ⟨rfl, h1⟩
  have hb4 := boxR_step hb3 h1
  clear x1 x2 x3 h1 hb3
  obtain ⟨x1, x2, x3⟩ := box3 hb4
  cases g4 : R.risB
  case true =>
    go_wp2_with fail
    go_ret
    exact ⟨ret_int (by simp [Rep.chk, g1, g2, g3, g4]), below_box hb4⟩
  go_wp2_with fail
  refine (uncovered_any R a1 a2 a3 k1 k2 k3 _ (hR.below (below_box hb4))).mono ?_
  rintro e w5 ⟨rfl, h1⟩
  have hb5 := boxR_step hb4 h1
  clear x1 x2 x3 h1 hb4
  obtain ⟨x1, x2, x3⟩ := box3 hb5
  cases g5 : R.uncB
  case true =>
    go_wp2_with fail
    go_ret
    exact ⟨ret_int (by simp [Rep.chk, g1, g2, g3, g4, g5]), below_box hb5⟩
  go_wp2_with fail
  refine (clashing_any a2 R.n2 k2 R.d _ hR.b2 (hR.below (below_box hb5)).l2).mono ?_
  rintro e w6 ⟨rfl, h1⟩
  have hb6 := boxR_step hb5 h1
  clear x1 x2 x3 h1 hb5
  have hcl : anyTo (fun i => anyTo (fun k => stampB (R.d i) (R.d k)) i) R.n2 = R.clashB := rfl
  rw [hcl]
  clear hcl
  cases g6 : R.clashB
  case true =>
    go_wp2_with fail
    go_ret
    exact ⟨ret_int (by simp [Rep.chk, g1, g2, g3, g4, g5, g6]), below_box hb6⟩
  go_wp2_with fail
  go_ret
  exact ⟨ret_int (by simp [Rep.chk, g1, g2, g3, g4, g5, g6]), below_box hb6⟩

set_option maxHeartbeats 1000000 in
theorem pcheck_any (R : Rep) (a1 a2 a3 : Option Addr) (k1 k2 k3 : Nat) (w : World) (hR : Has w R a1 a2 a3) :
    Calls Try.prog 15 #[repV R a1 a2 a3 k1 k2 k3] w fun e w' => e = .returned (.int .i64 R.chk) ∧ Below w.heap.size w w' := by
  have hb0 : BoxR w R a1 a2 a3 k1 k2 k3 (w.alloc (.cells #[.slice a1 R.n1 k1, .slice a2 R.n2 k2, .slice a3 R.n3 k3] 26)) := Below.refl _ _
  go_enter Try.func15, Try.ntmps15
  go_wp2_with fail
  refine (check_any R a1 a2 a3 k1 k2 k3 _ (hR.below (below_box hb0))).mono ?_
  rintro e w1 ⟨rfl, h1⟩
  go_wp2_with fail
  go_ret
  exact ⟨rfl, below_box (boxR_step hb0 h1)⟩
end Go.Proofs.Ytdjpkgaicmklmaa

/- parcelref.Check, walked. -/
namespace Go.Proofs.Ytdjpkgaicmklmaa
open Go.RowKit

set_option maxHeartbeats 4000000 in
theorem rcheck_any (R : Rep) (a1 a2 a3 : Option Addr) (k1 k2 k3 : Nat) (w : World) (hR : Has w R a1 a2 a3) :
    Calls Try.prog 16 #[repV R a1 a2 a3 k1 k2 k3] w fun e w' => e = .returned (.int .i64 R.chk) ∧ Below w.heap.size w w' := by
  have b1 := hR.b1; have b2 := hR.b2; have b3 := hR.b3
  have hb0 : BoxR w R a1 a2 a3 k1 k2 k3 (w.alloc (.cells #[.slice a1 R.n1 k1, .slice a2 R.n2 k2, .slice a3 R.n3 k3] 26)) := Below.refl _ _
  cases g1 : R.manyB
  case true =>
    have hm : (8 : Int) < (R.n1 : Int) ∨ (R.n1 : Int) ≤ 8 ∧ ((40 : Int) < (R.n2 : Int) ∨ (R.n2 : Int) ≤ 40 ∧ (16 : Int) < (R.n3 : Int)) := by
      unfold Rep.manyB at g1; simp at g1; omega
    rcases hm with h | ⟨h, h' | ⟨h', h''⟩⟩
    all_goals
      go_enter Try.func16, Try.ntmps16
      go_wp2_with fail
      go_ret
      exact ⟨ret_int (by simp [Rep.chk, g1]), below_box hb0⟩
  have hm : (R.n1 : Int) ≤ 8 ∧ (R.n2 : Int) ≤ 40 ∧ (R.n3 : Int) ≤ 16 := by
    unfold Rep.manyB at g1; simp at g1; omega
  obtain ⟨m1, m2, m3⟩ := hm
  go_enter Try.func16, Try.ntmps16
  go_wp2_with fail
  refine (numbered_any R a1 a2 a3 k1 k2 k3 _ (hR.below (below_box hb0))).mono ?_
  rintro e w2 ⟨rfl, h1⟩
  have hb2 := boxR_step hb0 h1
  clear h1 hb0
  obtain ⟨x1, x2, x3⟩ := box3 hb2
  cases g2 : R.numB
  case true =>
    go_wp2_with fail
    go_ret
    exact ⟨ret_int (by simp [Rep.chk, g1, g2]), below_box hb2⟩
  go_wp2_with fail
  refine (texted_any R a1 a2 a3 k1 k2 k3 _ (hR.below (below_box hb2))).mono ?_
  rintro e w3 ⟨rfl, h1⟩
  have hb3 := boxR_step hb2 h1
  clear x1 x2 x3 h1 hb2
  obtain ⟨x1, x2, x3⟩ := box3 hb3
  cases g3 : R.txtB
  case true =>
    go_wp2_with fail
    go_ret
    exact ⟨ret_int (by simp [Rep.chk, g1, g2, g3]), below_box hb3⟩
  go_wp2_with fail
  refine (rising_any R a1 a2 a3 k1 k2 k3 _ (hR.below (below_box hb3))).mono ?_
  rintro e w4 ⟨rfl, h1⟩
  have hb4 := boxR_step hb3 h1
  clear x1 x2 x3 h1 hb3
  obtain ⟨x1, x2, x3⟩ := box3 hb4
  cases g4 : R.risB
  case true =>
    go_wp2_with fail
    go_ret
    exact ⟨ret_int (by simp [Rep.chk, g1, g2, g3, g4]), below_box hb4⟩
  go_wp2_with fail
  go_loopw [4, 5] (fun i _ wr => ∃ k : Nat, k ≤ R.n2 ∧ i = .int .i64 k ∧ anyTo R.unc k = false ∧ BoxR w R a1 a2 a3 k1 k2 k3 wr) (fun i _ _ => R.n2 - (intOf i).toNat)
  case atStart => exact ⟨0, Nat.zero_le _, rfl, rfl, hb4⟩
  case round =>
    clear x1 x2 x3
    have HB4 : Hid (BoxR w R a1 a2 a3 k1 k2 k3 w4) := hb4
    clear hb4
    obtain ⟨k, hk, rfl, hno, hb⟩ := hrel
    obtain ⟨x1, x2, x3⟩ := box3 hb
    have HN : Hid (anyTo R.unc k = false) := hno
    clear hno
    by_cases hlt : k < R.n2
    · obtain ⟨b, o, hbl, hix, -, hs, hc, -, -⟩ := (hR.below (below_box hb)).l2.card k2 hlt
      have hH := hR.below (below_box hb)
      have hws : w.heap.size < wr.heap.size := by have := hb.size; simp at this; omega
      go_wp2_with fail
      go_region_held3 (fun w' => w'.cell? ⟨w.heap.size, 0, none⟩ = some (.slice a1 R.n1 k1) ∧ w'.cell? ⟨w.heap.size, 1, none⟩ = some (.slice a2 R.n2 k2) ∧ w'.cell? ⟨w.heap.size, 2, none⟩ = some (.slice a3 R.n3 k3) ∧ w'.cell? ⟨b, o + 1, none⟩ = some (.int .i64 (R.d k).site) ∧ w'.cell? ⟨b, o + 2, none⟩ = some (.int .i64 (R.d k).count))
         (first | (go_keep; done) | (simp only [hcc b _ hbl, hcc w.heap.size _ hws]; go_keep; done))
         (first | (go_at_call 39; refine (clocked_any R a1 a2 a3 k1 k2 k3 _ _ (by exact hH.below (below_drewN (Below.refl _ _) 1))).mono ?_; rintro e w' ⟨rfl, hb2⟩; obtain ⟨hcc, hff⟩ := bcell hb2))
      have hb3 : BoxR w R a1 a2 a3 k1 k2 k3 w' := boxR_step (below_drewN hb 1) hb2
      clear hcc hff hb2
      go_wp2_with fail
      · have hp : R.unc k = true := by unfold Rep.unc; simp [‹R.clk (R.d k).site < (R.d k).count›]
        go_ret
        exact ⟨ret_int (by simp [Rep.chk, g1, g2, g3, g4, show R.uncB = true from anyTo_hit hlt hp]), below_box hb3⟩
      · have hp : R.unc k = false := by
          have h1 : (R.d k).count ≤ R.clk (R.d k).site := by assumption
          unfold Rep.unc; simp; omega
        go_roundw
        case rel => exact ⟨k + 1, by omega, by go_num, anyTo_no HN.out hp, hb3⟩
        case measure => simp [intOf]; omega
    · have e1 : k = R.n2 := by omega
      have g5 : Hid (R.uncB = false) := by unfold Rep.uncB; rw [← e1]; exact HN.out
      clear HN e1
      go_wp2_with fail
      go_loopw [6, 7] (fun i _ wr => ∃ k : Nat, k ≤ R.n2 ∧ i = .int .i64 k ∧ anyTo R.clash k = false ∧ BoxR w R a1 a2 a3 k1 k2 k3 wr) (fun i _ _ => R.n2 - (intOf i).toNat)
      case atStart => exact ⟨0, Nat.zero_le _, rfl, rfl, hb⟩
      case round =>
        clear x1 x2 x3 hb hk hlt
        obtain ⟨k, hk, rfl, hno, hb⟩ := hrel
        obtain ⟨x1, x2, x3⟩ := box3 hb
        have HN : Hid (anyTo R.clash k = false) := hno
        clear hno
        by_cases hlt : k < R.n2
        · have hd1 : decide ((k : Int) < (R.n2 : Int)) = true := by simp; omega
          go_wp2_with fail
          go_loopw [7] (fun i wr => ∃ j : Nat, j ≤ k ∧ i = .int .i64 j ∧ anyTo (fun i => stampB (R.d k) (R.d i)) j = false ∧ BoxR w R a1 a2 a3 k1 k2 k3 wr) (fun i _ => k - (intOf i).toNat)
          case atStart => exact ⟨0, Nat.zero_le _, rfl, rfl, hb⟩
          case round =>
            clear x1 x2 x3 hb
            obtain ⟨j, hj, rfl, hno, hb⟩ := hrel
            obtain ⟨x1, x2, x3⟩ := box3 hb
            have HM : Hid (anyTo (fun i => stampB (R.d k) (R.d i)) j = false) := hno
            clear hno
            by_cases hjt : j < k
            · obtain ⟨b, o, hbl, hix, -, c2, c3, -, -⟩ := (hR.below (below_box hb)).l2.card k2 hlt
              obtain ⟨b', o', hbl', hix', -, c2', c3', -, -⟩ := (hR.below (below_box hb)).l2.card k2 (show j < R.n2 by omega)
              by_cases hss : (R.d k).site = (R.d j).site
              · have hs1 : ((R.d k).site == (R.d j).site) = true := by simp [hss]
                clear hss
                go_wp2_with fail
                go_quiet (fail)
                go_wp2_with fail
                · have hp : stampB (R.d k) (R.d j) = true := by unfold stampB; rw [hs1, ‹((R.d k).count == (R.d j).count) = true›]; rfl
                  go_ret
                  refine ⟨ret_int ?_, below_box (below_drewN hb _)⟩
                  have hc : R.clashB = true := anyTo_hit (p := R.clash) hlt (anyTo_hit (p := fun i => stampB (R.d k) (R.d i)) hjt hp)
                  simp [Rep.chk, g1, g2, g3, g4, g5.out, hc]
                · have hp : stampB (R.d k) (R.d j) = false := by unfold stampB; rw [hs1, ‹((R.d k).count == (R.d j).count) = false›]; rfl
                  go_roundw
                  case rel => exact ⟨j + 1, by omega, by go_num, anyTo_no (p := fun i => stampB (R.d k) (R.d i)) HM.out hp, below_drewN hb _⟩
                  case measure => simp [intOf]; omega
              · have hs1 : ((R.d k).site == (R.d j).site) = false := by simp [hss]
                clear hss
                go_wp2_with fail
                go_quiet (fail)
                go_wp2_with fail
                have hp : stampB (R.d k) (R.d j) = false := by unfold stampB; rw [hs1]; rfl
                go_roundw
                case rel => exact ⟨j + 1, by omega, by go_num, anyTo_no (p := fun i => stampB (R.d k) (R.d i)) HM.out hp, below_drewN hb _⟩
                case measure => simp [intOf]; omega
            · have e1 : j = k := by omega
              have N1 : Hid (R.clash k = false) := by unfold Rep.clash; rw [← e1]; rw [← e1] at HM; exact HM.out
              clear HM e1
              go_wp2_with fail
              go_roundw
              case rel => exact ⟨k + 1, by omega, by go_num, anyTo_no HN.out N1.out, hb⟩
              case measure => simp [intOf]; omega
        · have e1 : k = R.n2 := by omega
          have g6 : Hid (R.clashB = false) := by unfold Rep.clashB; rw [← e1]; exact HN.out
          clear HN e1
          go_wp2_with fail
          go_ret
          exact ⟨ret_int (by simp [Rep.chk, g1, g2, g3, g4, g5.out, g6.out]), below_box hb⟩
end Go.Proofs.Ytdjpkgaicmklmaa

/- parcellaw.Checks: called with any replica that lies in memory it answers true, and nothing that was there has turned. -/
namespace Go.Proofs.Ytdjpkgaicmklmaa
open Go.RowKit

theorem below_step2 {w w1 wr : World} {R : Rep} {a1 a2 a3 : Option Addr} {k1 k2 k3 : Nat} {o : Obj} (hb : BoxR w R a1 a2 a3 k1 k2 k3 w1) (h : Below (w1.heap.size + 1) (w1.alloc o) wr) : BoxR w R a1 a2 a3 k1 k2 k3 wr :=
  boxR_step hb (below_box h)

set_option maxRecDepth 100000 in
set_option maxHeartbeats 4000000 in
theorem checks_any (R : Rep) (a1 a2 a3 : Option Addr) (k1 k2 k3 : Nat) (w : World) (hR : Has w R a1 a2 a3) :
    Calls Try.prog 3 #[repV R a1 a2 a3 k1 k2 k3] w fun e w' => e = .returned (.bool true) ∧ Below w.heap.size w w' := by
  have hb0 : BoxR w R a1 a2 a3 k1 k2 k3 (w.alloc (.cells #[.slice a1 R.n1 k1, .slice a2 R.n2 k2, .slice a3 R.n3 k3] 26)) := Below.refl _ _
  go_enter Try.func3, Try.ntmps3
  go_wp2_with fail
  refine (handed_any R a1 a2 a3 k1 k2 k3 _ (hR.below (below_box hb0))).mono ?_
  rintro e w1 ⟨b1, b2, b3, g1, g2, g3, rfl, hH, hg, h1⟩
  have hb1 := boxR_step hb0 h1
  clear h1 hb0
  obtain ⟨x1, x2, x3⟩ := box3 hb1
  have hws : w.heap.size < w1.heap.size := by have := hb1.size; simp at this; omega
  have hq0 : BoxR w1 R b1 b2 b3 (R.n1 + 2) (R.n2 + 2) (R.n3 + 2) (w1.alloc (.cells #[.slice b1 R.n1 (R.n1 + 2), .slice b2 R.n2 (R.n2 + 2), .slice b3 R.n3 (R.n3 + 2)] 26)) := Below.refl _ _
  go_wp2_with fail
  refine (pcheck_any R b1 b2 b3 _ _ _ _ ((hH.has hR).below (below_box hq0))).mono ?_
  rintro e w2 ⟨rfl, h2⟩
  have hq2 := boxR_step hq0 h2
  clear h2 hq0 x1 x2 x3
  obtain ⟨x1, x2, x3⟩ := box3 (below_step2 hb1 hq2)
  obtain ⟨z1, z2, z3⟩ := box3 hq2
  go_wp2_with fail
  refine (rcheck_any R a1 a2 a3 _ _ _ _ (hR.below (below_box (below_step2 hb1 hq2)))).mono ?_
  rintro e w3 ⟨rfl, h3⟩
  have hq3 := boxR_step hq2 h3
  clear h3 hq2 x1 x2 x3 z1 z2 z3
  obtain ⟨x1, x2, x3⟩ := box3 (below_step2 hb1 hq3)
  obtain ⟨z1, z2, z3⟩ := box3 hq3
  go_wp2_with fail
  refine (still_any R a1 a2 a3 b1 b2 b3 g1 g2 g3 _ _ _ _ (hR.below (below_box (below_step2 hb1 hq3))) (hH.below (below_box hq3))).mono ?_
  rintro e w4 ⟨rfl, h4⟩
  have hq4 := boxR_step hq3 h4
  clear h4 hq3 x1 x2 x3 z1 z2 z3
  go_wp2_with fail
  go_ret
  exact ⟨rfl, below_box (below_step2 hb1 hq4)⟩
end Go.Proofs.Ytdjpkgaicmklmaa

/- Export of both, and parcellaw.Exports: called with any replica that lies in memory it answers true. -/
namespace Go.Proofs.Ytdjpkgaicmklmaa
open Go.RowKit

/-- A sound replica can be written. -/
theorem Rep.fit {R : Rep} (h : R.chk = 0) : Fit R := by
  have g1 : R.manyB = false := by
    cases hh : R.manyB
    · rfl
    · simp [Rep.chk, hh] at h
  have g2 : R.numB = false := by
    cases hh : R.numB
    · rfl
    · simp [Rep.chk, g1, hh] at h
  have g3 : R.txtB = false := by
    cases hh : R.txtB
    · rfl
    · simp [Rep.chk, g1, g2, hh] at h
  have hm : R.n1 ≤ 8 ∧ R.n2 ≤ 40 ∧ R.n3 ≤ 16 := by
    unfold Rep.manyB at g1; simp at g1; omega
  unfold Rep.numB at g2
  simp only [Bool.or_eq_false_iff] at g2
  unfold Rep.txtB at g3
  simp only [Bool.or_eq_false_iff] at g3
  have num : ∀ n m : Int, outB n m = false → m ≤ 4611686018427387904 → Num n := by
    intro n m hh hm
    unfold outB at hh
    simp at hh
    exact ⟨by omega, by omega⟩
  have none_of : ∀ (p : Nat → Bool) (n : Nat), anyTo p n = false → ∀ i, i < n → p i = false := by
    intro p n hh i hi
    cases hp : p i
    · rfl
    · rw [anyTo_hit hi hp] at hh; cases hh
  have long : ∀ t : ByteArray, longB t = false → t.size ≤ 60 := by
    intro t ht
    unfold longB at ht
    simp at ht
    omega
  refine ⟨by omega, by omega, by omega, fun i hi => ?_, fun i hi => ?_, fun i hi => ?_⟩
  · have h1 := none_of _ _ g2.1 i hi
    unfold Rep.num1 scB at h1
    simp only [Bool.or_eq_false_iff] at h1
    exact ⟨num _ _ h1.1 (by decide), num _ _ h1.2 (by decide)⟩
  · have h1 := none_of _ _ g2.2.1 i hi
    unfold Rep.num2 scB at h1
    simp only [Bool.or_eq_false_iff] at h1
    have h2 := none_of _ _ g3.1 i hi
    unfold Rep.txt2 at h2
    simp only [Bool.or_eq_false_iff] at h2
    exact ⟨num _ _ h1.2 (by decide), num _ _ h1.1.1 (by decide), num _ _ h1.1.2 (by decide), long _ h2.1⟩
  · have h1 := none_of _ _ g2.2.2 i hi
    unfold Rep.num3 at h1
    have h2 := none_of _ _ g3.2 i hi
    unfold Rep.txt3 at h2
    exact ⟨num _ _ h1 (by decide), long _ h2⟩

/-- The answer of Export. -/
def Rep.exp (R : Rep) : List UInt8 := if R.chk = 0 then bundleB (recsOf 0 0 R) else []

set_option maxRecDepth 100000 in
set_option maxHeartbeats 2000000 in
theorem export_any (R : Rep) (a1 a2 a3 : Option Addr) (k1 k2 k3 : Nat) (w : World) (hR : Has w R a1 a2 a3) :
    Calls Try.prog 18 #[repV R a1 a2 a3 k1 k2 k3] w fun e w' => e = .returned (.tuple #[.string (str R.exp), .int .i64 R.chk]) ∧ Below w.heap.size w w' := by
  have hb0 : BoxR w R a1 a2 a3 k1 k2 k3 (w.alloc (.cells #[.slice a1 R.n1 k1, .slice a2 R.n2 k2, .slice a3 R.n3 k3] 26)) := Below.refl _ _
  go_enter Try.func18, Try.ntmps18
  go_wp2_with fail
  refine (check_any R a1 a2 a3 k1 k2 k3 _ (hR.below (below_box hb0))).mono ?_
  rintro e w1 ⟨rfl, h1⟩
  have hb1 := boxR_step hb0 h1
  clear h1 hb0
  by_cases hc : R.chk = 0
  · have E : Hid (R.exp = bundleB (recsOf 0 0 R)) := by show _ = _; unfold Rep.exp; rw [if_pos hc]
    have hF := Rep.fit hc
    obtain ⟨x1, x2, x3⟩ := box3 hb1
    rw [hc]
    have HC : Hid (R.chk = 0) := hc
    clear hc
    go_wp2_with fail
    refine (bundle_any 0 0 R a1 a2 a3 k1 k2 k3 _ (hR.below (below_box hb1)) hF ⟨by decide, by decide⟩ (by decide) (by decide)).mono ?_
    rintro e w2 ⟨rfl, h2⟩
    have hb2 := boxR_step hb1 h2
    go_wp2_with fail
    go_ret2
    exact ⟨by rw [E.out, HC.out]; rfl, below_box hb2⟩
  · have E : Hid (R.exp = []) := by show _ = _; unfold Rep.exp; rw [if_neg hc]
    have hcb : (R.chk != 0) = true := by simp [hc]
    clear hc
    go_wp2_with fail
    go_ret2
    exact ⟨by rw [E.out]; rfl, below_box hb1⟩

set_option maxRecDepth 100000 in
set_option maxHeartbeats 2000000 in
theorem rexport_any (R : Rep) (a1 a2 a3 : Option Addr) (k1 k2 k3 : Nat) (w : World) (hR : Has w R a1 a2 a3) :
    Calls Try.prog 19 #[repV R a1 a2 a3 k1 k2 k3] w fun e w' => e = .returned (.tuple #[.string (str R.exp), .int .i64 R.chk]) ∧ Below w.heap.size w w' := by
  have hb0 : BoxR w R a1 a2 a3 k1 k2 k3 (w.alloc (.cells #[.slice a1 R.n1 k1, .slice a2 R.n2 k2, .slice a3 R.n3 k3] 26)) := Below.refl _ _
  go_enter Try.func19, Try.ntmps19
  go_wp2_with fail
  refine (rcheck_any R a1 a2 a3 k1 k2 k3 _ (hR.below (below_box hb0))).mono ?_
  rintro e w1 ⟨rfl, h1⟩
  have hb1 := boxR_step hb0 h1
  clear h1 hb0
  by_cases hc : R.chk = 0
  · have E : Hid (R.exp = bundleB (recsOf 0 0 R)) := by show _ = _; unfold Rep.exp; rw [if_pos hc]
    have hF := Rep.fit hc
    obtain ⟨x1, x2, x3⟩ := box3 hb1
    rw [hc]
    have HC : Hid (R.chk = 0) := hc
    clear hc
    go_wp2_with fail
    refine (rbundle_any 0 0 R a1 a2 a3 k1 k2 k3 _ (hR.below (below_box hb1)) hF ⟨by decide, by decide⟩ (by decide) (by decide)).mono ?_
    rintro e w2 ⟨rfl, h2⟩
    have hb2 := boxR_step hb1 h2
    go_wp2_with fail
    go_ret2
    exact ⟨by rw [E.out, HC.out]; rfl, below_box hb2⟩
  · have E : Hid (R.exp = []) := by show _ = _; unfold Rep.exp; rw [if_neg hc]
    have hcb : (R.chk != 0) = true := by simp [hc]
    clear hc
    go_wp2_with fail
    go_ret2
    exact ⟨by rw [E.out]; rfl, below_box hb1⟩

set_option maxRecDepth 100000 in
set_option maxHeartbeats 4000000 in
theorem exports_any (R : Rep) (a1 a2 a3 : Option Addr) (k1 k2 k3 : Nat) (w : World) (hR : Has w R a1 a2 a3) :
    Calls Try.prog 4 #[repV R a1 a2 a3 k1 k2 k3] w fun e w' => e = .returned (.bool true) ∧ Below w.heap.size w w' := by
  have hb0 : BoxR w R a1 a2 a3 k1 k2 k3 (w.alloc (.cells #[.slice a1 R.n1 k1, .slice a2 R.n2 k2, .slice a3 R.n3 k3] 26)) := Below.refl _ _
  go_enter Try.func4, Try.ntmps4
  go_wp2_with fail
  refine (handed_any R a1 a2 a3 k1 k2 k3 _ (hR.below (below_box hb0))).mono ?_
  rintro e w1 ⟨b1, b2, b3, g1, g2, g3, rfl, hH, hg, h1⟩
  have hb1 := boxR_step hb0 h1
  clear h1 hb0
  obtain ⟨x1, x2, x3⟩ := box3 hb1
  have hws : w.heap.size < w1.heap.size := by have := hb1.size; simp at this; omega
  have hq0 : BoxR w1 R b1 b2 b3 (R.n1 + 2) (R.n2 + 2) (R.n3 + 2) (w1.alloc (.cells #[.slice b1 R.n1 (R.n1 + 2), .slice b2 R.n2 (R.n2 + 2), .slice b3 R.n3 (R.n3 + 2)] 26)) := Below.refl _ _
  go_wp2_with fail
  refine (export_any R b1 b2 b3 _ _ _ _ ((hH.has hR).below (below_box hq0))).mono ?_
  rintro e w2 ⟨rfl, h2⟩
  have hq2 := boxR_step hq0 h2
  clear h2 hq0 x1 x2 x3
  obtain ⟨x1, x2, x3⟩ := box3 (below_step2 hb1 hq2)
  obtain ⟨z1, z2, z3⟩ := box3 hq2
  go_wp2_with fail
  refine (rexport_any R a1 a2 a3 _ _ _ _ (hR.below (below_box (below_step2 hb1 hq2)))).mono ?_
  rintro e w3 ⟨rfl, h3⟩
  have hq3 := boxR_step hq2 h3
  clear h3 hq2 x1 x2 x3 z1 z2 z3
  obtain ⟨x1, x2, x3⟩ := box3 (below_step2 hb1 hq3)
  obtain ⟨z1, z2, z3⟩ := box3 hq3
  go_wp2_with fail
  refine (still_any R a1 a2 a3 b1 b2 b3 g1 g2 g3 _ _ _ _ (hR.below (below_box (below_step2 hb1 hq3))) (hH.below (below_box hq3))).mono ?_
  rintro e w4 ⟨rfl, h4⟩
  have hq4 := boxR_step hq3 h4
  clear h4 hq3 x1 x2 x3 z1 z2 z3
  go_wp2_with fail
  go_ret
  exact ⟨rfl, below_box (below_step2 hb1 hq4)⟩
end Go.Proofs.Ytdjpkgaicmklmaa

/- parcelkeep's bytes and same, walked. -/
namespace Go.Proofs.Ytdjpkgaicmklmaa
open Go.RowKit

theorem bytesI_le : ∀ (k : Nat) (n : Int), bytesI k n ≤ k + 1
  | 0, n => by simp [bytesI]
  | k + 1, n => by
    simp only [bytesI]; split
    · omega
    · have := bytesI_le k (n / 128); omega
theorem bytesI_small (k : Nat) (n : Int) (h : n < 128) : bytesI k n = 1 := by
  cases k with
  | zero => rfl
  | succ k => simp [bytesI, h]

set_option maxRecDepth 100000 in
set_option maxHeartbeats 2000000 in
theorem bytes_any (n : Int) (w : World) (hn : Num n) :
    Calls Try.prog 72 #[.int .i64 n] w fun e w' => e = .returned (.int .i64 (bytesI 9 n : Nat)) ∧ w' = w := by
  obtain ⟨h0, h1⟩ := hn
  go_enter Try.func72, Try.ntmps72
  go_wp2
  go_loopw [0, 3] (fun v u wr => ∃ (k N : Nat) (y : Int), v = .int .i64 y ∧ u = .int .i64 ((N : Int) + 1) ∧ 0 ≤ y ∧ y ≤ 9223372036854775807 ∧ y < 128 ^ (k + 1) ∧ N + bytesI k y = bytesI 9 n ∧ N + k = 9 ∧ wr = w) (fun v _ _ => (intOf v).toNat)
  case atStart => exact ⟨9, 0, n, rfl, rfl, h0, h1, by omega, by omega, rfl, rfl⟩
  case round =>
    obtain ⟨k, N, y, rfl, rfl, y0, y1, hy, hns, hk, hw⟩ := hrel
    obtain rfl := hw.symm
    have HY : Hid (y < 128 ^ (k + 1)) := hy
    have HN : Hid (N + bytesI k y = bytesI 9 n) := hns
    have HK : Hid (N + k = 9) := hk
    have hN : N ≤ 9 := by omega
    clear hy hns hk
    by_cases hlt : 127 < y
    · have hq : y.tdiv 128 = y / 128 := Int.tdiv_eq_ediv_of_nonneg (by omega)
      go_wp2_with fail
      have hk1 : ∃ j, k = j + 1 := by
        rcases k with _ | j
        · have := HY.out; simp at this; omega
        · exact ⟨j, rfl⟩
      obtain ⟨j, rfl⟩ := hk1
      have e1 : bytesI (j + 1) y = bytesI j (y / 128) + 1 := by simp only [bytesI]; rw [if_neg (by omega)]
      have e2 : (N + 1) + bytesI j (y / 128) = bytesI 9 n := by rw [← HN.out, e1]; omega
      have e3 : y / 128 < 128 ^ (j + 1) := by
        have h := HY.out
        rw [Int.pow_succ] at h
        exact Int.ediv_lt_of_lt_mul (by omega) h
      have e4 : N + 1 + j = 9 := by have := HK.out; omega
      go_roundw
      case rel => exact ⟨j, N + 1, y / 128, rfl, by go_num, by omega, by omega, e3, e2, e4, by trivial⟩
      case measure => simp [intOf]; omega
    · have hr : bytesI 9 n = N + 1 := by rw [← HN.out, bytesI_small k y (by omega)]
      have HR : Hid (bytesI 9 n = N + 1) := hr
      clear hr
      go_wp2_with fail
      go_ret
      exact ⟨by rw [HR.out]; push_cast; rfl, rfl⟩

/-- The two parameters' boxes. -/
abbrev BoxT (w : World) (R T : Rep) (a1 a2 a3 b1 b2 b3 : Option Addr) (k1 k2 k3 l1 l2 l3 : Nat) (wr : World) : Prop :=
  Below (w.heap.size + 2) ((w.alloc (.cells #[.slice a1 R.n1 k1, .slice a2 R.n2 k2, .slice a3 R.n3 k3] 26)).alloc (.cells #[.slice b1 T.n1 l1, .slice b2 T.n2 l2, .slice b3 T.n3 l3] 26)) wr
theorem BoxT.cells {w : World} {R T : Rep} {a1 a2 a3 b1 b2 b3 : Option Addr} {k1 k2 k3 l1 l2 l3 : Nat} {wr : World} (hb : BoxT w R T a1 a2 a3 b1 b2 b3 k1 k2 k3 l1 l2 l3 wr) :
    (wr.cell? ⟨w.heap.size, 0, none⟩ = some (.slice a1 R.n1 k1) ∧ wr.cell? ⟨w.heap.size, 1, none⟩ = some (.slice a2 R.n2 k2) ∧ wr.cell? ⟨w.heap.size, 2, none⟩ = some (.slice a3 R.n3 k3)) ∧
    (wr.cell? ⟨w.heap.size + 1, 0, none⟩ = some (.slice b1 T.n1 l1) ∧ wr.cell? ⟨w.heap.size + 1, 1, none⟩ = some (.slice b2 T.n2 l2) ∧ wr.cell? ⟨w.heap.size + 1, 2, none⟩ = some (.slice b3 T.n3 l3)) := by
  refine ⟨⟨?_, ?_, ?_⟩, ?_, ?_, ?_⟩
  · rw [hb.cell (p := ⟨w.heap.size, 0, none⟩) (by simp)]; simp
  · rw [hb.cell (p := ⟨w.heap.size, 1, none⟩) (by simp)]; simp
  · rw [hb.cell (p := ⟨w.heap.size, 2, none⟩) (by simp)]; simp
  · rw [hb.cell (p := ⟨w.heap.size + 1, 0, none⟩) (by simp)]; simp
  · rw [hb.cell (p := ⟨w.heap.size + 1, 1, none⟩) (by simp)]; simp
  · rw [hb.cell (p := ⟨w.heap.size + 1, 2, none⟩) (by simp)]; simp
theorem BoxT.old {w : World} {R T : Rep} {a1 a2 a3 b1 b2 b3 : Option Addr} {k1 k2 k3 l1 l2 l3 : Nat} {wr : World} (hb : BoxT w R T a1 a2 a3 b1 b2 b3 k1 k2 k3 l1 l2 l3 wr) : Below w.heap.size w wr :=
  (((Below.refl _ w).alloc (Nat.le_refl _) _).alloc (by simp) _).trans (hb.mono (by omega))

theorem ret_same {R T : Rep} {b : Bool} (h : b = true ↔ Same R T) : ∃ b', Ending.returned (.bool b) = .returned (.bool b') ∧ (b' = true ↔ Same R T) := ⟨b, rfl, h⟩
theorem not_same {R T : Rep} (h : ¬ Same R T) : (false = true ↔ Same R T) := ⟨fun e => (by cases e), fun e => absurd e h⟩

theorem ba_beq {x y : ByteArray} (h : ¬ x = y) : (x == y) = false := by
  cases x with | mk a => cases y with | mk b =>
  have : ¬ a = b := fun e => h (by rw [e])
  show (a == b) = false
  rw [beq_eq_false_iff_ne]; exact this
theorem bl_beq {x y : ByteArray} (h : ¬ x = y) : (x.toList == y.toList) = false := by
  rw [← beq_toListBytes]; exact ba_beq h
theorem ck_ne {x y : Ck} (h : ¬ x = y) : ¬ x.site = y.site ∨ (x.site = y.site ∧ ¬ x.count = y.count) := by
  by_cases h1 : x.site = y.site
  · exact Or.inr ⟨h1, fun h2 => h (by cases x; cases y; simp at h1 h2; simp [h1, h2])⟩
  · exact Or.inl h1
theorem cd_ne {x y : Cd} (h : ¬ x = y) : ¬ x.id = y.id ∨ (x.id = y.id ∧ ¬ x.site = y.site) ∨ (x.id = y.id ∧ x.site = y.site ∧ ¬ x.count = y.count) ∨ (x.id = y.id ∧ x.site = y.site ∧ x.count = y.count ∧ ¬ x.gone = y.gone) ∨ (x.id = y.id ∧ x.site = y.site ∧ x.count = y.count ∧ x.gone = y.gone ∧ ¬ x.text = y.text) := by
  by_cases h1 : x.id = y.id
  · by_cases h2 : x.site = y.site
    · by_cases h3 : x.count = y.count
      · by_cases h4 : x.gone = y.gone
        · exact Or.inr (Or.inr (Or.inr (Or.inr ⟨h1, h2, h3, h4, fun h5 => h (by cases x; cases y; simp at h1 h2 h3 h4 h5; simp [h1, h2, h3, h4, h5])⟩)))
        · exact Or.inr (Or.inr (Or.inr (Or.inl ⟨h1, h2, h3, h4⟩)))
      · exact Or.inr (Or.inr (Or.inl ⟨h1, h2, h3⟩))
    · exact Or.inr (Or.inl ⟨h1, h2⟩)
  · exact Or.inl h1
theorem ed_ne {x y : Ed} (h : ¬ x = y) : ¬ x.id = y.id ∨ (x.id = y.id ∧ ¬ x.text = y.text) := by
  by_cases h1 : x.id = y.id
  · exact Or.inr ⟨h1, fun h2 => h (by cases x; cases y; simp at h1 h2; simp [h1, h2])⟩
  · exact Or.inl h1

set_option maxRecDepth 100000 in
set_option maxHeartbeats 4000000 in
theorem same_len (R : Rep) (tc : Nat → Ck) (td : Nat → Cd) (te : Nat → Ed) (a1 a2 a3 b1 b2 b3 : Option Addr) (k1 k2 k3 l1 l2 l3 : Nat) (w : World) (hA : Has w R a1 a2 a3) (hB : Has w ⟨R.n1, R.n2, R.n3, tc, td, te⟩ b1 b2 b3) :
    Calls Try.prog 32 #[repV R a1 a2 a3 k1 k2 k3, repV R b1 b2 b3 l1 l2 l3] w fun e w' => ∃ b, (e = .returned (.bool b) ∧ (b = true ↔ Same R ⟨R.n1, R.n2, R.n3, tc, td, te⟩)) ∧ Below w.heap.size w w' := by
  have y1 := hA.b1; have y2 := hA.b2; have y3 := hA.b3
  go_enter Try.func32, Try.ntmps32
  go_wp2
  go_loopw [5] (fun i wr => ∃ k : Nat, k ≤ R.n1 ∧ i = .int .i64 k ∧ (∀ j, j < k → R.c j = tc j) ∧ BoxS w R a1 a2 a3 b1 b2 b3 k1 k2 k3 l1 l2 l3 wr) (fun i _ => R.n1 - (intOf i).toNat)
  case atStart => exact ⟨0, Nat.zero_le _, rfl, fun j h => by omega, Below.refl _ _⟩
  case round =>
    obtain ⟨k, hk, rfl, hj, hb⟩ := hrel
    have HJ1 : Hid (∀ j, j < k → R.c j = tc j) := hj
    clear hj
    obtain ⟨⟨x1, x2, x3⟩, z1, z2, z3⟩ := hb.cells
    by_cases hlt : k < R.n1
    · obtain ⟨b, o, hbl, hix, p1, p2⟩ := (hA.below hb.old).l1.clock k1 hlt
      obtain ⟨b', o', hbl', hix', q1, q2⟩ := (hB.below hb.old).l1.clock l1 hlt
      by_cases he : R.c k = tc k
      · have HE : Hid (R.c k = tc k) := he
        rw [he] at p1 p2
        clear he
        go_wp2
        go_quiet (fail)
        go_wp2
        go_roundw
        case rel => exact ⟨k + 1, by omega, by go_num, fun j h => by rcases Nat.lt_succ_iff_lt_or_eq.1 h with h | rfl; exact HJ1.out j h; exact HE.out, below_drewN hb _⟩
        case measure => simp [intOf]; omega
      · have HS : Hid (¬ Same R ⟨R.n1, R.n2, R.n3, tc, td, te⟩) := fun h => he (h.c k hlt)
        have hne := ck_ne he
        clear he
        rcases hne with hne | ⟨r1, hne⟩
        · go_wp2
          go_quiet (fail)
          go_wp2
          go_ret
          exact ⟨_, ⟨rfl, not_same HS.out⟩, BoxS.old (below_drewN hb _)⟩
        · rw [r1] at p1
          clear r1
          go_wp2
          go_quiet (fail)
          go_wp2
          go_ret
          exact ⟨_, ⟨rfl, not_same HS.out⟩, BoxS.old (below_drewN hb _)⟩
    · have E1 : Hid (k = R.n1) := by show _ = _; omega
      have J1 : Hid (∀ j, j < R.n1 → R.c j = tc j) := fun j h => HJ1.out j (by have := E1.out; omega)
      clear HJ1 E1
      go_wp2
      go_loopw [6] (fun i wr => ∃ k : Nat, k ≤ R.n2 ∧ i = .int .i64 k ∧ (∀ j, j < k → R.d j = td j) ∧ BoxS w R a1 a2 a3 b1 b2 b3 k1 k2 k3 l1 l2 l3 wr) (fun i _ => R.n2 - (intOf i).toNat)
      case atStart => exact ⟨0, Nat.zero_le _, rfl, fun j h => by omega, hb⟩
      case round =>
        clear x1 x2 x3 z1 z2 z3 hb hk hlt
        obtain ⟨k, hk, rfl, hj, hb⟩ := hrel
        have HJ2 : Hid (∀ j, j < k → R.d j = td j) := hj
        clear hj
        obtain ⟨⟨x1, x2, x3⟩, z1, z2, z3⟩ := hb.cells
        by_cases hlt : k < R.n2
        · obtain ⟨b, o, hbl, hix, p1, p2, p3, p4, p5⟩ := (hA.below hb.old).l2.card k2 hlt
          obtain ⟨b', o', hbl', hix', q1, q2, q3, q4, q5⟩ := (hB.below hb.old).l2.card l2 hlt
          by_cases he : R.d k = td k
          · have HE : Hid (R.d k = td k) := he
            rw [he] at p1 p2 p3 p4 p5
            clear he
            go_wp2
            go_quiet (fail)
            go_wp2
            go_roundw
            case rel => exact ⟨k + 1, by omega, by go_num, fun j h => by rcases Nat.lt_succ_iff_lt_or_eq.1 h with h | rfl; exact HJ2.out j h; exact HE.out, below_drewN hb _⟩
            case measure => simp [intOf]; omega
          · have HS : Hid (¬ Same R ⟨R.n1, R.n2, R.n3, tc, td, te⟩) := fun h => he (h.d k hlt)
            have hne := cd_ne he
            clear he
            rcases hne with hne | ⟨r1, hne⟩ | ⟨r1, r2, hne⟩ | ⟨r1, r2, r3, hne⟩ | ⟨r1, r2, r3, r4, hne⟩
            · go_wp2
              go_quiet (fail)
              go_wp2
              go_ret
              exact ⟨_, ⟨rfl, not_same HS.out⟩, BoxS.old (below_drewN hb _)⟩
            · rw [r1] at p1
              clear r1
              go_wp2
              go_quiet (fail)
              go_wp2
              go_ret
              exact ⟨_, ⟨rfl, not_same HS.out⟩, BoxS.old (below_drewN hb _)⟩
            · rw [r1] at p1
              clear r1
              rw [r2] at p2
              clear r2
              go_wp2
              go_quiet (fail)
              go_wp2
              go_ret
              exact ⟨_, ⟨rfl, not_same HS.out⟩, BoxS.old (below_drewN hb _)⟩
            · rw [r1] at p1
              clear r1
              rw [r2] at p2
              clear r2
              rw [r3] at p3
              clear r3
              go_wp2
              go_quiet (fail)
              go_wp2
              go_ret
              exact ⟨_, ⟨rfl, not_same HS.out⟩, BoxS.old (below_drewN hb _)⟩
            · rw [r1] at p1
              clear r1
              rw [r2] at p2
              clear r2
              rw [r3] at p3
              clear r3
              rw [r4] at p4
              clear r4
              have hnb := ba_beq hne
              have hnl := bl_beq hne
              clear hne
              go_wp2
              go_quiet (fail)
              go_wp2
              go_ret
              exact ⟨_, ⟨rfl, not_same HS.out⟩, BoxS.old (below_drewN hb _)⟩
        · have E2 : Hid (k = R.n2) := by show _ = _; omega
          have J2 : Hid (∀ j, j < R.n2 → R.d j = td j) := fun j h => HJ2.out j (by have := E2.out; omega)
          clear HJ2 E2
          go_wp2
          go_loopw [7] (fun i wr => ∃ k : Nat, k ≤ R.n3 ∧ i = .int .i64 k ∧ (∀ j, j < k → R.e j = te j) ∧ BoxS w R a1 a2 a3 b1 b2 b3 k1 k2 k3 l1 l2 l3 wr) (fun i _ => R.n3 - (intOf i).toNat)
          case atStart => exact ⟨0, Nat.zero_le _, rfl, fun j h => by omega, hb⟩
          case round =>
            clear x1 x2 x3 z1 z2 z3 hb hk hlt
            obtain ⟨k, hk, rfl, hj, hb⟩ := hrel
            have HJ3 : Hid (∀ j, j < k → R.e j = te j) := hj
            clear hj
            obtain ⟨⟨x1, x2, x3⟩, z1, z2, z3⟩ := hb.cells
            by_cases hlt : k < R.n3
            · obtain ⟨b, o, hbl, hix, p1, p2⟩ := (hA.below hb.old).l3.edit k3 hlt
              obtain ⟨b', o', hbl', hix', q1, q2⟩ := (hB.below hb.old).l3.edit l3 hlt
              by_cases he : R.e k = te k
              · have HE : Hid (R.e k = te k) := he
                rw [he] at p1 p2
                clear he
                go_wp2
                go_quiet (fail)
                go_wp2
                go_roundw
                case rel => exact ⟨k + 1, by omega, by go_num, fun j h => by rcases Nat.lt_succ_iff_lt_or_eq.1 h with h | rfl; exact HJ3.out j h; exact HE.out, below_drewN hb _⟩
                case measure => simp [intOf]; omega
              · have HS : Hid (¬ Same R ⟨R.n1, R.n2, R.n3, tc, td, te⟩) := fun h => he (h.e k hlt)
                have hne := ed_ne he
                clear he
                rcases hne with hne | ⟨r1, hne⟩
                · go_wp2
                  go_quiet (fail)
                  go_wp2
                  go_ret
                  exact ⟨_, ⟨rfl, not_same HS.out⟩, BoxS.old (below_drewN hb _)⟩
                · rw [r1] at p1
                  clear r1
                  have hnb := ba_beq hne
                  have hnl := bl_beq hne
                  clear hne
                  go_wp2
                  go_quiet (fail)
                  go_wp2
                  go_ret
                  exact ⟨_, ⟨rfl, not_same HS.out⟩, BoxS.old (below_drewN hb _)⟩
            · have E3 : Hid (k = R.n3) := by show _ = _; omega
              have HS : Hid (Same R ⟨R.n1, R.n2, R.n3, tc, td, te⟩) := ⟨rfl, rfl, rfl, J1.out, J2.out, fun j h => HJ3.out j (by have := E3.out; omega)⟩
              go_wp2
              go_ret
              exact ⟨_, ⟨rfl, ⟨fun _ => HS.out, fun _ => rfl⟩⟩, hb.old⟩

set_option maxRecDepth 100000 in
set_option maxHeartbeats 4000000 in
theorem same_any (R T : Rep) (a1 a2 a3 b1 b2 b3 : Option Addr) (k1 k2 k3 l1 l2 l3 : Nat) (w : World) (hA : Has w R a1 a2 a3) (hB : Has w T b1 b2 b3) :
    Calls Try.prog 32 #[repV R a1 a2 a3 k1 k2 k3, repV T b1 b2 b3 l1 l2 l3] w fun e w' => ∃ b, (e = .returned (.bool b) ∧ (b = true ↔ Same R T)) ∧ Below w.heap.size w w' := by
  have y1 := hA.b1; have y2 := hA.b2; have y3 := hA.b3
  have u1 := hB.b1; have u2 := hB.b2; have u3 := hB.b3
  have h0 : BoxT w R T a1 a2 a3 b1 b2 b3 k1 k2 k3 l1 l2 l3 ((w.alloc (.cells #[.slice a1 R.n1 k1, .slice a2 R.n2 k2, .slice a3 R.n3 k3] 26)).alloc (.cells #[.slice b1 T.n1 l1, .slice b2 T.n2 l2, .slice b3 T.n3 l3] 26)) := Below.refl _ _
  have HO : Hid (Below w.heap.size w ((w.alloc (.cells #[.slice a1 R.n1 k1, .slice a2 R.n2 k2, .slice a3 R.n3 k3] 26)).alloc (.cells #[.slice b1 T.n1 l1, .slice b2 T.n2 l2, .slice b3 T.n3 l3] 26))) := h0.old
  clear h0
  by_cases n1 : R.n1 = T.n1
  case neg =>
    have HS : Hid (¬ Same R T) := fun h => n1 h.n1
    have nb : ((R.n1 : Int) != (T.n1 : Int)) = true := by simp; omega
    go_enter Try.func32, Try.ntmps32
    go_wp2
    go_ret
    exact ⟨_, ⟨rfl, not_same HS.out⟩, HO.out⟩
  by_cases n2 : R.n2 = T.n2
  case neg =>
    have HS : Hid (¬ Same R T) := fun h => n2 h.n2
    have nb : ((R.n2 : Int) != (T.n2 : Int)) = true := by simp; omega
    have na : ((R.n1 : Int) != (T.n1 : Int)) = false := by simp; omega
    clear n1
    go_enter Try.func32, Try.ntmps32
    go_wp2
    go_ret
    exact ⟨_, ⟨rfl, not_same HS.out⟩, HO.out⟩
  by_cases n3 : R.n3 = T.n3
  case neg =>
    have HS : Hid (¬ Same R T) := fun h => n3 h.n3
    have nb : ((R.n3 : Int) != (T.n3 : Int)) = true := by simp; omega
    have na : ((R.n1 : Int) != (T.n1 : Int)) = false := by simp; omega
    have nc : ((R.n2 : Int) != (T.n2 : Int)) = false := by simp; omega
    clear n1 n2
    go_enter Try.func32, Try.ntmps32
    go_wp2
    go_ret
    exact ⟨_, ⟨rfl, not_same HS.out⟩, HO.out⟩
  obtain ⟨m1, m2, m3, tc, td, te⟩ := T
  have n1 : R.n1 = m1 := n1
  have n2 : R.n2 = m2 := n2
  have n3 : R.n3 = m3 := n3
  subst n1 n2 n3
  exact same_len R tc td te a1 a2 a3 b1 b2 b3 k1 k2 k3 l1 l2 l3 w hA hB
end Go.Proofs.Ytdjpkgaicmklmaa

/- parcelkeep.records, walked: what a bundle's records are and where, and how long it is. -/
namespace Go.Proofs.Ytdjpkgaicmklmaa
open Go.RowKit

/-- Each block but the list's own is as it was. -/
def Kept (ad : Option Addr) (w w' : World) : Prop := ∀ k, k < w.heap.size → (∀ b, ad = some b → b.block ≠ k) → w'.heap[k]? = w.heap[k]?

section
variable {P : Program} {w : World} {ops : Array Oper} {rest : List Oper} {o : Oper} {a : Act} {Q : Exit → Act → World → Prop}

/-- 'l = append(l, x)', and what is elsewhere stays. -/
theorem wpList_push2 (hgd : o.guard = none) (s x : Operand) (t : TypeId) (ho : o.op = .call { callee := .builtin .append, args := #[s, x], argTypes := #[t, t] })
    (B e m bytes : Nat) (z : Value) (ht : P.underlying t = some (.slice e)) (hinfo : (P.info? e).map (fun i => (i.zero, i.size, i.bytes)) = some (some z, m, bytes)) (hzs : z.cells.size = m) (hm : 0 < m)
    (ad : Option Addr) (n cap : Nat) (xs : List Value) (hs : a.eval s = .slice ad n cap) (hown : Vec w B e m ad n cap xs)
    (ad1 : Addr) (c : Nat) (row : List Value) (hx : a.eval x = .slice (some ad1) 1 c) (hl : row.length = m) (hnews : ∀ j u, row[j]? = some u → w.cell? (ad1.add j) = some u) (h1 : ∀ u, u ∈ row → u.oneCell' = true)
    (hbytes : (n + 1) * bytes ≤ 140737488355328) (hn : n < 9223372036854775807) (hB : B ≤ w.heap.size)
    (h : ∀ ad' cap' w', Vec w' B e m ad' (n + 1) cap' (xs ++ row) → Below B w w' → Kept ad w w' → wpList P ops Q rest (a.put o.dst (.slice ad' (n + 1) cap')) w') : wpList P ops Q (o :: rest) a w := by
  obtain ⟨i, hi, hzz⟩ := Option.map_eq_some_iff.1 hinfo
  simp only [Prod.mk.injEq] at hzz
  obtain ⟨hz, hsz, hby⟩ := hzz
  refine wpList_append_lies w hgd s x t ho B e i z m bytes ht hi hz hsz hby hzs hm (.slice ad n cap) n xs hs hown ad1 1 c row hx (by rw [hl, Nat.one_mul]) hnews h1 (by omega) (by unfold maxLen; omega) hbytes hB w.heap.size rfl ?_
  intro g cap' w' ho' hgr _ _
  refine h (some ⟨g, 0, none⟩) cap' w' ho' ?_ ?_
  · exact (Below.refl _ _).grown hgr hB (fun k hk => (World.ownsRow.lt hown k hk).1)
  · intro k hk hne
    refine hgr.block k hk ?_
    cases ad with
    | none => simp [Value.ownBlock]
    | some b => simp [Value.ownBlock]; exact fun e => hne b rfl e.symm
end

/-- The variable's box is as it was behind the append. -/
theorem Kept.box {wr w' : World} {o1 o2 : Obj} {B e m : Nat} {ad : Option Addr} {n cap : Nat} {xs : List Value} (hk : Kept ad ((wr.alloc o1).alloc o2) w') (hv : Vec wr B e m ad n cap xs) : w'.heap[wr.heap.size]? = some o1 := by
  rw [hk wr.heap.size (by simp; omega) ?_]
  · show ((wr.heap.push o1).push o2)[wr.heap.size]? = _
    rw [Array.getElem?_push, if_neg (by simp), Array.getElem?_push, if_pos rfl]
  · intro b hb
    subst hb
    have := World.ownsRow.lt hv b.block rfl
    omega
theorem box_cell {w : World} {g : Nat} {cs : Array Value} {t : TypeId} (h : w.heap[g]? = some (.cells cs t)) (j : Nat) : w.cell? ⟨g, j, none⟩ = cs[j]? := by
  simp [World.cell?, h]

/-- A record at its place. -/
def Fd.put (f : Fd) (p : Nat) : Fd := { f with at_ := p }
/-- Records one directly behind the other, from a place on. -/
def atL : Nat → List Fd → List Fd
  | _, [] => []
  | p, f :: l => f.put p :: atL (p + lenF f) l
theorem atL_snoc (f : Fd) : ∀ (p : Nat) (l : List Fd), atL p (l ++ [f]) = atL p l ++ [f.put (p + lenL l)]
  | p, [] => by simp [atL, lenL]
  | p, g :: l => by
    simp only [List.cons_append, atL, atL_snoc f (p + lenF g) l]
    simp [lenL]
    congr 1; omega
theorem atL_length : ∀ (p : Nat) (l : List Fd), (atL p l).length = l.length
  | _, [] => rfl
  | p, f :: l => by simp [atL, atL_length (p + lenF f) l]
theorem ones9 (f : Fd) : ∀ v, v ∈ f.cells → v.oneCell' = true := by intro v h; simp at h; rcases h with rfl | rfl | rfl | rfl | rfl | rfl | rfl | rfl | rfl <;> rfl

set_option maxRecDepth 100000 in
set_option maxHeartbeats 4000000 in
theorem krecords_any (R : Rep) (a1 a2 a3 : Option Addr) (k1 k2 k3 : Nat) (w : World) (hR : Has w R a1 a2 a3) (hF : Fit R) :
    Calls Try.prog 31 #[repV R a1 a2 a3 k1 k2 k3] w fun e w' => ∃ ad cap N, (e = .returned (.tuple #[.slice ad N cap, .int .i64 (8 + lenL (recsOf 0 0 R) : Nat)]) ∧ N = (recsOf 0 0 R).length ∧ Vec w' w.heap.size 64 9 ad N cap (fcells (atL 4 (recsOf 0 0 R)))) ∧ Below w.heap.size w w' := by
  have m1 := hF.n1; have m2 := hF.n2; have m3 := hF.n3
  have h0 : BoxR w R a1 a2 a3 k1 k2 k3 (w.alloc (.cells #[.slice a1 R.n1 k1, .slice a2 R.n2 k2, .slice a3 R.n3 k3] 26)) := Below.refl _ _
  have z0 : w.heap.size + 1 ≤ (w.alloc (.cells #[.slice a1 R.n1 k1, .slice a2 R.n2 k2, .slice a3 R.n3 k3] 26)).heap.size := by simp
  have HV : Hid (Vec ((w.alloc (.cells #[.slice a1 R.n1 k1, .slice a2 R.n2 k2, .slice a3 R.n3 k3] 26)).alloc (.cells ((fdHead 0 0).put 4).cells.toArray 64)) (w.heap.size + 1) 64 9 (some ⟨w.heap.size + 1, 0, none⟩) 1 1 (fcells (atL 4 (recs1 0 0 R 0)))) := by
    have := Vec.lit (w.alloc (.cells #[.slice a1 R.n1 k1, .slice a2 R.n2 k2, .slice a3 R.n3 k3] 26)) (w.heap.size + 1) 64 9 1 ((fdHead 0 0).put 4).cells z0 (by omega) rfl
    rw [World.size_alloc] at this
    have e : fcells (atL 4 (recs1 0 0 R 0)) = ((fdHead 0 0).put 4).cells := by simp [recs1, atL, fcells]
    show Vec _ _ _ _ _ _ _ _
    rw [e]; exact this
  have HB : Hid (BoxR w R a1 a2 a3 k1 k2 k3 ((w.alloc (.cells #[.slice a1 R.n1 k1, .slice a2 R.n2 k2, .slice a3 R.n3 k3] 26)).alloc (.cells ((fdHead 0 0).put 4).cells.toArray 64))) := h0.alloc z0 _
  have HP : Hid (4 + lenL (recs1 0 0 R 0) = 13) := by show _ = _; simp [recs1, lenL, lenF_head]
  clear h0 z0
  go_enter Try.func31, Try.ntmps31
  go_wp2_with fail
  go_loopw [4, 5, 6, 7] (fun q v u _ wr => ∃ (k : Nat) (ad : Option Addr) (cap N P : Nat), k ≤ R.n1 ∧ u = .int .i64 k ∧ q = .int .i64 P ∧ v = .slice ad N cap ∧ N = 1 + k ∧ P ≤ 200 * N ∧ 4 + lenL (recs1 0 0 R k) = P ∧ Vec wr (w.heap.size + 1) 64 9 ad N cap (fcells (atL 4 (recs1 0 0 R k))) ∧ BoxR w R a1 a2 a3 k1 k2 k3 wr) (fun _ _ u _ _ => R.n1 - (intOf u).toNat)
  case atStart => exact ⟨0, _, _, 1, 13, Nat.zero_le _, rfl, rfl, rfl, rfl, by omega, HP.out, HV.out, HB.out⟩
  case round =>
    clear HV HB HP
    obtain ⟨k, ad, cap, N, P, hk, rfl, rfl, rfl, hN, hP, hL, hv, hb⟩ := hrel
    have HN : Hid (N = 1 + k) := hN
    have HL : Hid (4 + lenL (recs1 0 0 R k) = P) := hL
    have hNb : N ≤ 3000001 := by omega
    clear hN hL
    obtain ⟨x1, x2, x3⟩ := box3 hb
    have z1 : w.heap.size + 1 ≤ wr.heap.size := by have := hb.size; simpa using this
    by_cases hlt : k < R.n1
    · obtain ⟨bb, o, hbl, hix, c1, c2⟩ := (hR.below (below_box hb)).l1.clock k1 hlt
      obtain ⟨f1, f2⟩ := hF.c1 k hlt
      have HX : Hid (∀ o1 o2, Vec ((wr.alloc o1).alloc o2) (w.heap.size + 1) 64 9 ad N cap (fcells (atL 4 (recs1 0 0 R k)))) := fun o1 o2 => hv.keep (((Below.refl _ wr).alloc (Nat.le_refl _) _).alloc (by simp) _)
      go_wp2_with (at_builtin; refine wpList_push2 (by rfl) _ _ 57 (by rfl) (w.heap.size + 1) 64 9 80 (.agg #[.int .i64 0, .int .i64 0, .int .i64 0, .int .i64 0, .int .i64 0, .int .i64 0, .int .i64 0, .bool false, .string ⟨#[]⟩]) Try.underlying57 (by kernel_rfl) rfl (by decide) ad N cap _ (by rfl) (HX.out _ _) _ _ ((fdClock (R.c k)).put P).cells (by rfl) rfl ?_ ?_ ?_ ?_ ?_ ?_; exact new_cells2 _ _ _ _; exact ones9 _; (omega); (omega); (simp; omega); intro ad' cap' w' hv' hb' hk')
      have hbx := hk'.box hv
      have g0 := box_cell hbx 0
      have g1 := box_cell hbx 1
      simp only [List.getElem?_toArray, List.getElem?_cons_zero, List.getElem?_cons_succ] at g0 g1
      have h2 : BoxR w R a1 a2 a3 k1 k2 k3 w' := ((hb.alloc z1 _).alloc (by simp; omega) _).trans hb'
      have hv2 : Hid (Vec w' (w.heap.size + 1) 64 9 ad' (N + 1) cap' (fcells (atL 4 (recs1 0 0 R (k + 1))))) := by
        show Vec _ _ _ _ _ _ _ _
        rw [recs1_succ, atL_snoc, fcells_append, fcells_one, HL.out]; exact hv'
      have HL2 : Hid (4 + lenL (recs1 0 0 R (k + 1)) = P + lenF (fdClock (R.c k))) := by show _ = _; rw [recs1_succ, lenL_snoc, ← HL.out]; omega
      rw [lenF_clock] at HL2
      clear hv' hb' hk' hbx hv hb HX HL x1 x2 x3 c1 c2
      have i1 := bytesI_le 9 (R.c k).site
      have i2 := bytesI_le 9 (R.c k).count
      go_quiet ((go_at_call 72; first | exact Calls.quiet_of_same (bytes_any _ _ f1) | exact Calls.quiet_of_same (bytes_any _ _ f2)))
      go_wp2
      go_roundw
      case rel =>
        refine ⟨k + 1, ad', cap', N + 1, _, by omega, by go_num, ?_, rfl, by have := HN.out; omega, ?_, HL2.out, hv2.out.keep (below_drewN (Below.refl _ _) _), below_drewN h2 _⟩
        · exact congrArg (Value.int .i64) (by push_cast; omega)
        · omega
      case measure => simp [intOf]; omega
    · have HN2 : Hid (N = 1 + R.n1) := by have := HN.out; show _ = _; omega
      have HV2 : Hid (Vec wr (w.heap.size + 1) 64 9 ad N cap (fcells (atL 4 (recs2 0 0 R 0)))) := by
        show Vec _ _ _ _ _ _ _ _
        rw [recs2_zero, ← show k = R.n1 by omega]; exact hv
      have HL2 : Hid (4 + lenL (recs2 0 0 R 0) = P) := by show _ = _; rw [recs2_zero, ← show k = R.n1 by omega]; exact HL.out
      clear hv HN HL
      go_wp2_with fail
      go_loopw [4, 5, 8, 9] (fun q v u _ wr => ∃ (k : Nat) (ad : Option Addr) (cap N P : Nat), k ≤ R.n2 ∧ u = .int .i64 k ∧ q = .int .i64 P ∧ v = .slice ad N cap ∧ N = 1 + R.n1 + k ∧ P ≤ 200 * N ∧ 4 + lenL (recs2 0 0 R k) = P ∧ Vec wr (w.heap.size + 1) 64 9 ad N cap (fcells (atL 4 (recs2 0 0 R k))) ∧ BoxR w R a1 a2 a3 k1 k2 k3 wr) (fun _ _ u _ _ => R.n2 - (intOf u).toNat)
      case atStart => exact ⟨0, _, _, N, P, Nat.zero_le _, rfl, rfl, rfl, by have := HN2.out; omega, hP, HL2.out, HV2.out, hb⟩
      case round =>
        clear hb x1 x2 x3 z1 HN2 HL2 HV2 hP hNb hlt
        obtain ⟨k, ad, cap, N, P, hk, rfl, rfl, rfl, hN, hP, hL, hv, hb⟩ := hrel
        have HN : Hid (N = 1 + R.n1 + k) := hN
        have HL : Hid (4 + lenL (recs2 0 0 R k) = P) := hL
        have hNb : N ≤ 3000001 := by omega
        clear hN hL
        obtain ⟨x1, x2, x3⟩ := box3 hb
        have z1 : w.heap.size + 1 ≤ wr.heap.size := by have := hb.size; simpa using this
        by_cases hlt : k < R.n2
        · obtain ⟨bb, o, hbl, hix, c1, c2, c3, c4, c5⟩ := (hR.below (below_box hb)).l2.card k2 hlt
          obtain ⟨f1, f2, f3, f4⟩ := hF.d1 k hlt
          have HX : Hid (∀ o1 o2, Vec ((wr.alloc o1).alloc o2) (w.heap.size + 1) 64 9 ad N cap (fcells (atL 4 (recs2 0 0 R k)))) := fun o1 o2 => hv.keep (((Below.refl _ wr).alloc (Nat.le_refl _) _).alloc (by simp) _)
          go_wp2_with (at_builtin; refine wpList_push2 (by rfl) _ _ 57 (by rfl) (w.heap.size + 1) 64 9 80 (.agg #[.int .i64 0, .int .i64 0, .int .i64 0, .int .i64 0, .int .i64 0, .int .i64 0, .int .i64 0, .bool false, .string ⟨#[]⟩]) Try.underlying57 (by kernel_rfl) rfl (by decide) ad N cap _ (by rfl) (HX.out _ _) _ _ ((fdCard (R.d k)).put P).cells (by rfl) rfl ?_ ?_ ?_ ?_ ?_ ?_; exact new_cells2 _ _ _ _; exact ones9 _; (omega); (omega); (simp; omega); intro ad' cap' w' hv' hb' hk')
          have hbx := hk'.box hv
          have g0 := box_cell hbx 0
          have g1 := box_cell hbx 1
          have g2 := box_cell hbx 2
          have g3 := box_cell hbx 3
          have g4 := box_cell hbx 4
          simp only [List.getElem?_toArray, List.getElem?_cons_zero, List.getElem?_cons_succ] at g0 g1 g2 g3 g4
          have h2 : BoxR w R a1 a2 a3 k1 k2 k3 w' := ((hb.alloc z1 _).alloc (by simp; omega) _).trans hb'
          have hv2 : Hid (Vec w' (w.heap.size + 1) 64 9 ad' (N + 1) cap' (fcells (atL 4 (recs2 0 0 R (k + 1))))) := by
            show Vec _ _ _ _ _ _ _ _
            rw [recs2_succ, atL_snoc, fcells_append, fcells_one, HL.out]; exact hv'
          have HL2 : Hid (4 + lenL (recs2 0 0 R (k + 1)) = P + lenF (fdCard (R.d k))) := by show _ = _; rw [recs2_succ, lenL_snoc, ← HL.out]; omega
          rw [lenF_card] at HL2
          clear hv' hb' hk' hbx hv hb HX HL x1 x2 x3 c1 c2 c3 c4 c5
          have i1 := bytesI_le 9 (R.d k).id
          have i2 := bytesI_le 9 (R.d k).site
          have i3 := bytesI_le 9 (R.d k).count
          have ht : ((R.d k).text.size : Int) ≤ 60 := by omega
          go_quiet ((go_at_call 72; first | exact Calls.quiet_of_same (bytes_any _ _ f1) | exact Calls.quiet_of_same (bytes_any _ _ f2) | exact Calls.quiet_of_same (bytes_any _ _ f3)))
          go_wp2
          go_roundw
          case rel =>
            refine ⟨k + 1, ad', cap', N + 1, _, by omega, by go_num, ?_, rfl, by have := HN.out; omega, ?_, HL2.out, hv2.out.keep (below_drewN (Below.refl _ _) _), below_drewN h2 _⟩
            · exact congrArg (Value.int .i64) (by push_cast; omega)
            · omega
          case measure => simp [intOf]; omega
        · have HN2 : Hid (N = 1 + R.n1 + R.n2) := by have := HN.out; show _ = _; omega
          have HV2 : Hid (Vec wr (w.heap.size + 1) 64 9 ad N cap (fcells (atL 4 (recs3 0 0 R 0)))) := by
            show Vec _ _ _ _ _ _ _ _
            rw [recs3_zero, ← show k = R.n2 by omega]; exact hv
          have HL2 : Hid (4 + lenL (recs3 0 0 R 0) = P) := by show _ = _; rw [recs3_zero, ← show k = R.n2 by omega]; exact HL.out
          clear hv HN HL
          go_wp2_with fail
          go_loopw [4, 5, 10, 11] (fun q v u _ wr => ∃ (k : Nat) (ad : Option Addr) (cap N P : Nat), k ≤ R.n3 ∧ u = .int .i64 k ∧ q = .int .i64 P ∧ v = .slice ad N cap ∧ N = 1 + R.n1 + R.n2 + k ∧ P ≤ 200 * N ∧ 4 + lenL (recs3 0 0 R k) = P ∧ Vec wr (w.heap.size + 1) 64 9 ad N cap (fcells (atL 4 (recs3 0 0 R k))) ∧ BoxR w R a1 a2 a3 k1 k2 k3 wr) (fun _ _ u _ _ => R.n3 - (intOf u).toNat)
          case atStart => exact ⟨0, _, _, N, P, Nat.zero_le _, rfl, rfl, rfl, by have := HN2.out; omega, hP, HL2.out, HV2.out, hb⟩
          case round =>
            clear hb x1 x2 x3 z1 HN2 HL2 HV2 hP hNb hlt
            obtain ⟨k, ad, cap, N, P, hk, rfl, rfl, rfl, hN, hP, hL, hv, hb⟩ := hrel
            have HN : Hid (N = 1 + R.n1 + R.n2 + k) := hN
            have HL : Hid (4 + lenL (recs3 0 0 R k) = P) := hL
            have hNb : N ≤ 3000001 := by omega
            clear hN hL
            obtain ⟨x1, x2, x3⟩ := box3 hb
            have z1 : w.heap.size + 1 ≤ wr.heap.size := by have := hb.size; simpa using this
            by_cases hlt : k < R.n3
            · obtain ⟨bb, o, hbl, hix, c1, c2⟩ := (hR.below (below_box hb)).l3.edit k3 hlt
              obtain ⟨f1, f4⟩ := hF.e1 k hlt
              have HX : Hid (∀ o1 o2, Vec ((wr.alloc o1).alloc o2) (w.heap.size + 1) 64 9 ad N cap (fcells (atL 4 (recs3 0 0 R k)))) := fun o1 o2 => hv.keep (((Below.refl _ wr).alloc (Nat.le_refl _) _).alloc (by simp) _)
              go_wp2_with (at_builtin; refine wpList_push2 (by rfl) _ _ 57 (by rfl) (w.heap.size + 1) 64 9 80 (.agg #[.int .i64 0, .int .i64 0, .int .i64 0, .int .i64 0, .int .i64 0, .int .i64 0, .int .i64 0, .bool false, .string ⟨#[]⟩]) Try.underlying57 (by kernel_rfl) rfl (by decide) ad N cap _ (by rfl) (HX.out _ _) _ _ ((fdEdit (R.e k)).put P).cells (by rfl) rfl ?_ ?_ ?_ ?_ ?_ ?_; exact new_cells2 _ _ _ _; exact ones9 _; (omega); (omega); (simp; omega); intro ad' cap' w' hv' hb' hk')
              have hbx := hk'.box hv
              have g0 := box_cell hbx 0
              have g1 := box_cell hbx 1
              simp only [List.getElem?_toArray, List.getElem?_cons_zero, List.getElem?_cons_succ] at g0 g1
              have h2 : BoxR w R a1 a2 a3 k1 k2 k3 w' := ((hb.alloc z1 _).alloc (by simp; omega) _).trans hb'
              have hv2 : Hid (Vec w' (w.heap.size + 1) 64 9 ad' (N + 1) cap' (fcells (atL 4 (recs3 0 0 R (k + 1))))) := by
                show Vec _ _ _ _ _ _ _ _
                rw [recs3_succ, atL_snoc, fcells_append, fcells_one, HL.out]; exact hv'
              have HL2 : Hid (4 + lenL (recs3 0 0 R (k + 1)) = P + lenF (fdEdit (R.e k))) := by show _ = _; rw [recs3_succ, lenL_snoc, ← HL.out]; omega
              rw [lenF_edit] at HL2
              clear hv' hb' hk' hbx hv hb HX HL x1 x2 x3 c1 c2
              have i1 := bytesI_le 9 (R.e k).id
              have ht : ((R.e k).text.size : Int) ≤ 60 := by omega
              go_quiet ((go_at_call 72; first | exact Calls.quiet_of_same (bytes_any _ _ f1)))
              go_wp2
              go_roundw
              case rel =>
                refine ⟨k + 1, ad', cap', N + 1, _, by omega, by go_num, ?_, rfl, by have := HN.out; omega, ?_, HL2.out, hv2.out.keep (below_drewN (Below.refl _ _) _), below_drewN h2 _⟩
                · exact congrArg (Value.int .i64) (by push_cast; omega)
                · omega
              case measure => simp [intOf]; omega
            · have HN2 : Hid (N = 1 + R.n1 + R.n2 + R.n3) := by have := HN.out; show _ = _; omega
              have HV2 : Hid (Vec wr w.heap.size 64 9 ad N cap (fcells (atL 4 (recsOf 0 0 R)))) := by
                have h : Vec wr (w.heap.size + 1) 64 9 ad N cap (fcells (atL 4 (recs3 0 0 R R.n3))) := by rw [← show k = R.n3 by omega]; exact hv
                exact h.mono (by omega)
              have HL2 : Hid (8 + lenL (recsOf 0 0 R) = P + 4) := by
                have h : 4 + lenL (recs3 0 0 R R.n3) = P := by rw [← show k = R.n3 by omega]; exact HL.out
                show 8 + lenL (recs3 0 0 R R.n3) = P + 4
                omega
              clear hv HN HL
              go_wp2_with fail
              go_ret2
              exact ⟨ad, cap, N, ⟨by rw [HL2.out]; push_cast; rfl, by have := HN2.out; rw [recsOf_length]; omega, HV2.out⟩, below_box hb⟩
end Go.Proofs.Ytdjpkgaicmklmaa

/- parcelkeep.Only: called with any writes and numbers it answers true. -/
namespace Go.Proofs.Ytdjpkgaicmklmaa
open Go.RowKit

/-- A list of writes that comes in. -/
structure Ws (w : World) (a : Option Addr) (n : Nat) (f : Nat → Wr) : Prop where
  lies : Lies w a n 4 (fun i => (f i).cells)
  few : n ≤ 140737488355328
  ok : ∀ i, i < n → I64 (f i).site ∧ I64 (f i).id
structure Ns (w : World) (a : Option Addr) (n : Nat) (f : Nat → Int) : Prop where
  lies : Lies w a n 1 (iCells f)
  few : n ≤ 140737488355328
  ok : ∀ i, i < n → I64 (f i)

theorem state_call {S : Seen} {aw am ae : Option Addr} {cw cm ce ne : Nat} {ef : Nat → Wr} {w0 w : World} (hb : Below w0.heap.size w0 w) (hW : Ws w0 aw S.n S.w) (hM : Ns w0 am S.m S.f) (hE : Ws w0 ae ne ef) (kw : S.n ≤ cw) :
    Calls Try.prog 30 #[.slice aw S.n cw, .slice am S.m cm, .slice ae ne ce] w fun e w' =>
      ∃ a1 a2 a3 k1 k2 k3, e = .returned (repV (stateR S ne ef) a1 a2 a3 k1 k2 k3) ∧ Has w' (stateR S ne ef) a1 a2 a3 ∧ Below w.heap.size w w' :=
  state_any S aw am ae cw cm ce ne ef w (hW.lies.below hb) (hM.lies.below hb) (hE.lies.below hb) kw hW.few hM.few hE.few hW.ok hM.ok (fun i hi => (hE.ok i hi).2)

/-- A replica in a variable, while a statement runs. -/
structure InC (w w1 : World) (R : Rep) (a1 a2 a3 : Option Addr) (k1 k2 k3 : Nat) (wX : World) : Prop where
  bR : BoxR w1 R a1 a2 a3 k1 k2 k3 wX
  hR : Has wX R a1 a2 a3
  old : Below w.heap.size w wX
theorem InC.step {w w1 : World} {R : Rep} {a1 a2 a3 : Option Addr} {k1 k2 k3 : Nat} {wX wY : World} (h : InC w w1 R a1 a2 a3 k1 k2 k3 wX) (hb : Below wX.heap.size wX wY) : InC w w1 R a1 a2 a3 k1 k2 k3 wY :=
  ⟨boxR_step h.bR hb, h.hR.below hb, h.old.trans (hb.mono h.old.size)⟩

/-- Two replicas in variables. -/
structure In2 (w w1 w2 : World) (R T : Rep) (a1 a2 a3 b1 b2 b3 : Option Addr) (k1 k2 k3 l1 l2 l3 : Nat) (wX : World) : Prop where
  bR : BoxR w1 R a1 a2 a3 k1 k2 k3 wX
  bT : BoxR w2 T b1 b2 b3 l1 l2 l3 wX
  hR : Has wX R a1 a2 a3
  hT : Has wX T b1 b2 b3
  old : Below w.heap.size w wX
theorem In2.step {w w1 w2 : World} {R T : Rep} {a1 a2 a3 b1 b2 b3 : Option Addr} {k1 k2 k3 l1 l2 l3 : Nat} {wX wY : World} (h : In2 w w1 w2 R T a1 a2 a3 b1 b2 b3 k1 k2 k3 l1 l2 l3 wX) (hb : Below wX.heap.size wX wY) : In2 w w1 w2 R T a1 a2 a3 b1 b2 b3 k1 k2 k3 l1 l2 l3 wY :=
  ⟨boxR_step h.bR hb, boxR_step h.bT hb, h.hR.below hb, h.hT.below hb, h.old.trans (hb.mono h.old.size)⟩

set_option maxRecDepth 100000 in
set_option maxHeartbeats 4000000 in
theorem only_any (nw nm nn nx ny : Nat) (fw fx fy : Nat → Wr) (fm fn : Nat → Int) (aw am an ax ay : Option Addr) (cw cm cn cx cy : Nat) (w : World)
    (hW : Ws w aw nw fw) (hM : Ns w am nm fm) (hN : Ns w an nn fn) (hX : Ws w ax nx fx) (hY : Ws w ay ny fy) (kw : nw ≤ cw) :
    Calls Try.prog 12 #[.slice aw nw cw, .slice am nm cm, .slice an nn cn, .slice ax nx cx, .slice ay ny cy] w fun e w' => e = .returned (.bool true) ∧ Below w.heap.size w w' := by
  go_enter Try.func12, Try.ntmps12
  go_wp2_with fail
  refine (state_call (S := ⟨nw, fw, nm, fm⟩) (Below.refl _ w) hW hM hX kw).mono ?_
  rintro e w1 ⟨a1, a2, a3, k1, k2, k3, rfl, hR, hb1⟩
  have hRc := stateR_chk ⟨nw, fw, nm, fm⟩ nx fx
  generalize stateR ⟨nw, fw, nm, fm⟩ nx fx = R at *
  have h1 : Below w.heap.size w (w1.alloc (.cells #[.slice a1 R.n1 k1, .slice a2 R.n2 k2, .slice a3 R.n3 k3] 26)) := hb1.alloc hb1.size _
  go_wp2_with fail
  refine (state_call (S := ⟨nw, fw, nn, fn⟩) h1 hW hN hY kw).mono ?_
  rintro e w2 ⟨b1, b2, b3, l1, l2, l3, rfl, hT, hb2⟩
  have hTc := stateR_chk ⟨nw, fw, nn, fn⟩ ny fy
  generalize stateR ⟨nw, fw, nn, fn⟩ ny fy = T at *
  have bR : BoxR w1 R a1 a2 a3 k1 k2 k3 w2 := hb2.mono (by simp)
  have hR2 : Has w2 R a1 a2 a3 := (hR.below ((Below.refl _ _).alloc (Nat.le_refl _) _)).below hb2
  have bT : BoxR w2 T b1 b2 b3 l1 l2 l3 (w2.alloc (.cells #[.slice b1 T.n1 l1, .slice b2 T.n2 l2, .slice b3 T.n3 l3] 26)) := Below.refl _ _
  have h2 : Below w.heap.size w w2 := h1.trans (hb2.mono (by have := hb1.size; simp; omega))
  clear hb1 h1 hb2 hR
  have i0 : In2 w w1 w2 R T a1 a2 a3 b1 b2 b3 k1 k2 k3 l1 l2 l3 (w2.alloc (.cells #[.slice b1 T.n1 l1, .slice b2 T.n2 l2, .slice b3 T.n3 l3] 26)) :=
    have hh : Below w2.heap.size w2 (w2.alloc (.cells #[.slice b1 T.n1 l1, .slice b2 T.n2 l2, .slice b3 T.n3 l3] 26)) := (Below.refl _ _).alloc (Nat.le_refl _) _
    ⟨boxR_step bR hh, bT, hR2.below hh, hT.below hh, h2.trans (hh.mono h2.size)⟩
  clear bR hR2 bT h2 hT
  have eR : R.exp = bundleB (recsOf 0 0 R) := by unfold Rep.exp; rw [if_pos hRc]
  have eT : T.exp = bundleB (recsOf 0 0 T) := by unfold Rep.exp; rw [if_pos hTc]
  have hsz : ((str R.exp).size : Int) = ((8 + lenL (recsOf 0 0 R) : Nat) : Int) := by rw [str_size, eR, bundleB_length]
  have heq : (str R.exp).toList == (str T.exp).toList ↔ Same R T := by
    rw [str_toList, str_toList, beq_iff_eq, eR, eT]; exact bundle_same (Rep.fit hRc) (Rep.fit hTc)
  have hFR := Rep.fit hRc
  clear eR eT
  generalize hAA : str R.exp = A at *
  generalize hBB : str T.exp = B at *
  generalize hLL : 8 + lenL (recsOf 0 0 R) = L at *
  have HA : Hid (str R.exp = A) := hAA
  have HB : Hid (str T.exp = B) := hBB
  have HL : Hid (8 + lenL (recsOf 0 0 R) = L) := hLL
  have HRC : Hid (R.chk = 0) := hRc
  have HTC : Hid (T.chk = 0) := hTc
  have HEQ : Hid (A.toList == B.toList ↔ Same R T) := heq
  clear hAA hBB hLL hRc hTc heq
  obtain ⟨x1, x2, x3⟩ := box3 i0.bR
  obtain ⟨y1, y2, y3⟩ := box3 i0.bT
  go_wp2_with fail
  refine (pcheck_any R a1 a2 a3 k1 k2 k3 _ i0.hR).mono ?_
  rintro e w3 ⟨rfl, hb3⟩
  have i1 := i0.step hb3
  rw [HRC.out]
  clear hb3 i0 x1 x2 x3 y1 y2 y3
  obtain ⟨x1, x2, x3⟩ := box3 i1.bR
  obtain ⟨y1, y2, y3⟩ := box3 i1.bT
  go_wp2_with fail
  refine (pcheck_any T b1 b2 b3 l1 l2 l3 _ i1.hT).mono ?_
  rintro e w4 ⟨rfl, hb3⟩
  have i0 := i1.step hb3
  rw [HTC.out]
  clear hb3 i1 x1 x2 x3 y1 y2 y3
  obtain ⟨x1, x2, x3⟩ := box3 i0.bR
  obtain ⟨y1, y2, y3⟩ := box3 i0.bT
  go_wp2_with fail
  refine (export_any R a1 a2 a3 k1 k2 k3 _ i0.hR).mono ?_
  rintro e w5 ⟨rfl, hb3⟩
  have i1 := i0.step hb3
  rw [HRC.out, HA.out]
  clear hb3 i0 x1 x2 x3 y1 y2 y3
  obtain ⟨x1, x2, x3⟩ := box3 i1.bR
  obtain ⟨y1, y2, y3⟩ := box3 i1.bT
  go_wp2_with fail
  refine (export_any T b1 b2 b3 l1 l2 l3 _ i1.hT).mono ?_
  rintro e w6 ⟨rfl, hb3⟩
  have i0 := i1.step hb3
  rw [HTC.out, HB.out]
  clear hb3 i1 x1 x2 x3 y1 y2 y3
  obtain ⟨x1, x2, x3⟩ := box3 i0.bR
  obtain ⟨y1, y2, y3⟩ := box3 i0.bT
  go_wp2_with fail
  refine (krecords_any R a1 a2 a3 k1 k2 k3 _ i0.hR hFR).mono ?_
  rintro e w7 ⟨ad, cap, N, ⟨rfl, -, -⟩, hb3⟩
  have i1 := i0.step hb3
  rw [HL.out]
  clear hb3 i0 x1 x2 x3 y1 y2 y3
  obtain ⟨x1, x2, x3⟩ := box3 i1.bR
  obtain ⟨y1, y2, y3⟩ := box3 i1.bT
  go_wp2_with fail
  refine (same_any R T a1 a2 a3 b1 b2 b3 k1 k2 k3 l1 l2 l3 _ i1.hR i1.hT).mono ?_
  rintro e w8 ⟨bb, ⟨rfl, hbb⟩, hb3⟩
  have i0 := i1.step hb3
  have hbe : (A.toList == B.toList) = bb := by
    rw [Bool.eq_iff_iff]; exact HEQ.out.trans hbb.symm
  clear hb3 i1 x1 x2 x3 y1 y2 y3 hbb HEQ
  go_wp2_with fail
  go_ret
  exact ⟨rfl, i0.old⟩
end Go.Proofs.Ytdjpkgaicmklmaa

/- Lists of writes and of numbers that come in, opened. -/
namespace Go.Proofs.Ytdjpkgaicmklmaa
open Go.ChangeShapes Go.WideShapes Go.ChangeAt Go.RowKit Go.Joins Go.Deep

section
variable {H : Type} {enc : TypeId × Value → H} {w : World} {base : Nat} {spare : Nat → Bool} {held : Bool}

theorem wf_i64 {n : Int} (h : (Lit.int .i64 n).wf = true) : I64 n := by
  simp [Lit.wf] at h
  exact h

theorem Try.cellsWrite : Try.prog.cellsOf 95 = 4 := by kernel_rfl
theorem Try.bytesWrite : Try.prog.bytesOf 95 = 40 := by kernel_rfl
theorem Try.bytesInt : Try.prog.bytesOf 3 = 8 := by kernel_rfl
theorem list4 {α : Type} {l : List α} (h : l.length = 4) : ∃ a b c d, l = [a, b, c, d] := by
  match l, h with
  | [a, b, c, d], _ => exact ⟨a, b, c, d, rfl⟩

/-- Writes whose numbers are ints. -/
def WrI : Type := { x : Wr // I64 x.site ∧ I64 x.id }
theorem read_write {n : Nat} {cs : List Value} {x : DataW H × List MemPlace} (h : DataW.trod enc Try.prog w base spare held n 95 cs = some x) : ∃ c : WrI, cs = c.1.cells := by
  obtain ⟨xs, k, _, _, hl, hlen, hf⟩ := DataW.trod_struct Try.underlying95 h
  rw [Try.cellsWrite] at hl
  obtain ⟨c0, c1, c2, c3, rfl⟩ := list4 hl
  obtain ⟨y0, y1, y2, y3, rfl⟩ := list4 (show xs.length = 4 from hlen)
  have g0 := hf 0 _ rfl
  have g1 := hf 1 _ rfl
  have g2 := hf 2 _ rfl
  have g3 := hf 3 _ rfl
  simp [Try.cellsInt, Try.cellsString, Try.cellsBool] at g0 g1 g2 g3
  obtain ⟨n0, e0, _, w0⟩ := DataW.trod_int Try.underlying3 g0
  obtain ⟨n1, e1, _, w1⟩ := DataW.trod_int Try.underlying3 g1
  obtain ⟨n2, e2, _⟩ := DataW.trod_bool Try.underlying4 g2
  obtain ⟨n3, e3, _⟩ := DataW.trod_string Try.underlying9 g3
  simp at e0 e1 e2 e3
  subst e0 e1 e2 e3
  exact ⟨⟨⟨n0, n1, n2, n3⟩, wf_i64 w0, wf_i64 w1⟩, rfl⟩
def IntI : Type := { x : Int // I64 x }
theorem read_int {n : Nat} {cs : List Value} {x : DataW H × List MemPlace} (h : DataW.trod enc Try.prog w base spare held n 3 cs = some x) : ∃ c : IntI, cs = [.int .i64 c.1] := by
  obtain ⟨n0, e0, _, w0⟩ := DataW.trod_int Try.underlying3 h
  exact ⟨⟨n0, wf_i64 w0⟩, e0⟩

set_option maxRecDepth 100000 in
/-- A list of writes. -/
theorem open_writes {r : Reach} {b0 : Nat} {v : Value} {d : DataW H} {p : List MemPlace} (hok : Value.okWide Try.prog w r b0 54 v) (h : DataW.Trod enc Try.prog w 0 (fun _ => true) held 54 v d p) (hw : ∀ q, q ∈ d.weights Try.prog 54 → q ≤ reachBytes) :
    ∃ (a : Option Addr) (n k : Nat) (f : Nat → Wr), v = .slice a n k ∧ Ws w a n f ∧ n ≤ k := by
  have : Inhabited WrI := ⟨⟨⟨0, 0, false, ⟨#[]⟩⟩, ⟨by decide, by decide⟩, ⟨by decide, by decide⟩⟩⟩
  obtain ⟨x, y, z, rfl⟩ := okWide_slice Try.underlying54 hok
  obtain ⟨fuel, hh⟩ := h
  obtain ⟨a, n, k, f, hv, hl, hk, hx⟩ := read_rows (fun c : WrI => c.1.cells) 4 Try.underlying54 Try.cellsWrite (by omega) (fun _ _ _ hh => read_write hh) hh
  have z := weigh Try.underlying54 Try.bytesWrite hk hx hw
  unfold reachBytes at z
  exact ⟨a, n, k, fun i => (f i).1, hv, ⟨hl, by omega, fun i _ => (f i).2⟩, hk⟩
set_option maxRecDepth 100000 in
/-- A list of numbers. -/
theorem open_nums {r : Reach} {b0 : Nat} {v : Value} {d : DataW H} {p : List MemPlace} (hok : Value.okWide Try.prog w r b0 55 v) (h : DataW.Trod enc Try.prog w 0 (fun _ => true) held 55 v d p) (hw : ∀ q, q ∈ d.weights Try.prog 55 → q ≤ reachBytes) :
    ∃ (a : Option Addr) (n k : Nat) (f : Nat → Int), v = .slice a n k ∧ Ns w a n f := by
  have : Inhabited IntI := ⟨⟨0, by decide, by decide⟩⟩
  obtain ⟨x, y, z, rfl⟩ := okWide_slice Try.underlying55 hok
  obtain ⟨fuel, hh⟩ := h
  obtain ⟨a, n, k, f, hv, hl, hk, hx⟩ := read_rows (fun c : IntI => [Value.int .i64 c.1]) 1 Try.underlying55 Try.cellsInt (by omega) (fun _ _ _ hh => read_int hh) hh
  have z := weigh Try.underlying55 Try.bytesInt hk hx hw
  unfold reachBytes at z
  exact ⟨a, n, k, fun i => (f i).1, hv, ⟨hl, by omega, fun i _ => (f i).2⟩⟩

variable {P : Program}
theorem trodAll_five {t0 t1 t2 t3 t4 : TypeId} {args : Array Value} {ds : List (DataW H)} {ps : List MemPlace} (h : DataW.TrodAll enc P w base spare held [t0, t1, t2, t3, t4] args.toList ds ps) :
    ∃ v0 v1 v2 v3 v4 d0 d1 d2 d3 d4 p0 p1 p2 p3 p4, args = #[v0, v1, v2, v3, v4] ∧ ds = [d0, d1, d2, d3, d4] ∧ ps = p0 ++ (p1 ++ (p2 ++ (p3 ++ p4))) ∧ DataW.Trod enc P w base spare held t0 v0 d0 p0 ∧ DataW.Trod enc P w base spare held t1 v1 d1 p1 ∧ DataW.Trod enc P w base spare held t2 v2 d2 p2 ∧ DataW.Trod enc P w base spare held t3 v3 d3 p3 ∧ DataW.Trod enc P w base spare held t4 v4 d4 p4 := by
  obtain ⟨v0, vs0, d0, ds0, p0, q0, hargs, rfl, rfl, hd0, r0⟩ := trodAll_cons h
  obtain ⟨v1, vs1, d1, ds1, p1, q1, rfl, rfl, rfl, hd1, r1⟩ := trodAll_cons r0
  obtain ⟨v2, vs2, d2, ds2, p2, q2, rfl, rfl, rfl, hd2, r2⟩ := trodAll_cons r1
  obtain ⟨v3, vs3, d3, ds3, p3, q3, rfl, rfl, rfl, hd3, r3⟩ := trodAll_cons r2
  obtain ⟨v4, vs4, d4, ds4, p4, q4, rfl, rfl, rfl, hd4, r4⟩ := trodAll_cons r3
  obtain ⟨rfl, rfl, rfl⟩ := trodAll_nil r4
  exact ⟨v0, v1, v2, v3, v4, d0, d1, d2, d3, d4, p0, p1, p2, p3, p4, by cases args; simp_all, rfl, by simp, hd0, hd1, hd2, hd3, hd4⟩
theorem trodAll_mk5 {t0 t1 t2 t3 t4 : TypeId} {v0 v1 v2 v3 v4 : Value} {d0 d1 d2 d3 d4 : DataW H} {p0 p1 p2 p3 p4 : List MemPlace} (h0 : DataW.Trod enc P w base spare held t0 v0 d0 p0) (h1 : DataW.Trod enc P w base spare held t1 v1 d1 p1) (h2 : DataW.Trod enc P w base spare held t2 v2 d2 p2)
    (h3 : DataW.Trod enc P w base spare held t3 v3 d3 p3) (h4 : DataW.Trod enc P w base spare held t4 v4 d4 p4) : DataW.TrodAll enc P w base spare held [t0, t1, t2, t3, t4] [v0, v1, v2, v3, v4] [d0, d1, d2, d3, d4] (p0 ++ (p1 ++ (p2 ++ (p3 ++ p4)))) :=
  ⟨p0, _, h0, trodAll_mk4 h1 h2 h3 h4, rfl⟩
end
end Go.Proofs.Ytdjpkgaicmklmaa

