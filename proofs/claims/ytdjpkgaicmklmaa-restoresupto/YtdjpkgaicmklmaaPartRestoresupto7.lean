/- Texts of the proof, one behind the other; what each holds is said at its head. -/
import Derived.Test.YtdjpkgaicmklmaaPartRestoresupto0
import Derived.Test.YtdjpkgaicmklmaaPartRestoresupto6
import Derived.Deep.RegionHeld3
import Derived.ProofKit
import Derived.SizedLaws
import Derived.Lib.SmallJoins
import Derived.Deep.Slices
/- parcelref.Clocked, walked. -/
namespace Go.Proofs.Ytdjpkgaicmklmaa
open Go.RowKit

set_option maxHeartbeats 1000000 in
theorem clocked_any (R : Rep) (a1 a2 a3 : Option Addr) (k1 k2 k3 : Nat) (site : Int) (w : World) (hR : Has w R a1 a2 a3) :
    Calls Try.prog 39 #[repV R a1 a2 a3 k1 k2 k3, .int .i64 site] w fun e w' => e = .returned (.int .i64 (R.clk site)) ∧ Below w.heap.size w w' := by
  have b1 := hR.b1; have b2 := hR.b2; have b3 := hR.b3
  go_enter Try.func39, Try.ntmps39
  go_wp2
  go_loopw [5] (fun i wr => ∃ k : Nat, k ≤ R.n1 ∧ i = .int .i64 k ∧ clockTo R.c site k = none ∧ BoxR w R a1 a2 a3 k1 k2 k3 wr) (fun i _ => R.n1 - (intOf i).toNat)
  case atStart => exact ⟨0, Nat.zero_le _, rfl, rfl, Below.refl _ _⟩
  case round =>
    obtain ⟨k, hk, rfl, hno, hb⟩ := hrel
    obtain ⟨x1, x2, x3⟩ := box3 hb
    have HN : Hid (clockTo R.c site k = none) := hno
    clear hno
    by_cases hlt : k < R.n1
    · obtain ⟨b, o, hbl, hix, hs, hc⟩ := (hR.below (below_box hb)).l1.clock k1 hlt
      go_wp2
      · have hp : (R.c k).site = site := by simpa using ‹((R.c k).site == site) = true›
        go_ret
        exact ⟨ret_int (by unfold Rep.clk; rw [clockTo_hit hlt HN.out hp]; rfl), below_box hb⟩
      · have hp : ¬ (R.c k).site = site := by simpa using ‹((R.c k).site == site) = false›
        go_roundw
        case rel => exact ⟨k + 1, by omega, by go_num, clockTo_no HN.out hp, hb⟩
        case measure => simp [intOf]; omega
    · have e1 : k = R.n1 := by omega
      have N1 : Hid (clockTo R.c site R.n1 = none) := e1 ▸ HN.out
      clear HN e1
      go_wp2
      go_ret
      exact ⟨ret_int (by unfold Rep.clk; rw [N1.out]; rfl), below_box hb⟩
end Go.Proofs.Ytdjpkgaicmklmaa

/- parcelref.Check, walked. -/
namespace Go.Proofs.Ytdjpkgaicmklmaa
open Go.RowKit

set_option maxHeartbeats 4000000 in
theorem rcheck_any (R : Rep) (a1 a2 a3 : Option Addr) (k1 k2 k3 : Nat) (w : World) (hR : Has w R a1 a2 a3) :
    Calls Try.prog 16 #[repV R a1 a2 a3 k1 k2 k3] w fun e w' => e = .returned (.int .i64 R.chk) ∧ Below w.heap.size w w' := by
  have b1 := hR.b1; have b2 := hR.b2; have b3 := hR.b3
  have hb0 : BoxR w R a1 a2 a3 k1 k2 k3 (w.alloc (.cells #[.slice a1 R.n1 k1, .slice a2 R.n2 k2, .slice a3 R.n3 k3] 26)) := Below.refl _ _
  cases g1 : R.manyB
  case true =>
    have hm : (8 : Int) < (R.n1 : Int) ∨ (R.n1 : Int) ≤ 8 ∧ ((40 : Int) < (R.n2 : Int) ∨ (R.n2 : Int) ≤ 40 ∧ (16 : Int) < (R.n3 : Int)) := by
      unfold Rep.manyB at g1; simp at g1; omega
    rcases hm with h | ⟨h, h' | ⟨h', h''⟩⟩
    all_goals
      go_enter Try.func16, Try.ntmps16
      go_wp2_with fail
      go_ret
      exact ⟨ret_int (by simp [Rep.chk, g1]), below_box hb0⟩
  have hm : (R.n1 : Int) ≤ 8 ∧ (R.n2 : Int) ≤ 40 ∧ (R.n3 : Int) ≤ 16 := by
    unfold Rep.manyB at g1; simp at g1; omega
  obtain ⟨m1, m2, m3⟩ := hm
  go_enter Try.func16, Try.ntmps16
  go_wp2_with fail
  refine (numbered_any R a1 a2 a3 k1 k2 k3 _ (hR.below (below_box hb0))).mono ?_
  rintro e w2 ⟨rfl, h1⟩
  have hb2 := boxR_step hb0 h1
  clear h1 hb0
  obtain ⟨x1, x2, x3⟩ := box3 hb2
  cases g2 : R.numB
  case true =>
    go_wp2_with fail
    go_ret
    exact ⟨ret_int (by simp [Rep.chk, g1, g2]), below_box hb2⟩
  go_wp2_with fail
  refine (texted_any R a1 a2 a3 k1 k2 k3 _ (hR.below (below_box hb2))).mono ?_
  rintro e w3 ⟨rfl, h1⟩
  have hb3 := boxR_step hb2 h1
  clear x1 x2 x3 h1 hb2
  obtain ⟨x1, x2, x3⟩ := box3 hb3
  cases g3 : R.txtB
  case true =>
    go_wp2_with fail
    go_ret
    exact ⟨ret_int (by simp [Rep.chk, g1, g2, g3]), below_box hb3⟩
  go_wp2_with fail
  refine (rising_any R a1 a2 a3 k1 k2 k3 _ (hR.below (below_box hb3))).mono ?_
  rintro e w4 ⟨rfl, h1⟩
  have hb4 := boxR_step hb3 h1
  clear x1 x2 x3 h1 hb3
  obtain ⟨x1, x2, x3⟩ := box3 hb4
  cases g4 : R.risB
  case true =>
    go_wp2_with fail
    go_ret
    exact ⟨ret_int (by simp [Rep.chk, g1, g2, g3, g4]), below_box hb4⟩
  go_wp2_with fail
  go_loopw [4, 5] (fun i _ wr => ∃ k : Nat, k ≤ R.n2 ∧ i = .int .i64 k ∧ anyTo R.unc k = false ∧ BoxR w R a1 a2 a3 k1 k2 k3 wr) (fun i _ _ => R.n2 - (intOf i).toNat)
  case atStart => exact ⟨0, Nat.zero_le _, rfl, rfl, hb4⟩
  case round =>
    clear x1 x2 x3
    have HB4 : Hid (BoxR w R a1 a2 a3 k1 k2 k3 w4) := hb4
    clear hb4
    obtain ⟨k, hk, rfl, hno, hb⟩ := hrel
    obtain ⟨x1, x2, x3⟩ := box3 hb
    have HN : Hid (anyTo R.unc k = false) := hno
    clear hno
    by_cases hlt : k < R.n2
    · obtain ⟨b, o, hbl, hix, -, hs, hc, -, -⟩ := (hR.below (below_box hb)).l2.card k2 hlt
      have hH := hR.below (below_box hb)
      have hws : w.heap.size < wr.heap.size := by have := hb.size; simp at this; omega
      go_wp2_with fail
      go_region_held3 (fun w' => w'.cell? ⟨w.heap.size, 0, none⟩ = some (.slice a1 R.n1 k1) ∧ w'.cell? ⟨w.heap.size, 1, none⟩ = some (.slice a2 R.n2 k2) ∧ w'.cell? ⟨w.heap.size, 2, none⟩ = some (.slice a3 R.n3 k3) ∧ w'.cell? ⟨b, o + 1, none⟩ = some (.int .i64 (R.d k).site) ∧ w'.cell? ⟨b, o + 2, none⟩ = some (.int .i64 (R.d k).count))
         (first | (go_keep; done) | (simp only [hcc b _ hbl, hcc w.heap.size _ hws]; go_keep; done))
         (first | (go_at_call 39; refine (clocked_any R a1 a2 a3 k1 k2 k3 _ _ (by exact hH.below (below_drewN (Below.refl _ _) 1))).mono ?_; rintro e w' ⟨rfl, hb2⟩; obtain ⟨hcc, hff⟩ := bcell hb2))
      have hb3 : BoxR w R a1 a2 a3 k1 k2 k3 w' := boxR_step (below_drewN hb 1) hb2
      clear hcc hff hb2
      go_wp2_with fail
      · have hp : R.unc k = true := by unfold Rep.unc; simp [‹R.clk (R.d k).site < (R.d k).count›]
        go_ret
        exact ⟨ret_int (by simp [Rep.chk, g1, g2, g3, g4, show R.uncB = true from anyTo_hit hlt hp]), below_box hb3⟩
      · have hp : R.unc k = false := by
          have h1 : (R.d k).count ≤ R.clk (R.d k).site := by assumption
          unfold Rep.unc; simp; omega
        go_roundw
        case rel => exact ⟨k + 1, by omega, by go_num, anyTo_no HN.out hp, hb3⟩
        case measure => simp [intOf]; omega
    · have e1 : k = R.n2 := by omega
      have g5 : Hid (R.uncB = false) := by unfold Rep.uncB; rw [← e1]; exact HN.out
      clear HN e1
      go_wp2_with fail
      go_loopw [6, 7] (fun i _ wr => ∃ k : Nat, k ≤ R.n2 ∧ i = .int .i64 k ∧ anyTo R.clash k = false ∧ BoxR w R a1 a2 a3 k1 k2 k3 wr) (fun i _ _ => R.n2 - (intOf i).toNat)
      case atStart => exact ⟨0, Nat.zero_le _, rfl, rfl, hb⟩
      case round =>
        clear x1 x2 x3 hb hk hlt
        obtain ⟨k, hk, rfl, hno, hb⟩ := hrel
        obtain ⟨x1, x2, x3⟩ := box3 hb
        have HN : Hid (anyTo R.clash k = false) := hno
        clear hno
        by_cases hlt : k < R.n2
        · have hd1 : decide ((k : Int) < (R.n2 : Int)) = true := by simp; omega
          go_wp2_with fail
          go_loopw [7] (fun i wr => ∃ j : Nat, j ≤ k ∧ i = .int .i64 j ∧ anyTo (fun i => stampB (R.d k) (R.d i)) j = false ∧ BoxR w R a1 a2 a3 k1 k2 k3 wr) (fun i _ => k - (intOf i).toNat)
          case atStart => exact ⟨0, Nat.zero_le _, rfl, rfl, hb⟩
          case round =>
            clear x1 x2 x3 hb
            obtain ⟨j, hj, rfl, hno, hb⟩ := hrel
            obtain ⟨x1, x2, x3⟩ := box3 hb
            have HM : Hid (anyTo (fun i => stampB (R.d k) (R.d i)) j = false) := hno
            clear hno
            by_cases hjt : j < k
            · obtain ⟨b, o, hbl, hix, -, c2, c3, -, -⟩ := (hR.below (below_box hb)).l2.card k2 hlt
              obtain ⟨b', o', hbl', hix', -, c2', c3', -, -⟩ := (hR.below (below_box hb)).l2.card k2 (show j < R.n2 by omega)
              by_cases hss : (R.d k).site = (R.d j).site
              · have hs1 : ((R.d k).site == (R.d j).site) = true := by simp [hss]
                clear hss
                go_wp2_with fail
                go_quiet (fail)
                go_wp2_with fail
                · have hp : stampB (R.d k) (R.d j) = true := by unfold stampB; rw [hs1, ‹((R.d k).count == (R.d j).count) = true›]; rfl
                  go_ret
                  refine ⟨ret_int ?_, below_box (below_drewN hb _)⟩
                  have hc : R.clashB = true := anyTo_hit (p := R.clash) hlt (anyTo_hit (p := fun i => stampB (R.d k) (R.d i)) hjt hp)
                  simp [Rep.chk, g1, g2, g3, g4, g5.out, hc]
                · have hp : stampB (R.d k) (R.d j) = false := by unfold stampB; rw [hs1, ‹((R.d k).count == (R.d j).count) = false›]; rfl
                  go_roundw
                  case rel => exact ⟨j + 1, by omega, by go_num, anyTo_no (p := fun i => stampB (R.d k) (R.d i)) HM.out hp, below_drewN hb _⟩
                  case measure => simp [intOf]; omega
              · have hs1 : ((R.d k).site == (R.d j).site) = false := by simp [hss]
                clear hss
                go_wp2_with fail
                go_quiet (fail)
                go_wp2_with fail
                have hp : stampB (R.d k) (R.d j) = false := by unfold stampB; rw [hs1]; rfl
                go_roundw
                case rel => exact ⟨j + 1, by omega, by go_num, anyTo_no (p := fun i => stampB (R.d k) (R.d i)) HM.out hp, below_drewN hb _⟩
                case measure => simp [intOf]; omega
            · have e1 : j = k := by omega
              have N1 : Hid (R.clash k = false) := by unfold Rep.clash; rw [← e1]; rw [← e1] at HM; exact HM.out
              clear HM e1
              go_wp2_with fail
              go_roundw
              case rel => exact ⟨k + 1, by omega, by go_num, anyTo_no HN.out N1.out, hb⟩
              case measure => simp [intOf]; omega
        · have e1 : k = R.n2 := by omega
          have g6 : Hid (R.clashB = false) := by unfold Rep.clashB; rw [← e1]; exact HN.out
          clear HN e1
          go_wp2_with fail
          go_ret
          exact ⟨ret_int (by simp [Rep.chk, g1, g2, g3, g4, g5.out, g6.out]), below_box hb⟩
end Go.Proofs.Ytdjpkgaicmklmaa

/- Restores: called with any bytes, up to very many, it answers true. -/
namespace Go.Proofs.Ytdjpkgaicmklmaa
open Go.RowKit

/-- What Restore answers, out of what Read does. -/
def restOf (x : Ans) : Ans := if x.err = 0 then (if x.seq = 0 then (if (repOf x.K x.C x.E).chk = 0 then ⟨0, 0, 0, 0, x.K, x.C, x.E⟩ else ansErr (repOf x.K x.C x.E).chk 0) else ansErr 11 0) else ansErr x.err x.place
def restRd (b : List UInt8) : Ans := restOf (readRd b)
def RestAns (x : Ans) (B : Nat) (e : Ending) (w' : World) : Prop := ∃ a1 n1 c1 a2 n2 c2 a3 n3 c3, e = .returned (.tuple #[.agg #[.slice a1 n1 c1, .slice a2 n2 c2, .slice a3 n3 c3], .int .i64 x.err, .int .i64 x.place]) ∧ Lists w' B x.K x.C x.E a1 n1 c1 a2 n2 c2 a3 n3 c3
theorem restRd_few (b : List UInt8) : (restRd b).K.length ≤ b.length ∧ (restRd b).C.length ≤ b.length ∧ (restRd b).E.length ≤ b.length := by
  have he : ∀ e p, (ansErr e p).K.length ≤ b.length ∧ (ansErr e p).C.length ≤ b.length ∧ (ansErr e p).E.length ≤ b.length := fun e p => ⟨by simp [ansErr], by simp [ansErr], by simp [ansErr]⟩
  unfold restRd restOf
  split
  · split
    · split
      · exact readRd_few b
      · exact he _ _
    · exact he _ _
  · exact he _ _

set_option maxRecDepth 100000 in
set_option maxHeartbeats 4000000 in
theorem prestore_any (b : List UInt8) (w : World) (hb : b.length ≤ 1099511627776) :
    Calls Try.prog 47 #[.string (str b)] w fun e w' => RestAns (restRd b) w.heap.size e w' ∧ Below w.heap.size w w' := by
  obtain ⟨hR, hW, hB⟩ := one_box w 26 ([.slice none 0 0, .slice none 0 0, .slice none 0 0] : List Value).toArray
  have hfew := readRd_few b
  go_enter Try.func47, Try.ntmps47
  go_wp2_with fail
  refine (bread_any b _ hb).mono ?_
  rintro e w1 ⟨⟨a1, n1, c1, a2, n2, c2, a3, n3, c3, rfl, hL⟩, hb1⟩
  replace hL := hL.mono (Nat.le_of_eq hW.symm : w.heap.size + 1 ≤ _)
  replace hR := hR.below hb1 hR.lt
  replace hB := hB.trans (hb1.mono (Nat.le_trans (Nat.le_succ _) (Nat.le_of_eq hW.symm)))
  clear hb1 hW
  have f1 : n1 ≤ 1099511627776 := by rw [hL.e1]; omega
  have f2 : n2 ≤ 1099511627776 := by rw [hL.e2]; omega
  have f3 : n3 ≤ 1099511627776 := by rw [hL.e3]; omega
  have hx : restRd b = restOf (readRd b) := rfl
  have HX : Hid (restRd b = restOf (readRd b)) := hx
  clear hx hfew
  generalize readRd b = x at *
  by_cases he : x.err = 0
  · have heb : (x.err != 0) = false := by rw [he]; rfl
    by_cases hq : x.seq = 0
    · have hqb : (x.seq != 0) = false := by rw [hq]; rfl
      have hal : Below w1.heap.size w1 (w1.alloc (.cells (lnkC x.seq x.base a1 n1 c1 a2 n2 c2 a3 n3 c3).toArray 75)) := (Below.refl _ _).alloc (Nat.le_refl _) _
      have HHA : Hid (Has (w1.alloc (.cells (lnkC x.seq x.base a1 n1 c1 a2 n2 c2 a3 n3 c3).toArray 75)) (repOf x.K x.C x.E) a1 a2 a3 ∧ repV (repOf x.K x.C x.E) a1 a2 a3 c1 c2 c3 = .agg #[.slice a1 n1 c1, .slice a2 n2 c2, .slice a3 n3 c3]) := (hL.keep hal).has f1 f2 f3
      have hLb := Bx.new w1 75 (lnkC x.seq x.base a1 n1 c1 a2 n2 c2 a3 n3 c3).toArray
      have HE : Hid (x.err = 0 ∧ x.seq = 0) := ⟨he, hq⟩
      clear he hq
      go_wp2_with fail
      have hck := check_any (repOf x.K x.C x.E) a1 a2 a3 c1 c2 c3 _ HHA.out.1
      rw [HHA.out.2] at hck
      refine hck.mono ?_
      rintro e w2 ⟨rfl, hb2⟩
      clear hck
      replace hLb := hLb.below hb2 hLb.lt
      replace hL := (hL.keep hal).keep hb2
      replace hR := (hR.alloc _).below hb2 (by have := hR.lt; simp; omega)
      replace hB := (hB.alloc hB.size _).trans (hb2.mono (by have := hB.size; simp; omega))
      clear hb2 hal
      by_cases hc : (repOf x.K x.C x.E).chk = 0
      · have hcb : ((repOf x.K x.C x.E).chk != 0) = false := by rw [hc]; rfl
        have HN : Hid (restRd b = ⟨0, 0, 0, 0, x.K, x.C, x.E⟩) := by show _ = _; rw [HX.out]; simp only [restOf]; rw [if_pos HE.out.1, if_pos HE.out.2, if_pos hc]
        have x2 := hLb.cell 2
        have x3 := hLb.cell 3
        have x4 := hLb.cell 4
        dsimp only [List.getElem?_cons_zero, List.getElem?_cons_succ] at x2 x3 x4
        clear hc hLb
        go_wp2_with (refine wpList_bstore (by rfl) _ _ _ (by rfl) w.heap.size 26 (by rfl) _ _ (by rfl) hR 3 (by rfl) (by kernel_rfl) (by rfl) (by intro x hx; simp at hx; rcases hx with rfl | rfl | rfl <;> rfl) ?_; intro w9 hR9 hU9; replace hR := hR9; replace hB := hU9.below hB (Nat.le_refl _); replace hL := hL.upd hU9 (by omega); clear hR9 hU9)
        exact bodyPost_ret (v := .tuple #[.agg #[.slice a1 n1 c1, .slice a2 n2 c2, .slice a3 n3 c3], .int .i64 0, .int .i64 0]) (results_box3 (by rfl) _ _ w.heap.size 26 _ _ _ _ (by rfl) hR (by rfl) (by rfl) Try.underlying26 (by rfl) 3 (by rfl) (by kernel_rfl)) rfl ⟨by rw [HN.out]; exact ⟨a1, n1, c1, a2, n2, c2, a3, n3, c3, rfl, hL.mono (Nat.le_succ _)⟩, hB⟩
      · have hcb : ((repOf x.K x.C x.E).chk != 0) = true := by rw [bne_iff_ne]; exact hc
        have HN : Hid (restRd b = ansErr (repOf x.K x.C x.E).chk 0) := by show _ = _; rw [HX.out]; simp only [restOf]; rw [if_pos HE.out.1, if_pos HE.out.2, if_neg hc]
        clear hc hLb
        generalize (repOf x.K x.C x.E).chk = ck at *
        go_wp2_with (refine wpList_bstore (by rfl) _ _ _ (by rfl) w.heap.size 26 (by rfl) _ _ (by rfl) hR 3 (by rfl) (by kernel_rfl) (by rfl) (by intro x hx; simp at hx; rcases hx with rfl | rfl | rfl <;> rfl) ?_; intro w9 hR9 hU9; replace hR := hR9; replace hB := hU9.below hB (Nat.le_refl _); clear hR9 hU9)
        exact bodyPost_ret (v := .tuple #[.agg ([.slice none 0 0, .slice none 0 0, .slice none 0 0] : List Value).toArray, .int .i64 ck, .int .i64 0]) (results_box3 (by rfl) _ _ w.heap.size 26 _ _ _ _ (by rfl) hR (by rfl) (by rfl) Try.underlying26 (by rfl) 3 (by rfl) (by kernel_rfl)) rfl ⟨by rw [HN.out]; exact ⟨none, 0, 0, none, 0, 0, none, 0, 0, rfl, Lists.nil _ _⟩, hB⟩
    · have hqb : (x.seq != 0) = true := by rw [bne_iff_ne]; exact hq
      have HN : Hid (restRd b = ansErr 11 0) := by show _ = _; rw [HX.out]; simp only [restOf]; rw [if_pos he, if_neg hq]
      clear hq he
      go_wp2_with (refine wpList_bstore (by rfl) _ _ _ (by rfl) w.heap.size 26 (by rfl) _ _ (by rfl) (hR.alloc _) 3 (by rfl) (by kernel_rfl) (by rfl) (by intro x hx; simp at hx; rcases hx with rfl | rfl | rfl <;> rfl) ?_; intro w9 hR9 hU9; replace hR := hR9; replace hB := hU9.below (hB.alloc hB.size _) (Nat.le_refl _); clear hR9 hU9)
      exact bodyPost_ret (v := .tuple #[.agg ([.slice none 0 0, .slice none 0 0, .slice none 0 0] : List Value).toArray, .int .i64 11, .int .i64 0]) (results_box3 (by rfl) _ _ w.heap.size 26 _ _ _ _ (by rfl) hR (by rfl) (by rfl) Try.underlying26 (by rfl) 3 (by rfl) (by kernel_rfl)) rfl ⟨by rw [HN.out]; exact ⟨none, 0, 0, none, 0, 0, none, 0, 0, rfl, Lists.nil _ _⟩, hB⟩
  · have heb : (x.err != 0) = true := by rw [bne_iff_ne]; exact he
    have HN : Hid (restRd b = ansErr x.err x.place) := by show _ = _; rw [HX.out]; simp only [restOf]; rw [if_neg he]
    clear he
    go_wp2_with (refine wpList_bstore (by rfl) _ _ _ (by rfl) w.heap.size 26 (by rfl) _ _ (by rfl) (hR.alloc _) 3 (by rfl) (by kernel_rfl) (by rfl) (by intro x hx; simp at hx; rcases hx with rfl | rfl | rfl <;> rfl) ?_; intro w9 hR9 hU9; replace hR := hR9; replace hB := hU9.below (hB.alloc hB.size _) (Nat.le_refl _); clear hR9 hU9)
    exact bodyPost_ret (v := .tuple #[.agg ([.slice none 0 0, .slice none 0 0, .slice none 0 0] : List Value).toArray, .int .i64 x.err, .int .i64 x.place]) (results_box3 (by rfl) _ _ w.heap.size 26 _ _ _ _ (by rfl) hR (by rfl) (by rfl) Try.underlying26 (by rfl) 3 (by rfl) (by kernel_rfl)) rfl ⟨by rw [HN.out]; exact ⟨none, 0, 0, none, 0, 0, none, 0, 0, rfl, Lists.nil _ _⟩, hB⟩

set_option maxRecDepth 100000 in
set_option maxHeartbeats 4000000 in
theorem rrestore_any (b : List UInt8) (w : World) (hb : b.length ≤ 1099511627776) :
    Calls Try.prog 48 #[.string (str b)] w fun e w' => RestAns (restRd b) w.heap.size e w' ∧ Below w.heap.size w w' := by
  obtain ⟨hR, hW, hB⟩ := one_box w 26 ([.slice none 0 0, .slice none 0 0, .slice none 0 0] : List Value).toArray
  have hfew := readRd_few b
  go_enter Try.func48, Try.ntmps48
  go_wp2_with fail
  refine (rread_any b _ hb).mono ?_
  rintro e w1 ⟨⟨a1, n1, c1, a2, n2, c2, a3, n3, c3, rfl, hL⟩, hb1⟩
  replace hL := hL.mono (Nat.le_of_eq hW.symm : w.heap.size + 1 ≤ _)
  replace hR := hR.below hb1 hR.lt
  replace hB := hB.trans (hb1.mono (Nat.le_trans (Nat.le_succ _) (Nat.le_of_eq hW.symm)))
  clear hb1 hW
  have f1 : n1 ≤ 1099511627776 := by rw [hL.e1]; omega
  have f2 : n2 ≤ 1099511627776 := by rw [hL.e2]; omega
  have f3 : n3 ≤ 1099511627776 := by rw [hL.e3]; omega
  have hx : restRd b = restOf (readRd b) := rfl
  have HX : Hid (restRd b = restOf (readRd b)) := hx
  clear hx hfew
  generalize readRd b = x at *
  by_cases he : x.err = 0
  · have heb : (x.err != 0) = false := by rw [he]; rfl
    by_cases hq : x.seq = 0
    · have hqb : (x.seq != 0) = false := by rw [hq]; rfl
      have hal : Below w1.heap.size w1 (w1.alloc (.cells (lnkC x.seq x.base a1 n1 c1 a2 n2 c2 a3 n3 c3).toArray 75)) := (Below.refl _ _).alloc (Nat.le_refl _) _
      have HHA : Hid (Has (w1.alloc (.cells (lnkC x.seq x.base a1 n1 c1 a2 n2 c2 a3 n3 c3).toArray 75)) (repOf x.K x.C x.E) a1 a2 a3 ∧ repV (repOf x.K x.C x.E) a1 a2 a3 c1 c2 c3 = .agg #[.slice a1 n1 c1, .slice a2 n2 c2, .slice a3 n3 c3]) := (hL.keep hal).has f1 f2 f3
      have hLb := Bx.new w1 75 (lnkC x.seq x.base a1 n1 c1 a2 n2 c2 a3 n3 c3).toArray
      have HE : Hid (x.err = 0 ∧ x.seq = 0) := ⟨he, hq⟩
      clear he hq
      go_wp2_with fail
      have hck := rcheck_any (repOf x.K x.C x.E) a1 a2 a3 c1 c2 c3 _ HHA.out.1
      rw [HHA.out.2] at hck
      refine hck.mono ?_
      rintro e w2 ⟨rfl, hb2⟩
      clear hck
      replace hLb := hLb.below hb2 hLb.lt
      replace hL := (hL.keep hal).keep hb2
      replace hR := (hR.alloc _).below hb2 (by have := hR.lt; simp; omega)
      replace hB := (hB.alloc hB.size _).trans (hb2.mono (by have := hB.size; simp; omega))
      clear hb2 hal
      by_cases hc : (repOf x.K x.C x.E).chk = 0
      · have hcb : ((repOf x.K x.C x.E).chk != 0) = false := by rw [hc]; rfl
        have HN : Hid (restRd b = ⟨0, 0, 0, 0, x.K, x.C, x.E⟩) := by show _ = _; rw [HX.out]; simp only [restOf]; rw [if_pos HE.out.1, if_pos HE.out.2, if_pos hc]
        have x2 := hLb.cell 2
        have x3 := hLb.cell 3
        have x4 := hLb.cell 4
        dsimp only [List.getElem?_cons_zero, List.getElem?_cons_succ] at x2 x3 x4
        clear hc hLb
        go_wp2_with (refine wpList_bstore (by rfl) _ _ _ (by rfl) w.heap.size 26 (by rfl) _ _ (by rfl) hR 3 (by rfl) (by kernel_rfl) (by rfl) (by intro x hx; simp at hx; rcases hx with rfl | rfl | rfl <;> rfl) ?_; intro w9 hR9 hU9; replace hR := hR9; replace hB := hU9.below hB (Nat.le_refl _); replace hL := hL.upd hU9 (by omega); clear hR9 hU9)
        exact bodyPost_ret (v := .tuple #[.agg #[.slice a1 n1 c1, .slice a2 n2 c2, .slice a3 n3 c3], .int .i64 0, .int .i64 0]) (results_box3 (by rfl) _ _ w.heap.size 26 _ _ _ _ (by rfl) hR (by rfl) (by rfl) Try.underlying26 (by rfl) 3 (by rfl) (by kernel_rfl)) rfl ⟨by rw [HN.out]; exact ⟨a1, n1, c1, a2, n2, c2, a3, n3, c3, rfl, hL.mono (Nat.le_succ _)⟩, hB⟩
      · have hcb : ((repOf x.K x.C x.E).chk != 0) = true := by rw [bne_iff_ne]; exact hc
        have HN : Hid (restRd b = ansErr (repOf x.K x.C x.E).chk 0) := by show _ = _; rw [HX.out]; simp only [restOf]; rw [if_pos HE.out.1, if_pos HE.out.2, if_neg hc]
        clear hc hLb
        generalize (repOf x.K x.C x.E).chk = ck at *
        go_wp2_with (refine wpList_bstore (by rfl) _ _ _ (by rfl) w.heap.size 26 (by rfl) _ _ (by rfl) hR 3 (by rfl) (by kernel_rfl) (by rfl) (by intro x hx; simp at hx; rcases hx with rfl | rfl | rfl <;> rfl) ?_; intro w9 hR9 hU9; replace hR := hR9; replace hB := hU9.below hB (Nat.le_refl _); clear hR9 hU9)
        exact bodyPost_ret (v := .tuple #[.agg ([.slice none 0 0, .slice none 0 0, .slice none 0 0] : List Value).toArray, .int .i64 ck, .int .i64 0]) (results_box3 (by rfl) _ _ w.heap.size 26 _ _ _ _ (by rfl) hR (by rfl) (by rfl) Try.underlying26 (by rfl) 3 (by rfl) (by kernel_rfl)) rfl ⟨by rw [HN.out]; exact ⟨none, 0, 0, none, 0, 0, none, 0, 0, rfl, Lists.nil _ _⟩, hB⟩
    · have hqb : (x.seq != 0) = true := by rw [bne_iff_ne]; exact hq
      have HN : Hid (restRd b = ansErr 11 0) := by show _ = _; rw [HX.out]; simp only [restOf]; rw [if_pos he, if_neg hq]
      clear hq he
      go_wp2_with (refine wpList_bstore (by rfl) _ _ _ (by rfl) w.heap.size 26 (by rfl) _ _ (by rfl) (hR.alloc _) 3 (by rfl) (by kernel_rfl) (by rfl) (by intro x hx; simp at hx; rcases hx with rfl | rfl | rfl <;> rfl) ?_; intro w9 hR9 hU9; replace hR := hR9; replace hB := hU9.below (hB.alloc hB.size _) (Nat.le_refl _); clear hR9 hU9)
      exact bodyPost_ret (v := .tuple #[.agg ([.slice none 0 0, .slice none 0 0, .slice none 0 0] : List Value).toArray, .int .i64 11, .int .i64 0]) (results_box3 (by rfl) _ _ w.heap.size 26 _ _ _ _ (by rfl) hR (by rfl) (by rfl) Try.underlying26 (by rfl) 3 (by rfl) (by kernel_rfl)) rfl ⟨by rw [HN.out]; exact ⟨none, 0, 0, none, 0, 0, none, 0, 0, rfl, Lists.nil _ _⟩, hB⟩
  · have heb : (x.err != 0) = true := by rw [bne_iff_ne]; exact he
    have HN : Hid (restRd b = ansErr x.err x.place) := by show _ = _; rw [HX.out]; simp only [restOf]; rw [if_neg he]
    clear he
    go_wp2_with (refine wpList_bstore (by rfl) _ _ _ (by rfl) w.heap.size 26 (by rfl) _ _ (by rfl) (hR.alloc _) 3 (by rfl) (by kernel_rfl) (by rfl) (by intro x hx; simp at hx; rcases hx with rfl | rfl | rfl <;> rfl) ?_; intro w9 hR9 hU9; replace hR := hR9; replace hB := hU9.below (hB.alloc hB.size _) (Nat.le_refl _); clear hR9 hU9)
    exact bodyPost_ret (v := .tuple #[.agg ([.slice none 0 0, .slice none 0 0, .slice none 0 0] : List Value).toArray, .int .i64 x.err, .int .i64 x.place]) (results_box3 (by rfl) _ _ w.heap.size 26 _ _ _ _ (by rfl) hR (by rfl) (by rfl) Try.underlying26 (by rfl) 3 (by rfl) (by kernel_rfl)) rfl ⟨by rw [HN.out]; exact ⟨none, 0, 0, none, 0, 0, none, 0, 0, rfl, Lists.nil _ _⟩, hB⟩

abbrev repC (a1 : Option Addr) (n1 c1 : Nat) (a2 : Option Addr) (n2 c2 : Nat) (a3 : Option Addr) (n3 c3 : Nat) : List Value := [.slice a1 n1 c1, .slice a2 n2 c2, .slice a3 n3 c3]

set_option maxRecDepth 100000 in
set_option maxHeartbeats 4000000 in
theorem restored_any (s : List UInt8) (w : World) (B go : Nat) (n : Int) (a4 : Option Addr) (d4 : Nat) (L : List Bk) (a5 : Option Addr) (d5 : Nat) (L2 : List Bk) (a6 : Option Addr) (d6 : Nat) (L3 : List Bk) (hO : OwnR w B go n a4 d4 L a5 d5 L2 a6 d6 L3) (hs : s.length ≤ 1099511627776) (hL : L.length ≤ 900 ∧ L2.length ≤ 900 ∧ L3.length ≤ 900) (hB : B ≤ go) (hn0 : 0 ≤ n) (hn1 : n ≤ 900) (hBw : B ≤ w.heap.size) :
    Calls Try.prog 21 #[.string (str s), .pointer (some ⟨go, 0, none⟩)] w fun e w' => (e = .returned (.bool true) ∧ ∃ a5 c5 L5 a6 c6 L6 a7 c7 L7, (L5.length = L.length + 4 ∧ L6.length = L2.length + 4 ∧ L7.length = L3.length + 4) ∧ OwnR w' B go (n + 1) a5 c5 L5 a6 c6 L6 a7 c7 L7) ∧ Below B w w' := by
  have HO : Hid (OwnR w B go n a4 d4 L a5 d5 L2 a6 d6 L3) := hO
  have HS : Hid (s.length ≤ 1099511627776) := hs
  have HL : Hid (L.length ≤ 900 ∧ L2.length ≤ 900 ∧ L3.length ≤ 900) := hL
  clear hO hs hL
  go_enter Try.func21, Try.ntmps21
  go_wp2_with fail
  refine (prestore_any s _ HS.out).mono ?_
  rintro e w1 ⟨⟨a1, n1, c1, a2, n2, c2, a3, n3, c3, rfl, hL1⟩, hb1⟩
  have H1 : Hid (Lists w1 w.heap.size (restRd s).K (restRd s).C (restRd s).E a1 n1 c1 a2 n2 c2 a3 n3 c3 ∧ Below w.heap.size w w1) := ⟨hL1, hb1⟩
  clear hL1 hb1
  have hfew : n1 ≤ 1099511627776 ∧ n2 ≤ 1099511627776 ∧ n3 ≤ 1099511627776 := by
    have := restRd_few s; have := HS.out; have := H1.out.1.e1; have := H1.out.1.e2; have := H1.out.1.e3; omega
  obtain ⟨f1, f2, f3⟩ := hfew
  generalize hx : restRd s = x at *
  have HX : Hid (restRd s = x) := hx
  clear hx
  have hX1 := Bx.new w1 26 (repC a1 n1 c1 a2 n2 c2 a3 n3 c3).toArray
  have hA1 : Below w1.heap.size w1 (w1.alloc (.cells (repC a1 n1 c1 a2 n2 c2 a3 n3 c3).toArray 26)) := (Below.refl _ _).alloc (Nat.le_refl _) _
  have HX1 : Hid (Bx (w1.alloc (.cells (repC a1 n1 c1 a2 n2 c2 a3 n3 c3).toArray 26)) w1.heap.size 26 (repC a1 n1 c1 a2 n2 c2 a3 n3 c3) ∧ Below w1.heap.size w1 (w1.alloc (.cells (repC a1 n1 c1 a2 n2 c2 a3 n3 c3).toArray 26))) := ⟨hX1, hA1⟩
  clear hX1 hA1
  go_wp2_with fail
  refine (rrestore_any s _ HS.out).mono ?_
  rintro e w2 ⟨⟨b1, m1, d1, b2, m2, d2, b3, m3, d3, he, hL2⟩, hb2⟩
  rw [HX.out] at he hL2
  subst he
  have em1 : m1 = n1 := by rw [hL2.e1, H1.out.1.e1]
  have em2 : m2 = n2 := by rw [hL2.e2, H1.out.1.e2]
  have em3 : m3 = n3 := by rw [hL2.e3, H1.out.1.e3]
  subst em1 em2 em3
  have H2 : Hid (Lists w2 0 x.K x.C x.E b1 m1 d1 b2 m2 d2 b3 m3 d3 ∧ Below w1.heap.size w1 w2) := ⟨hL2.mono (Nat.zero_le _), HX1.out.2.trans (hb2.mono HX1.out.2.size)⟩
  have hX1 := HX1.out.1.below hb2 HX1.out.1.lt
  have HXX : Hid (Bx (w2.alloc (.cells (repC b1 m1 d1 b2 m2 d2 b3 m3 d3).toArray 26)) w2.heap.size 26 (repC b1 m1 d1 b2 m2 d2 b3 m3 d3) ∧ Bx (w2.alloc (.cells (repC b1 m1 d1 b2 m2 d2 b3 m3 d3).toArray 26)) w1.heap.size 26 (repC a1 m1 c1 a2 m2 c2 a3 m3 c3) ∧ Below w2.heap.size w2 (w2.alloc (.cells (repC b1 m1 d1 b2 m2 d2 b3 m3 d3).toArray 26))) := ⟨Bx.new w2 26 (repC b1 m1 d1 b2 m2 d2 b3 m3 d3).toArray, hX1.alloc _, (Below.refl _ _).alloc (Nat.le_refl _) _⟩
  have x0 := HXX.out.2.1.cell 0
  have x1 := HXX.out.2.1.cell 1
  have x2 := HXX.out.2.1.cell 2
  dsimp only [List.getElem?_cons_zero, List.getElem?_cons_succ] at x0 x1 x2
  clear hX1 hb2 hL2
  have HA := H1.out.1.keep H2.out.2 |>.keep HXX.out.2.2 |>.has f1 f2 f3
  have HBb := H2.out.1.keep HXX.out.2.2 |>.has f1 f2 f3
  have HHA : Hid (Has (w2.alloc (.cells (repC b1 m1 d1 b2 m2 d2 b3 m3 d3).toArray 26)) (repOf x.K x.C x.E) a1 a2 a3 ∧ repV (repOf x.K x.C x.E) a1 a2 a3 c1 c2 c3 = .agg #[.slice a1 m1 c1, .slice a2 m2 c2, .slice a3 m3 c3]) := HA
  have HHB : Hid (Has (w2.alloc (.cells (repC b1 m1 d1 b2 m2 d2 b3 m3 d3).toArray 26)) (repOf x.K x.C x.E) b1 b2 b3 ∧ repV (repOf x.K x.C x.E) b1 b2 b3 d1 d2 d3 = .agg #[.slice b1 m1 d1, .slice b2 m2 d2, .slice b3 m3 d3]) := HBb
  clear HA HBb
  go_wp2_with fail
  have hsr := sameReplica_any (repOf x.K x.C x.E) a1 a2 a3 b1 b2 b3 c1 c2 c3 d1 d2 d3 _ HHA.out.1 HHB.out.1
  rw [HHA.out.2, HHB.out.2] at hsr
  refine hsr.mono ?_
  rintro e w3 ⟨rfl, hb3⟩
  clear hsr x0 x1 x2
  have H3 : Hid (Below w2.heap.size w2 w3) := HXX.out.2.2.trans (hb3.mono HXX.out.2.2.size)
  have HX3 : Hid (Bx w3 w2.heap.size 26 (repC b1 m1 d1 b2 m2 d2 b3 m3 d3) ∧ Bx w3 w1.heap.size 26 (repC a1 m1 c1 a2 m2 c2 a3 m3 c3)) := ⟨HXX.out.1.below hb3 HXX.out.1.lt, HXX.out.2.1.below hb3 HXX.out.2.1.lt⟩
  clear hb3
  have H13 : Hid (Below w1.heap.size w1 w3) := H2.out.2.trans (H3.out.mono H2.out.2.size)
  have HW3 : Hid (Below w.heap.size w w3) := H1.out.2.trans (H13.out.mono H1.out.2.size)
  have x0 := HX3.out.2.cell 0
  have x1 := HX3.out.2.cell 1
  have x2 := HX3.out.2.cell 2
  dsimp only [List.getElem?_cons_zero, List.getElem?_cons_succ] at x0 x1 x2
  go_wp2_with fail
  refine (replica_any _ B w.heap.size go n a1 m1 c1 _ a2 m2 c2 _ a3 m3 c3 _ a4 d4 L a5 d5 L2 a6 d6 L3 (HO.out.keep HW3.out) ⟨HO.out.b1.old, HO.out.b2.old, HO.out.b3.old⟩ (H1.out.1.v1.keep H13.out) (H1.out.1.v2.keep H13.out) (H1.out.1.v3.keep H13.out) f1 f2 f3 (by have := HL.out; omega) (by have := HL.out; omega) (by have := HL.out; omega) hB hBw hn0 (by omega) (Nat.le_trans hBw HW3.out.size) HW3.out.size).mono ?_
  rintro e w4 ⟨⟨v, rfl⟩, ⟨q1, k1, M1, q2, k2, M2, q3, k3, M3, hM, hO4⟩, hb4, hlk⟩
  clear x0 x1 x2
  have H4 : Hid (OwnR w4 B go (n + 1) q1 k1 M1 q2 k2 M2 q3 k3 M3 ∧ Below B w w4) := ⟨hO4, (HW3.out.mono hBw).trans hb4⟩
  have HM : Hid (M1.length = L.length + 4 ∧ M2.length = L2.length + 4 ∧ M3.length = L3.length + 4) := hM
  clear hM hO4 hb4 hlk
  go_wp2_with fail
  refine (kept_any _ B go (n + 1) _ _ _ none 0 [] H4.out.1.o (Books.nil _ _ _ _ _) (by simp) (fun w' hw' => rkept_any w' B go (n + 1) q1 k1 M1 q2 k2 M2 q3 k3 M3 (H4.out.1.keep hw') (by have := HL.out; have := HM.out; omega) (by have := HL.out; have := HM.out; omega) (by have := HL.out; have := HM.out; omega))).mono ?_
  rintro e w6 ⟨rfl, hb6⟩
  have H6 : Hid (Below w4.heap.size w4 w6) := hb6
  clear hb6
  go_wp2_with fail
  go_ret
  exact ⟨⟨by simp, q1, k1, M1, q2, k2, M2, q3, k3, M3, HM.out, H4.out.1.keep H6.out⟩, H4.out.2.trans (H6.out.mono (Nat.le_trans hBw H4.out.2.size))⟩

set_option maxRecDepth 100000 in
set_option maxHeartbeats 4000000 in
theorem restores_any (s : List UInt8) (w : World) (hs : s.length ≤ 1099511627776) :
    Calls Try.prog 6 #[.string (str s)] w fun e w' => e = .returned (.bool true) ∧ Below w.heap.size w w' := by
  obtain ⟨hO, hW, hB⟩ := one_box w 41 #[.int .i64 0, .slice none 0 0, .slice none 0 0, .slice none 0 0, .slice none 0 0, .slice none 0 0]
  have H0 : Hid (OwnR (w.alloc (.cells #[.int .i64 0, .slice none 0 0, .slice none 0 0, .slice none 0 0, .slice none 0 0, .slice none 0 0] 41)) w.heap.size w.heap.size 0 none 0 [] none 0 [] none 0 []) := ⟨hO, Books.nil _ _ _ _ _, Books.nil _ _ _ _ _, Books.nil _ _ _ _ _⟩
  clear hO
  go_enter Try.func6, Try.ntmps6
  go_wp2_with fail
  refine (restored_any s _ w.heap.size w.heap.size 0 none 0 [] none 0 [] none 0 [] H0.out hs ⟨by simp, by simp, by simp⟩ (Nat.le_refl _) (by omega) (by omega) hB.size).mono ?_
  rintro e w1 ⟨⟨rfl, a5, c5, L5, a6, c6, L6, a7, c7, L7, hL, hO5⟩, hb1⟩
  have hb2 := hB.trans hb1
  have hL6 : L5.length ≤ 900 ∧ L6.length ≤ 900 ∧ L7.length ≤ 900 := by simp at hL; omega
  have HO5 : Hid (OwnR w1 w.heap.size w.heap.size (0 + 1) a5 c5 L5 a6 c6 L6 a7 c7 L7) := hO5
  clear hL hO5
  go_wp2_with fail
  refine (restored_any s _ w.heap.size w.heap.size (0 + 1) a5 c5 L5 a6 c6 L6 a7 c7 L7 HO5.out hs hL6 (Nat.le_refl _) (by omega) (by omega) hb2.size).mono ?_
  rintro e w2 ⟨⟨rfl, -⟩, hb3⟩
  go_wp2_with fail
  go_ret
  exact ⟨rfl, hb2.trans hb3⟩
end Go.Proofs.Ytdjpkgaicmklmaa

/- A replica that comes in, opened: its reading as data gives its rows. -/
namespace Go.Proofs.Ytdjpkgaicmklmaa
open Go.ChangeShapes Go.WideShapes Go.ChangeAt Go.RowKit Go.Joins Go.Deep

section
variable {H : Type} {enc : TypeId × Value → H} {w : World} {base : Nat} {spare : Nat → Bool} {held : Bool}

theorem Try.cellsInt : Try.prog.cellsOf 3 = 1 := by kernel_rfl
theorem Try.cellsBool : Try.prog.cellsOf 4 = 1 := by kernel_rfl
theorem Try.cellsString : Try.prog.cellsOf 9 = 1 := by kernel_rfl
theorem Try.cellsClock : Try.prog.cellsOf 67 = 2 := by kernel_rfl
theorem Try.cellsCard : Try.prog.cellsOf 69 = 5 := by kernel_rfl
theorem Try.cellsEdit : Try.prog.cellsOf 71 = 2 := by kernel_rfl

theorem list2 {α : Type} {l : List α} (h : l.length = 2) : ∃ a b, l = [a, b] := by
  match l, h with
  | [a, b], _ => exact ⟨a, b, rfl⟩
theorem list5 {α : Type} {l : List α} (h : l.length = 5) : ∃ a b c d e, l = [a, b, c, d, e] := by
  match l, h with
  | [a, b, c, d, e], _ => exact ⟨a, b, c, d, e, rfl⟩

theorem read_clock {n : Nat} {cs : List Value} {x : DataW H × List MemPlace} (h : DataW.trod enc Try.prog w base spare held n 67 cs = some x) : ∃ c : Ck, cs = c.cells := by
  obtain ⟨xs, k, _, _, hl, hlen, hf⟩ := DataW.trod_struct Try.underlying67 h
  rw [Try.cellsClock] at hl
  obtain ⟨c0, c1, rfl⟩ := list2 hl
  obtain ⟨y0, y1, rfl⟩ := list2 (show xs.length = 2 from hlen)
  have g0 := hf 0 _ rfl
  have g1 := hf 1 _ rfl
  simp [Try.cellsInt] at g0 g1
  obtain ⟨n0, e0, _⟩ := DataW.trod_int Try.underlying3 g0
  obtain ⟨n1, e1, _⟩ := DataW.trod_int Try.underlying3 g1
  simp at e0 e1
  subst e0 e1
  exact ⟨⟨n0, n1⟩, rfl⟩

theorem read_edit {n : Nat} {cs : List Value} {x : DataW H × List MemPlace} (h : DataW.trod enc Try.prog w base spare held n 71 cs = some x) : ∃ c : Ed, cs = c.cells := by
  obtain ⟨xs, k, _, _, hl, hlen, hf⟩ := DataW.trod_struct Try.underlying71 h
  rw [Try.cellsEdit] at hl
  obtain ⟨c0, c1, rfl⟩ := list2 hl
  obtain ⟨y0, y1, rfl⟩ := list2 (show xs.length = 2 from hlen)
  have g0 := hf 0 _ rfl
  have g1 := hf 1 _ rfl
  simp [Try.cellsInt, Try.cellsString] at g0 g1
  obtain ⟨n0, e0, _⟩ := DataW.trod_int Try.underlying3 g0
  obtain ⟨n1, e1, _⟩ := DataW.trod_string Try.underlying9 g1
  simp at e0 e1
  subst e0 e1
  exact ⟨⟨n0, n1⟩, rfl⟩

theorem read_card {n : Nat} {cs : List Value} {x : DataW H × List MemPlace} (h : DataW.trod enc Try.prog w base spare held n 69 cs = some x) : ∃ c : Cd, cs = c.cells := by
  obtain ⟨xs, k, _, _, hl, hlen, hf⟩ := DataW.trod_struct Try.underlying69 h
  rw [Try.cellsCard] at hl
  obtain ⟨c0, c1, c2, c3, c4, rfl⟩ := list5 hl
  obtain ⟨y0, y1, y2, y3, y4, rfl⟩ := list5 (show xs.length = 5 from hlen)
  have g0 := hf 0 _ rfl
  have g1 := hf 1 _ rfl
  have g2 := hf 2 _ rfl
  have g3 := hf 3 _ rfl
  have g4 := hf 4 _ rfl
  simp [Try.cellsInt, Try.cellsString, Try.cellsBool] at g0 g1 g2 g3 g4
  obtain ⟨n0, e0, _⟩ := DataW.trod_int Try.underlying3 g0
  obtain ⟨n1, e1, _⟩ := DataW.trod_int Try.underlying3 g1
  obtain ⟨n2, e2, _⟩ := DataW.trod_int Try.underlying3 g2
  obtain ⟨n3, e3, _⟩ := DataW.trod_bool Try.underlying4 g3
  obtain ⟨n4, e4, _⟩ := DataW.trod_string Try.underlying9 g4
  simp at e0 e1 e2 e3 e4
  subst e0 e1 e2 e3 e4
  exact ⟨⟨n0, n1, n2, n3, n4⟩, rfl⟩

theorem addr_plus (b off j : Nat) : (⟨b, off, none⟩ : Addr).add j = ⟨b, off + j, none⟩ := by
  unfold Addr.add
  by_cases h : j = 0 <;> simp [h]

/-- A slice of records that comes in. -/
theorem read_rows {α : Type} [Inhabited α] (cells : α → List Value) (m : Nat) {t e : TypeId} {fuel : Nat} {v : Value} {x : DataW H × List MemPlace} (ht : Try.prog.underlying t = some (.slice e)) (hc : Try.prog.cellsOf e = m) (h0 : 0 < m)
    (hr : ∀ (n : Nat) (cs : List Value) (y : DataW H × List MemPlace), DataW.trod enc Try.prog w 0 (fun _ => true) held n e cs = some y → ∃ c : α, cs = cells c)
    (h : DataW.trod enc Try.prog w 0 (fun _ => true) held fuel t [v] = some x) :
    ∃ (a : Option Addr) (n k : Nat) (f : Nat → α), v = .slice a n k ∧ Lies w a n m (fun i => cells (f i)) ∧ n ≤ k ∧ ((x.1 = .nil ∧ n = 0) ∨ ∃ el sp : List (DataW H), x.1 = .slice el sp ∧ el.length + sp.length = k) := by
  rcases open_slice ht h with ⟨hcs, hx⟩ | ⟨a, len, cap, mm, n, D, Pl, hcs, _, hl, hm, hmm, hx, hel⟩
  · simp at hcs
    exact ⟨none, 0, 0, fun _ => default, hcs, Or.inl rfl, Nat.le_refl _, Or.inl ⟨by rw [hx], rfl⟩⟩
  · simp at hcs
    simp at hmm
    subst hmm
    rw [hc] at hel
    have hall : ∀ i, i < mm → ∃ c : α, w.cells? 0 (a.add (i * m)) m = some (cells c) := fun i hi => by
      obtain ⟨cs', h1, h2⟩ := hel i hi
      obtain ⟨c, rfl⟩ := hr _ _ _ h2
      exact ⟨c, h1⟩
    obtain ⟨f, hf⟩ := choose_lt (α := α) (p := fun i c => w.cells? 0 (a.add (i * m)) m = some (cells c)) hall
    refine ⟨some a, len, mm, f, hcs, ?_, hl, Or.inr ⟨_, _, by rw [hx], by simp; omega⟩⟩
    by_cases hz : len = 0
    · exact Or.inl hz
    · obtain ⟨b, off, spot⟩ := a
      obtain ⟨_, hlen0, hc0⟩ := World.cells?_some (hf 0 (by omega))
      have hcell : w.cell? ((Addr.add ⟨b, off, spot⟩ (0 * m)).add 0) = (cells (f 0))[0]? := hc0 0 h0
      rw [List.getElem?_eq_getElem (by omega)] at hcell
      have hspot : spot = none := by simpa [Addr.add] using World.cell?_spot hcell
      subst hspot
      have hblk : b < w.heap.size := by
        simp only [Nat.zero_mul, addr_plus, Nat.add_zero] at hcell
        unfold World.cell? at hcell
        rcases Nat.lt_or_ge b w.heap.size with h | h
        · exact h
        · simp [Array.getElem?_eq_none h] at hcell
      refine Or.inr ⟨b, off, rfl, hblk, fun i hi j v hj hv => ?_⟩
      obtain ⟨_, _, hci⟩ := World.cells?_some (hf i (by omega))
      have := hci j hj
      rw [addr_plus, addr_plus] at this
      rw [this, hv]

theorem Try.bytesClock : Try.prog.bytesOf 67 = 16 := by kernel_rfl
theorem Try.bytesCard : Try.prog.bytesOf 69 = 48 := by kernel_rfl
theorem Try.bytesEdit : Try.prog.bytesOf 71 = 24 := by kernel_rfl

/-- The bytes of a slice that came in. -/
theorem weigh {t e : TypeId} {d : DataW H} {n k b : Nat} (ht : Try.prog.underlying t = some (.slice e)) (hb : Try.prog.bytesOf e = b) (hn : n ≤ k)
    (hx : (d = .nil ∧ n = 0) ∨ ∃ el sp : List (DataW H), d = .slice el sp ∧ el.length + sp.length = k) (hw : ∀ q, q ∈ d.weights Try.prog t → q ≤ reachBytes) : n * b ≤ reachBytes := by
  rcases hx with ⟨_, rfl⟩ | ⟨el, sp, rfl, rfl⟩
  · simp
  · have := hw ((el.length + sp.length) * Try.prog.bytesOf e) (by simp [DataW.weights, ht])
    rw [hb] at this
    exact Nat.le_trans (Nat.mul_le_mul_right _ hn) this

set_option maxRecDepth 100000 in
/-- A replica that comes in. -/
theorem open_rep {r : Reach} {b0 : Nat} {v : Value} {d : DataW H} {p : List MemPlace} (hv : Value.okWide Try.prog w r b0 26 v)
    (h : DataW.Trod enc Try.prog w 0 (fun _ => true) held 26 v d p) (hw : ∀ q, q ∈ d.weights Try.prog 26 → q ≤ reachBytes) :
    ∃ (R : Rep) (a1 a2 a3 : Option Addr) (k1 k2 k3 : Nat), v = repV R a1 a2 a3 k1 k2 k3 ∧ Has w R a1 a2 a3 := by
  obtain ⟨v0, v1, v2, y0, y1, y2, n, rfl, rfl, _, h0, h1, h2⟩ := open_agg3 Try.underlying26 (by kernel_rfl) (by kernel_rfl) hv h
  have : Inhabited Ck := ⟨⟨0, 0⟩⟩
  have : Inhabited Cd := ⟨⟨0, 0, 0, false, ⟨#[]⟩⟩⟩
  have : Inhabited Ed := ⟨⟨0, ⟨#[]⟩⟩⟩
  obtain ⟨a1, n1, k1, c, rfl, l1, m1, x1⟩ := read_rows Ck.cells 2 Try.underlying22 Try.cellsClock (by omega) (fun _ _ _ hh => read_clock hh) h0
  obtain ⟨a2, n2, k2, dd, rfl, l2, m2, x2⟩ := read_rows Cd.cells 5 Try.underlying23 Try.cellsCard (by omega) (fun _ _ _ hh => read_card hh) h1
  obtain ⟨a3, n3, k3, e, rfl, l3, m3, x3⟩ := read_rows Ed.cells 2 Try.underlying24 Try.cellsEdit (by omega) (fun _ _ _ hh => read_edit hh) h2
  have hw' : ∀ q, q ∈ DataW.weightsEach Try.prog [22, 23, 24] [y0.1, y1.1, y2.1] → q ≤ reachBytes := fun q hq => hw q (by
    simp only [DataW.weights, Try.underlying26]; exact hq)
  simp only [DataW.weightsEach, List.mem_append] at hw'
  have z1 := weigh Try.underlying22 Try.bytesClock m1 x1 (fun q hq => hw' q (Or.inl hq))
  have z2 := weigh Try.underlying23 Try.bytesCard m2 x2 (fun q hq => hw' q (Or.inr (Or.inl hq)))
  have z3 := weigh Try.underlying24 Try.bytesEdit m3 x3 (fun q hq => hw' q (Or.inr (Or.inr (Or.inl hq))))
  unfold reachBytes at z1 z2 z3
  exact ⟨⟨n1, n2, n3, c, dd, e⟩, a1, a2, a3, k1, k2, k3, rfl, l1, l2, l3, by show n1 ≤ _; omega, by show n2 ≤ _; omega, by show n3 ≤ _; omega, by show 16 * n1 ≤ _; omega, by show 48 * n2 ≤ _; omega, by show 24 * n3 ≤ _; omega⟩
end
end Go.Proofs.Ytdjpkgaicmklmaa

