/- sound.tooMany, sound.Check and parcel.Check, walked. -/
import Derived.Test.YtmafnghokmcijaaBNum
import Derived.Test.YtmafnghokmcijaaBTxt
import Derived.Test.YtmafnghokmcijaaBRis
import Derived.Test.YtmafnghokmcijaaBUnc
import Derived.Test.YtmafnghokmcijaaBCl
namespace Go.Proofs.Ytmafnghokmcijaa
open Go.RowKit

set_option maxHeartbeats 1000000 in
theorem tooMany_any (R : Rep) (a1 a2 a3 : Option Addr) (k1 k2 k3 : Nat) (w : World) (hR : Has w R a1 a2 a3) :
    Calls Try.prog 49 #[repV R a1 a2 a3 k1 k2 k3] w fun e w' => e = .returned (.bool R.manyB) ∧ Below w.heap.size w w' := by
  have b1 := hR.b1; have b2 := hR.b2; have b3 := hR.b3
  go_enter Try.func49, Try.ntmps49
  go_wp2
  all_goals (go_ret; refine ⟨ret_bool ?_, (Below.refl _ _).alloc (Nat.le_refl _) _⟩; unfold Rep.manyB; rw [Bool.eq_iff_iff]; simp; try omega)

/-- The world behind a call made with the box laid. -/
theorem boxR_step {w wr w1 : World} {R : Rep} {a1 a2 a3 : Option Addr} {k1 k2 k3 : Nat} (hb : BoxR w R a1 a2 a3 k1 k2 k3 wr) (h : Below wr.heap.size wr w1) : BoxR w R a1 a2 a3 k1 k2 k3 w1 :=
  hb.trans (h.mono (by have := hb.size; simpa using this))

set_option maxHeartbeats 2000000 in
theorem check_any (R : Rep) (a1 a2 a3 : Option Addr) (k1 k2 k3 : Nat) (w : World) (hR : Has w R a1 a2 a3) :
    Calls Try.prog 24 #[repV R a1 a2 a3 k1 k2 k3] w fun e w' => e = .returned (.int .i64 R.chk) ∧ Below w.heap.size w w' := by
  have hb0 : BoxR w R a1 a2 a3 k1 k2 k3 (w.alloc (.cells #[.slice a1 R.n1 k1, .slice a2 R.n2 k2, .slice a3 R.n3 k3] 26)) := Below.refl _ _
  go_enter Try.func24, Try.ntmps24
  go_wp2_with fail
  refine (tooMany_any R a1 a2 a3 k1 k2 k3 _ (hR.below (below_box hb0))).mono ?_
  rintro e w1 ⟨rfl, h1⟩
  have hb1 := boxR_step hb0 h1
  obtain ⟨x1, x2, x3⟩ := box3 hb1
  clear h1 hb0
  cases g1 : R.manyB
  case true =>
    go_wp2_with fail
    go_ret
    exact ⟨ret_int (by simp [Rep.chk, g1]), below_box hb1⟩
  go_wp2_with fail
  refine (wrongNumber_any R a1 a2 a3 k1 k2 k3 _ (hR.below (below_box hb1))).mono ?_
  rintro e w2 ⟨rfl, h1⟩
  have hb2 := boxR_step hb1 h1
  clear x1 x2 x3 h1 hb1
  obtain ⟨x1, x2, x3⟩ := box3 hb2
  cases g2 : R.numB
  case true =>
    go_wp2_with fail
    go_ret
    exact ⟨ret_int (by simp [Rep.chk, g1, g2]), below_box hb2⟩
  go_wp2_with fail
  refine (wrongText_any R a1 a2 a3 k1 k2 k3 _ (hR.below (below_box hb2))).mono ?_
  rintro e w3 ⟨rfl, h1⟩
  have hb3 := boxR_step hb2 h1
  clear x1 x2 x3 h1 hb2
  obtain ⟨x1, x2, x3⟩ := box3 hb3
  cases g3 : R.txtB
  case true =>
    go_wp2_with fail
    go_ret
    exact ⟨ret_int (by simp [Rep.chk, g1, g2, g3]), below_box hb3⟩
  go_wp2_with fail
  refine (notRising_any R a1 a2 a3 k1 k2 k3 _ (hR.below (below_box hb3))).mono ?_
  rintro e w4 ⟨rfl, h1⟩
  have hb4 := boxR_step hb3 h1
  clear x1 x2 x3 h1 hb3
  obtain ⟨x1, x2, x3⟩ := box3 hb4
  cases g4 : R.risB
  case true =>
    go_wp2_with fail
    go_ret
    exact ⟨ret_int (by simp [Rep.chk, g1, g2, g3, g4]), below_box hb4⟩
  go_wp2_with fail
  refine (uncovered_any R a1 a2 a3 k1 k2 k3 _ (hR.below (below_box hb4))).mono ?_
  rintro e w5 ⟨rfl, h1⟩
  have hb5 := boxR_step hb4 h1
  clear x1 x2 x3 h1 hb4
  obtain ⟨x1, x2, x3⟩ := box3 hb5
  cases g5 : R.uncB
  case true =>
    go_wp2_with fail
    go_ret
    exact ⟨ret_int (by simp [Rep.chk, g1, g2, g3, g4, g5]), below_box hb5⟩
  go_wp2_with fail
  refine (clashing_any a2 R.n2 k2 R.d _ hR.b2 (hR.below (below_box hb5)).l2).mono ?_
  rintro e w6 ⟨rfl, h1⟩
  have hb6 := boxR_step hb5 h1
  clear x1 x2 x3 h1 hb5
  have hcl : anyTo (fun i => anyTo (fun k => stampB (R.d i) (R.d k)) i) R.n2 = R.clashB := rfl
  rw [hcl]
  clear hcl
  cases g6 : R.clashB
  case true =>
    go_wp2_with fail
    go_ret
    exact ⟨ret_int (by simp [Rep.chk, g1, g2, g3, g4, g5, g6]), below_box hb6⟩
  go_wp2_with fail
  go_ret
  exact ⟨ret_int (by simp [Rep.chk, g1, g2, g3, g4, g5, g6]), below_box hb6⟩

set_option maxHeartbeats 1000000 in
theorem pcheck_any (R : Rep) (a1 a2 a3 : Option Addr) (k1 k2 k3 : Nat) (w : World) (hR : Has w R a1 a2 a3) :
    Calls Try.prog 11 #[repV R a1 a2 a3 k1 k2 k3] w fun e w' => e = .returned (.int .i64 R.chk) ∧ Below w.heap.size w w' := by
  have hb0 : BoxR w R a1 a2 a3 k1 k2 k3 (w.alloc (.cells #[.slice a1 R.n1 k1, .slice a2 R.n2 k2, .slice a3 R.n3 k3] 26)) := Below.refl _ _
  go_enter Try.func11, Try.ntmps11
  go_wp2_with fail
  refine (check_any R a1 a2 a3 k1 k2 k3 _ (hR.below (below_box hb0))).mono ?_
  rintro e w1 ⟨rfl, h1⟩
  go_wp2_with fail
  go_ret
  exact ⟨rfl, below_box (boxR_step hb0 h1)⟩
end Go.Proofs.Ytmafnghokmcijaa
