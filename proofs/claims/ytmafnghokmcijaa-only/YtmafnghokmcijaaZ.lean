/- Export of both, and parcellaw.Exports: called with any replica that lies in memory it answers true. -/
import Derived.Test.YtmafnghokmcijaaY
import Derived.Test.YtmafnghokmcijaaH
namespace Go.Proofs.Ytmafnghokmcijaa
open Go.RowKit

/-- A sound replica can be written. -/
theorem Rep.fit {R : Rep} (h : R.chk = 0) : Fit R := by
  have g1 : R.manyB = false := by
    cases hh : R.manyB
    · rfl
    · simp [Rep.chk, hh] at h
  have g2 : R.numB = false := by
    cases hh : R.numB
    · rfl
    · simp [Rep.chk, g1, hh] at h
  have g3 : R.txtB = false := by
    cases hh : R.txtB
    · rfl
    · simp [Rep.chk, g1, g2, hh] at h
  have hm : R.n1 ≤ 8 ∧ R.n2 ≤ 40 ∧ R.n3 ≤ 16 := by
    unfold Rep.manyB at g1; simp at g1; omega
  unfold Rep.numB at g2
  simp only [Bool.or_eq_false_iff] at g2
  unfold Rep.txtB at g3
  simp only [Bool.or_eq_false_iff] at g3
  have num : ∀ n m : Int, outB n m = false → m ≤ 4611686018427387904 → Num n := by
    intro n m hh hm
    unfold outB at hh
    simp at hh
    exact ⟨by omega, by omega⟩
  have none_of : ∀ (p : Nat → Bool) (n : Nat), anyTo p n = false → ∀ i, i < n → p i = false := by
    intro p n hh i hi
    cases hp : p i
    · rfl
    · rw [anyTo_hit hi hp] at hh; cases hh
  have long : ∀ t : ByteArray, longB t = false → t.size ≤ 60 := by
    intro t ht
    unfold longB at ht
    simp at ht
    omega
  refine ⟨by omega, by omega, by omega, fun i hi => ?_, fun i hi => ?_, fun i hi => ?_⟩
  · have h1 := none_of _ _ g2.1 i hi
    unfold Rep.num1 scB at h1
    simp only [Bool.or_eq_false_iff] at h1
    exact ⟨num _ _ h1.1 (by decide), num _ _ h1.2 (by decide)⟩
  · have h1 := none_of _ _ g2.2.1 i hi
    unfold Rep.num2 scB at h1
    simp only [Bool.or_eq_false_iff] at h1
    have h2 := none_of _ _ g3.1 i hi
    unfold Rep.txt2 at h2
    simp only [Bool.or_eq_false_iff] at h2
    exact ⟨num _ _ h1.2 (by decide), num _ _ h1.1.1 (by decide), num _ _ h1.1.2 (by decide), long _ h2.1⟩
  · have h1 := none_of _ _ g2.2.2 i hi
    unfold Rep.num3 at h1
    have h2 := none_of _ _ g3.2 i hi
    unfold Rep.txt3 at h2
    exact ⟨num _ _ h1 (by decide), long _ h2⟩

/-- The answer of Export. -/
def Rep.exp (R : Rep) : List UInt8 := if R.chk = 0 then bundleB (recsOf 0 0 R) else []

set_option maxRecDepth 100000 in
set_option maxHeartbeats 2000000 in
theorem export_any (R : Rep) (a1 a2 a3 : Option Addr) (k1 k2 k3 : Nat) (w : World) (hR : Has w R a1 a2 a3) :
    Calls Try.prog 14 #[repV R a1 a2 a3 k1 k2 k3] w fun e w' => e = .returned (.tuple #[.string (str R.exp), .int .i64 R.chk]) ∧ Below w.heap.size w w' := by
  have hb0 : BoxR w R a1 a2 a3 k1 k2 k3 (w.alloc (.cells #[.slice a1 R.n1 k1, .slice a2 R.n2 k2, .slice a3 R.n3 k3] 26)) := Below.refl _ _
  go_enter Try.func14, Try.ntmps14
  go_wp2_with fail
  refine (check_any R a1 a2 a3 k1 k2 k3 _ (hR.below (below_box hb0))).mono ?_
  rintro e w1 ⟨rfl, h1⟩
  have hb1 := boxR_step hb0 h1
  clear h1 hb0
  by_cases hc : R.chk = 0
  · have E : Hid (R.exp = bundleB (recsOf 0 0 R)) := by show _ = _; unfold Rep.exp; rw [if_pos hc]
    have hF := Rep.fit hc
    obtain ⟨x1, x2, x3⟩ := box3 hb1
    rw [hc]
    have HC : Hid (R.chk = 0) := hc
    clear hc
    go_wp2_with fail
    refine (bundle_any 0 0 R a1 a2 a3 k1 k2 k3 _ (hR.below (below_box hb1)) hF ⟨by decide, by decide⟩ (by decide) (by decide)).mono ?_
    rintro e w2 ⟨rfl, h2⟩
    have hb2 := boxR_step hb1 h2
    go_wp2_with fail
    go_ret2
    exact ⟨by rw [E.out, HC.out]; rfl, below_box hb2⟩
  · have E : Hid (R.exp = []) := by show _ = _; unfold Rep.exp; rw [if_neg hc]
    have hcb : (R.chk != 0) = true := by simp [hc]
    clear hc
    go_wp2_with fail
    go_ret2
    exact ⟨by rw [E.out]; rfl, below_box hb1⟩

set_option maxRecDepth 100000 in
set_option maxHeartbeats 2000000 in
theorem rexport_any (R : Rep) (a1 a2 a3 : Option Addr) (k1 k2 k3 : Nat) (w : World) (hR : Has w R a1 a2 a3) :
    Calls Try.prog 15 #[repV R a1 a2 a3 k1 k2 k3] w fun e w' => e = .returned (.tuple #[.string (str R.exp), .int .i64 R.chk]) ∧ Below w.heap.size w w' := by
  have hb0 : BoxR w R a1 a2 a3 k1 k2 k3 (w.alloc (.cells #[.slice a1 R.n1 k1, .slice a2 R.n2 k2, .slice a3 R.n3 k3] 26)) := Below.refl _ _
  go_enter Try.func15, Try.ntmps15
  go_wp2_with fail
  refine (rcheck_any R a1 a2 a3 k1 k2 k3 _ (hR.below (below_box hb0))).mono ?_
  rintro e w1 ⟨rfl, h1⟩
  have hb1 := boxR_step hb0 h1
  clear h1 hb0
  by_cases hc : R.chk = 0
  · have E : Hid (R.exp = bundleB (recsOf 0 0 R)) := by show _ = _; unfold Rep.exp; rw [if_pos hc]
    have hF := Rep.fit hc
    obtain ⟨x1, x2, x3⟩ := box3 hb1
    rw [hc]
    have HC : Hid (R.chk = 0) := hc
    clear hc
    go_wp2_with fail
    refine (rbundle_any 0 0 R a1 a2 a3 k1 k2 k3 _ (hR.below (below_box hb1)) hF ⟨by decide, by decide⟩ (by decide) (by decide)).mono ?_
    rintro e w2 ⟨rfl, h2⟩
    have hb2 := boxR_step hb1 h2
    go_wp2_with fail
    go_ret2
    exact ⟨by rw [E.out, HC.out]; rfl, below_box hb2⟩
  · have E : Hid (R.exp = []) := by show _ = _; unfold Rep.exp; rw [if_neg hc]
    have hcb : (R.chk != 0) = true := by simp [hc]
    clear hc
    go_wp2_with fail
    go_ret2
    exact ⟨by rw [E.out]; rfl, below_box hb1⟩

set_option maxRecDepth 100000 in
set_option maxHeartbeats 4000000 in
theorem exports_any (R : Rep) (a1 a2 a3 : Option Addr) (k1 k2 k3 : Nat) (w : World) (hR : Has w R a1 a2 a3) :
    Calls Try.prog 4 #[repV R a1 a2 a3 k1 k2 k3] w fun e w' => e = .returned (.bool true) ∧ Below w.heap.size w w' := by
  have hb0 : BoxR w R a1 a2 a3 k1 k2 k3 (w.alloc (.cells #[.slice a1 R.n1 k1, .slice a2 R.n2 k2, .slice a3 R.n3 k3] 26)) := Below.refl _ _
  go_enter Try.func4, Try.ntmps4
  go_wp2_with fail
  refine (handed_any R a1 a2 a3 k1 k2 k3 _ (hR.below (below_box hb0))).mono ?_
  rintro e w1 ⟨b1, b2, b3, g1, g2, g3, rfl, hH, hg, h1⟩
  have hb1 := boxR_step hb0 h1
  clear h1 hb0
  obtain ⟨x1, x2, x3⟩ := box3 hb1
  have hws : w.heap.size < w1.heap.size := by have := hb1.size; simp at this; omega
  have hq0 : BoxR w1 R b1 b2 b3 (R.n1 + 2) (R.n2 + 2) (R.n3 + 2) (w1.alloc (.cells #[.slice b1 R.n1 (R.n1 + 2), .slice b2 R.n2 (R.n2 + 2), .slice b3 R.n3 (R.n3 + 2)] 26)) := Below.refl _ _
  go_wp2_with fail
  refine (export_any R b1 b2 b3 _ _ _ _ ((hH.has hR).below (below_box hq0))).mono ?_
  rintro e w2 ⟨rfl, h2⟩
  have hq2 := boxR_step hq0 h2
  clear h2 hq0 x1 x2 x3
  obtain ⟨x1, x2, x3⟩ := box3 (below_step2 hb1 hq2)
  obtain ⟨z1, z2, z3⟩ := box3 hq2
  go_wp2_with fail
  refine (rexport_any R a1 a2 a3 _ _ _ _ (hR.below (below_box (below_step2 hb1 hq2)))).mono ?_
  rintro e w3 ⟨rfl, h3⟩
  have hq3 := boxR_step hq2 h3
  clear h3 hq2 x1 x2 x3 z1 z2 z3
  obtain ⟨x1, x2, x3⟩ := box3 (below_step2 hb1 hq3)
  obtain ⟨z1, z2, z3⟩ := box3 hq3
  go_wp2_with fail
  refine (still_any R a1 a2 a3 b1 b2 b3 g1 g2 g3 _ _ _ _ (hR.below (below_box (below_step2 hb1 hq3))) (hH.below (below_box hq3))).mono ?_
  rintro e w4 ⟨rfl, h4⟩
  have hq4 := boxR_step hq3 h4
  clear h4 hq3 x1 x2 x3 z1 z2 z3
  go_wp2_with fail
  go_ret
  exact ⟨rfl, below_box (below_step2 hb1 hq4)⟩
end Go.Proofs.Ytmafnghokmcijaa
