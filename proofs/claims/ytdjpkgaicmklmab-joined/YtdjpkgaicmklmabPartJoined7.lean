/- Texts of the proof, one behind the other; what each holds is said at its head. -/
import Derived.Test.YtdjpkgaicmklmabPartJoined6
import Derived.Test.YtdjpkgaicmklmabPartJoined0
import Derived.Deep.RegionHeld3
import Derived.Deep.DeepCutAuto
import Derived.Deep.RegionLaw
import Derived.Test.YtdjpkgaicmklmabPartJoined5
import Derived.Test.YtdjpkgaicmklmabPartJoined1
import Derived.Test.YtdjpkgaicmklmabPartJoined3
/- Merge of the program: walked. -/
namespace Go.Proofs.Ytdjpkgaicmklmab
open Go.RowKit

theorem merge_clash {A B : Tri} (hA : A.rep.chk = 0) (hB : B.rep.chk = 0) (h : clashB2 A.C B.C = true) : mergeRd A B = ansErr 6 0 := by
  unfold mergeRd; rw [if_pos hA, if_pos hB, if_pos h]
theorem merge_many {A B : Tri} (hA : A.rep.chk = 0) (hB : B.rep.chk = 0) (h : clashB2 A.C B.C = false) (hm : (repOf (mergeK A.K B.K) (mergeC A.C B.C) (bothE A.E B.E)).manyB = true) : mergeRd A B = ansErr 1 0 := by
  unfold mergeRd; rw [if_pos hA, if_pos hB, if_neg (by rw [h]; decide), if_pos]
  simp only [Rep.manyB, repOf, Bool.or_eq_true] at hm
  rcases hm with h | h | h
  · exact Or.inl (of_decide_eq_true h)
  · exact Or.inr (Or.inl (of_decide_eq_true h))
  · exact Or.inr (Or.inr (of_decide_eq_true h))
theorem merge_ok {A B : Tri} (hA : A.rep.chk = 0) (hB : B.rep.chk = 0) (h : clashB2 A.C B.C = false) (hm : (repOf (mergeK A.K B.K) (mergeC A.C B.C) (bothE A.E B.E)).manyB = false) : mergeRd A B = ⟨0, 0, 0, 0, mergeK A.K B.K, mergeC A.C B.C, bothE A.E B.E⟩ := by
  unfold mergeRd; rw [if_pos hA, if_pos hB, if_neg (by rw [h]; decide), if_neg]
  simp only [Rep.manyB, repOf, Bool.or_eq_false_iff] at hm
  have h1 := of_decide_eq_false hm.1
  have h2 := of_decide_eq_false hm.2.1
  have h3 := of_decide_eq_false hm.2.2
  omega
set_option maxRecDepth 100000 in
set_option maxHeartbeats 8000000 in
theorem pmerge_any (A B : Tri) (a1 a2 a3 b1 b2 b3 : Option Addr) (k1 k2 k3 l1 l2 l3 : Nat) (w : World) (hA : Has w A.rep a1 a2 a3) (hB : Has w B.rep b1 b2 b3) (hk1 : A.K.length ≤ k1) (hk2 : A.C.length ≤ k2) :
    Calls Try.prog 20 #[repV A.rep a1 a2 a3 k1 k2 k3, repV B.rep b1 b2 b3 l1 l2 l3] w fun e w' => MergeAns (mergeRd A B) w.heap.size e w' ∧ Below w.heap.size w w' := by
  have HA : Hid (Has w A.rep a1 a2 a3) := hA
  have HB : Hid (Has w B.rep b1 b2 b3) := hB
  have H0 : Hid (M3 w (repC a1 A.rep.n1 k1 a2 A.rep.n2 k2 a3 A.rep.n3 k3) (repC b1 B.rep.n1 l1 b2 B.rep.n2 l2 b3 B.rep.n3 l3) (repC none 0 0 none 0 0 none 0 0) (((w.alloc (.cells #[.slice a1 A.rep.n1 k1, .slice a2 A.rep.n2 k2, .slice a3 A.rep.n3 k3] 28)).alloc (.cells #[.slice b1 B.rep.n1 l1, .slice b2 B.rep.n2 l2, .slice b3 B.rep.n3 l3] 28)).alloc (.cells #[.slice none 0 0, .slice none 0 0, .slice none 0 0] 28))) := M3.start w _ _ _
  have x0 := H0.out.a.cell 0; have x1 := H0.out.a.cell 1; have x2 := H0.out.a.cell 2
  dsimp only [List.getElem?_cons_zero, List.getElem?_cons_succ] at x0 x1 x2
  clear hA hB
  go_enter Try.func20, Try.ntmps20
  go_wp2_with fail
  refine (check_any A.rep a1 a2 a3 k1 k2 k3 _ (HA.out.below H0.out.old)).mono ?_
  rintro e w1 ⟨rfl, hb1⟩
  have hM1 : Hid (M3 w (repC a1 A.rep.n1 k1 a2 A.rep.n2 k2 a3 A.rep.n3 k3) (repC b1 B.rep.n1 l1 b2 B.rep.n2 l2 b3 B.rep.n3 l3) (repC none 0 0 none 0 0 none 0 0) w1) := H0.out.step hb1
  clear hb1 H0 x0 x1 x2
  by_cases hc : A.rep.chk = 0
  · have HCA : Hid (A.rep.chk = 0) := hc
    rw [hc]
    clear hc
    have y0 := hM1.out.b.cell 0; have y1 := hM1.out.b.cell 1; have y2 := hM1.out.b.cell 2
    dsimp only [List.getElem?_cons_zero, List.getElem?_cons_succ] at y0 y1 y2
    go_wp2_with fail
    refine (check_any B.rep b1 b2 b3 l1 l2 l3 _ (HB.out.below hM1.out.old)).mono ?_
    rintro e w2 ⟨rfl, hb2⟩
    have hM2 : Hid (M3 w (repC a1 A.rep.n1 k1 a2 A.rep.n2 k2 a3 A.rep.n3 k3) (repC b1 B.rep.n1 l1 b2 B.rep.n2 l2 b3 B.rep.n3 l3) (repC none 0 0 none 0 0 none 0 0) w2) := hM1.out.step hb2
    clear hb2 hM1 y0 y1 y2
    by_cases hc : B.rep.chk = 0
    · have HCB : Hid (B.rep.chk = 0) := hc
      rw [hc]
      clear hc
      obtain ⟨f1, f2, f3⟩ := few_of HCA.out
      obtain ⟨g1, g2, g3⟩ := few_of HCB.out
      have x1 := hM2.out.a.cell 1; have y1 := hM2.out.b.cell 1
      dsimp only [List.getElem?_cons_zero, List.getElem?_cons_succ] at x1 y1
      go_wp2_with fail
      refine (pclash_any A.C B.C a2 b2 A.C.length B.C.length k2 l2 _ (HA.out.l2.below hM2.out.old) (HB.out.l2.below hM2.out.old) rfl rfl (by omega) (by omega)).mono ?_
      rintro e w3 ⟨rfl, hb3⟩
      have hM3 : Hid (M3 w (repC a1 A.rep.n1 k1 a2 A.rep.n2 k2 a3 A.rep.n3 k3) (repC b1 B.rep.n1 l1 b2 B.rep.n2 l2 b3 B.rep.n3 l3) (repC none 0 0 none 0 0 none 0 0) w3) := hM2.out.step hb3
      clear hb3 hM2 x1 y1
      cases hcl : clashB2 A.C B.C with
      | true =>
        have E : Hid (mergeRd A B = ansErr 6 0) := merge_clash HCA.out HCB.out hcl
        clear hcl
        have hr := hM3.out.r
        go_wp2_with (refine wpList_bstore (by rfl) _ _ _ (by rfl) (w.heap.size + 2) 28 (by rfl) _ _ (by rfl) hr 3 (by rfl) (by kernel_rfl) (by rfl) (by intro x hx; simp at hx; subst hx; rfl) ?_; intro w9 hr9 hu9)
        exact bodyPost_ret (v := .tuple #[.agg #[.slice none 0 0, .slice none 0 0, .slice none 0 0], .int .i64 6]) (results_box2 (by rfl) _ _ (w.heap.size + 2) 28 _ _ _ (by rfl) hr9 (by rfl) Try.underlying28 (by rfl) 3 (by rfl) (by kernel_rfl)) rfl ⟨⟨none, 0, 0, none, 0, 0, none, 0, 0, by rw [E.out]; rfl, by rw [E.out]; exact Lists.nil _ _⟩, (hM3.out.put hu9 hr9).old⟩
      | false =>
        have HCL : Hid (clashB2 A.C B.C = false) := hcl
        clear hcl
        have x0 := hM3.out.a.cell 0; have x1 := hM3.out.a.cell 1; have x2 := hM3.out.a.cell 2
        have y0 := hM3.out.b.cell 0; have y1 := hM3.out.b.cell 1; have y2 := hM3.out.b.cell 2
        dsimp only [List.getElem?_cons_zero, List.getElem?_cons_succ] at x0 x1 x2 y0 y1 y2
        go_wp2_with fail
        refine (merged_any A B a1 a2 a3 b1 b2 b3 k1 k2 k3 l1 l2 l3 _ (HA.out.below hM3.out.old) (HB.out.below hM3.out.old) hk1 hk2 HCA.out HCB.out).mono ?_
        rintro e w4 ⟨i1, m1, j1, i2, m2, j2, i3, m3, j3, rfl, hL, hb4⟩
        have hM4 : Hid (M3 w (repC a1 A.rep.n1 k1 a2 A.rep.n2 k2 a3 A.rep.n3 k3) (repC b1 B.rep.n1 l1 b2 B.rep.n2 l2 b3 B.rep.n3 l3) (repC none 0 0 none 0 0 none 0 0) w4) := hM3.out.step hb4
        have HL : Hid (Lists w4 (w.heap.size + 3) (mergeK A.K B.K) (mergeC A.C B.C) (bothE A.E B.E) i1 m1 j1 i2 m2 j2 i3 m3 j3) := hL.mono hM3.out.sz
        clear hb4 hM3 x0 x1 x2 y0 y1 y2 hL
        have hV : Bx (w4.alloc (.cells #[.slice none 0 0, .slice none 0 0, .slice none 0 0] 28)) w4.heap.size 28 (repC none 0 0 none 0 0 none 0 0) := Bx.new _ _ _
        have HAL : Hid (Below w4.heap.size w4 (w4.alloc (.cells #[.slice none 0 0, .slice none 0 0, .slice none 0 0] 28))) := (Below.refl _ _).alloc (Nat.le_refl _) _
        have b1' := layK_len Ck.site keepK B.K A.K
        have b2' := layK_len Cd.id keepC B.C A.C
        have b3' := both_len B.E A.E
        have HB1 : Hid ((mergeK A.K B.K).length ≤ 16 ∧ (mergeC A.C B.C).length ≤ 80 ∧ (bothE A.E B.E).length ≤ 32) := ⟨Nat.le_trans b1' (by omega), Nat.le_trans b2' (by omega), by omega⟩
        clear b1' b2' b3'
        go_wp2_with (refine wpList_bstore (by rfl) _ _ _ (by rfl) w4.heap.size 28 (by rfl) _ _ (by rfl) hV 3 (by rfl) (by kernel_rfl) (by rfl) (by intro x hx; simp at hx; rcases hx with rfl | rfl | rfl <;> rfl) ?_; intro w5 hV5 hu5; have hz5 := hM4.out.sz; have z0 := hV5.cell 0; have z1 := hV5.cell 1; have z2 := hV5.cell 2; dsimp only [List.getElem?_cons_zero, List.getElem?_cons_succ] at z0 z1 z2)
        have hb5 : Below w4.heap.size w4 w5 := hu5.below HAL.out (Nat.le_refl _)
        have HL5 : Hid (Lists w5 (w.heap.size + 3) (mergeK A.K B.K) (mergeC A.C B.C) (bothE A.E B.E) i1 m1 j1 i2 m2 j2 i3 m3 j3) := HL.out.keep hb5
        have hM5 : Hid (M3 w (repC a1 A.rep.n1 k1 a2 A.rep.n2 k2 a3 A.rep.n3 k3) (repC b1 B.rep.n1 l1 b2 B.rep.n2 l2 b3 B.rep.n3 l3) (repC none 0 0 none 0 0 none 0 0) w5) := hM4.out.step hb5
        clear hb5 hu5 HL hM4 HAL hV
        obtain ⟨hD, hDV⟩ := HL5.out.has (by have := HL5.out.e1; have := HB1.out; omega) (by have := HL5.out.e2; have := HB1.out; omega) (by have := HL5.out.e3; have := HB1.out; omega)
        rw [← hDV]
        refine (tooMany_any (repOf (mergeK A.K B.K) (mergeC A.C B.C) (bothE A.E B.E)) i1 i2 i3 j1 j2 j3 _ hD).mono ?_
        rintro e w6 ⟨rfl, hb6⟩
        rw [hDV]
        have hM6 : Hid (M3 w (repC a1 A.rep.n1 k1 a2 A.rep.n2 k2 a3 A.rep.n3 k3) (repC b1 B.rep.n1 l1 b2 B.rep.n2 l2 b3 B.rep.n3 l3) (repC none 0 0 none 0 0 none 0 0) w6) := hM5.out.step hb6
        have HL6 : Hid (Lists w6 (w.heap.size + 3) (mergeK A.K B.K) (mergeC A.C B.C) (bothE A.E B.E) i1 m1 j1 i2 m2 j2 i3 m3 j3) := HL5.out.keep hb6
        have hV6 := hV5.below hb6 hV5.lt
        clear z0 z1 z2 hb6 hV5 hM5 HL5 hD hDV
        have z0 := hV6.cell 0; have z1 := hV6.cell 1; have z2 := hV6.cell 2
        dsimp only [List.getElem?_cons_zero, List.getElem?_cons_succ] at z0 z1 z2
        have hr := hM6.out.r
        clear hV6
        cases hmn : (repOf (mergeK A.K B.K) (mergeC A.C B.C) (bothE A.E B.E)).manyB with
        | true =>
          have E : Hid (mergeRd A B = ansErr 1 0) := merge_many HCA.out HCB.out HCL.out hmn
          clear hmn
          go_wp2_with (refine wpList_bstore (by rfl) _ _ _ (by rfl) (w.heap.size + 2) 28 (by rfl) _ _ (by rfl) hr 3 (by rfl) (by kernel_rfl) (by rfl) (by intro x hx; simp at hx; subst hx; rfl) ?_; intro w9 hr9 hu9)
          exact bodyPost_ret (v := .tuple #[.agg #[.slice none 0 0, .slice none 0 0, .slice none 0 0], .int .i64 1]) (results_box2 (by rfl) _ _ (w.heap.size + 2) 28 _ _ _ (by rfl) hr9 (by rfl) Try.underlying28 (by rfl) 3 (by rfl) (by kernel_rfl)) rfl ⟨⟨none, 0, 0, none, 0, 0, none, 0, 0, by rw [E.out]; rfl, by rw [E.out]; exact Lists.nil _ _⟩, (hM6.out.put hu9 hr9).old⟩
        | false =>
          have E : Hid (mergeRd A B = ⟨0, 0, 0, 0, mergeK A.K B.K, mergeC A.C B.C, bothE A.E B.E⟩) := merge_ok HCA.out HCB.out HCL.out hmn
          clear hmn
          go_wp2_with (refine wpList_bstore (by rfl) _ _ _ (by rfl) (w.heap.size + 2) 28 (by rfl) _ _ (by rfl) hr 3 (by rfl) (by kernel_rfl) (by rfl) (by intro x hx; simp at hx; rcases hx with rfl | rfl | rfl <;> rfl) ?_; intro w9 hr9 hu9)
          exact bodyPost_ret (v := .tuple #[.agg #[.slice i1 m1 j1, .slice i2 m2 j2, .slice i3 m3 j3], .int .i64 0]) (results_box2 (by rfl) _ _ (w.heap.size + 2) 28 _ _ _ (by rfl) hr9 (by rfl) Try.underlying28 (by rfl) 3 (by rfl) (by kernel_rfl)) rfl ⟨⟨i1, m1, j1, i2, m2, j2, i3, m3, j3, by rw [E.out], by rw [E.out]; exact ((HL6.out.upd hu9 (by omega)).mono (by omega))⟩, (hM6.out.put hu9 hr9).old⟩
    · have E : Hid (mergeRd A B = ansErr B.rep.chk 0) := by show _ = _; unfold mergeRd; rw [if_pos HCA.out, if_neg hc]
      have hcb : (B.rep.chk != 0) = true := by simp [hc]
      clear hc
      have hr := hM2.out.r
      go_wp2_with (refine wpList_bstore (by rfl) _ _ _ (by rfl) (w.heap.size + 2) 28 (by rfl) _ _ (by rfl) hr 3 (by rfl) (by kernel_rfl) (by rfl) (by intro x hx; simp at hx; subst hx; rfl) ?_; intro w9 hr9 hu9)
      exact bodyPost_ret (v := .tuple #[.agg #[.slice none 0 0, .slice none 0 0, .slice none 0 0], .int .i64 B.rep.chk]) (results_box2 (by rfl) _ _ (w.heap.size + 2) 28 _ _ _ (by rfl) hr9 (by rfl) Try.underlying28 (by rfl) 3 (by rfl) (by kernel_rfl)) rfl ⟨⟨none, 0, 0, none, 0, 0, none, 0, 0, by rw [E.out]; rfl, by rw [E.out]; exact Lists.nil _ _⟩, (hM2.out.put hu9 hr9).old⟩
  · have E : Hid (mergeRd A B = ansErr A.rep.chk 0) := by show _ = _; unfold mergeRd; rw [if_neg hc]
    have hcb : (A.rep.chk != 0) = true := by simp [hc]
    clear hc
    have hr := hM1.out.r
    go_wp2_with (refine wpList_bstore (by rfl) _ _ _ (by rfl) (w.heap.size + 2) 28 (by rfl) _ _ (by rfl) hr 3 (by rfl) (by kernel_rfl) (by rfl) (by intro x hx; simp at hx; subst hx; rfl) ?_; intro w9 hr9 hu9)
    exact bodyPost_ret (v := .tuple #[.agg #[.slice none 0 0, .slice none 0 0, .slice none 0 0], .int .i64 A.rep.chk]) (results_box2 (by rfl) _ _ (w.heap.size + 2) 28 _ _ _ (by rfl) hr9 (by rfl) Try.underlying28 (by rfl) 3 (by rfl) (by kernel_rfl)) rfl ⟨⟨none, 0, 0, none, 0, 0, none, 0, 0, by rw [E.out]; rfl, by rw [E.out]; exact Lists.nil _ _⟩, (hM1.out.put hu9 hr9).old⟩
end Go.Proofs.Ytdjpkgaicmklmab

/- parcelkeep.State, walked. -/
namespace Go.Proofs.Ytdjpkgaicmklmab
open Go.RowKit

/-- The result's cell and the variable r, at the call's first two blocks: three slices. -/
structure Two (w : World) (B : Nat) (x y z : Value) : Prop where
  r0 : ∃ v, w.cell? ⟨B, 0, none⟩ = some v
  r1 : ∃ v, w.cell? ⟨B, 1, none⟩ = some v
  r2 : ∃ v, w.cell? ⟨B, 2, none⟩ = some v
  rf : ∀ j, w.frozen? ⟨B, j, none⟩ = false
  c0 : w.cell? ⟨B + 1, 0, none⟩ = some x
  c1 : w.cell? ⟨B + 1, 1, none⟩ = some y
  c2 : w.cell? ⟨B + 1, 2, none⟩ = some z
  cf : ∀ j, w.frozen? ⟨B + 1, j, none⟩ = false

theorem Two.below {w w' : World} {B C : Nat} {x y z : Value} (h : Two w B x y z) (hb : Below C w w') (hB : B + 2 ≤ C) : Two w' B x y z := by
  have hc : ∀ b j, b < B + 2 → w'.cell? ⟨b, j, none⟩ = w.cell? ⟨b, j, none⟩ := fun b j hl => hb.cell (p := ⟨b, j, none⟩) (Nat.lt_of_lt_of_le hl hB)
  have hf : ∀ b j, b < B + 2 → w'.frozen? ⟨b, j, none⟩ = w.frozen? ⟨b, j, none⟩ := fun b j hl => hb.frozen (p := ⟨b, j, none⟩) (Nat.lt_of_lt_of_le hl hB)
  exact ⟨by rw [hc _ _ (by omega)]; exact h.r0, by rw [hc _ _ (by omega)]; exact h.r1, by rw [hc _ _ (by omega)]; exact h.r2, fun j => by rw [hf _ _ (by omega)]; exact h.rf j,
    by rw [hc _ _ (by omega)]; exact h.c0, by rw [hc _ _ (by omega)]; exact h.c1, by rw [hc _ _ (by omega)]; exact h.c2, fun j => by rw [hf _ _ (by omega)]; exact h.cf j⟩

/-- What the first loop keeps. -/
structure Inv1 (w0 : World) (gc : Nat) (cn : List Int) (cards : List Cd) (ad : Option Addr) (N cap : Nat) (wr : World) : Prop where
  bel : Below w0.heap.size w0 wr
  two : Two wr w0.heap.size (.slice none 0 0) (.slice ad N cap) (.slice none 0 0)
  cnt : Own wr gc 3 1 (irows cn)
  crd : Vec wr (gc + 1) 68 5 ad N cap (ccells cards)
  len : cards.length = N
  lo : w0.heap.size + 2 ≤ gc

theorem two_start (w w2 : World) {C : Nat} (h : Below C ((w.alloc (.cells #[.slice none 0 0, .slice none 0 0, .slice none 0 0] 28)).alloc (.cells #[.slice none 0 0, .slice none 0 0, .slice none 0 0] 28)) w2) (hC : w.heap.size + 2 ≤ C) :
    Two w2 w.heap.size (.slice none 0 0) (.slice none 0 0) (.slice none 0 0) := by
  refine Two.below (w := (w.alloc (.cells #[.slice none 0 0, .slice none 0 0, .slice none 0 0] 28)).alloc (.cells #[.slice none 0 0, .slice none 0 0, .slice none 0 0] 28)) ⟨⟨_, by simp; rfl⟩, ⟨_, by simp; rfl⟩, ⟨_, by simp; rfl⟩, fun j => by simp, by simp, by simp, by simp, fun j => by simp⟩ h hC

/-- The counts turned. -/
theorem Inv1.count {w0 : World} {gc : Nat} {cn : List Int} {cards : List Cd} {ad : Option Addr} {N cap : Nat} {wr : World} (h : Inv1 w0 gc cn cards ad N cap wr) (k : Nat) (x : Int) :
    Inv1 w0 gc (cn.set k x) cards ad N cap (wr.setCell ⟨gc, k, none⟩ (.int .i64 x)) := by
  have hlo := h.lo
  refine ⟨h.bel.setCell (p := ⟨gc, k, none⟩) (by show w0.heap.size ≤ gc; omega) _, ?_, irows_set h.cnt k x, h.crd.setBelow _ (by show gc < gc + 1; omega) _, h.len, h.lo⟩
  have hb : Below gc wr (wr.setCell ⟨gc, k, none⟩ (.int .i64 x)) := (Below.refl _ _).setCell (p := ⟨gc, k, none⟩) (Nat.le_refl _) _
  exact h.two.below hb hlo
theorem Inv1.step {w0 : World} {gc : Nat} {cn : List Int} {cards : List Cd} {ad : Option Addr} {N cap : Nat} {wr w' : World} (h : Inv1 w0 gc cn cards ad N cap wr) (hb : Below wr.heap.size wr w') : Inv1 w0 gc cn cards ad N cap w' := by
  have hg := h.cnt.lt
  have hlo := h.lo
  exact ⟨h.bel.trans (hb.mono h.bel.size), h.two.below hb (by omega), h.cnt.below hb hg, h.crd.keep hb, h.len, h.lo⟩

theorem Two.set0 {w : World} {B : Nat} {x y z : Value} (h : Two w B x y z) (v : Value) : Two (w.setCell ⟨B + 1, 0, none⟩ v) B v y z := by
  obtain ⟨⟨u0, r0⟩, ⟨u1, r1⟩, ⟨u2, r2⟩, rf, c0, c1, c2, cf⟩ := h
  exact ⟨⟨u0, by rw [World.cell?_setCell_far _ _ _ _ (by simp)]; exact r0⟩, ⟨u1, by rw [World.cell?_setCell_far _ _ _ _ (by simp)]; exact r1⟩, ⟨u2, by rw [World.cell?_setCell_far _ _ _ _ (by simp)]; exact r2⟩, fun j => by rw [World.frozen?_setCell]; exact rf j,
    by simp [go_sem, c0], by simp [go_sem, c1], by simp [go_sem, c2], fun j => by rw [World.frozen?_setCell]; exact cf j⟩
theorem Two.set1 {w : World} {B : Nat} {x y z : Value} (h : Two w B x y z) (v : Value) : Two (w.setCell ⟨B + 1, 1, none⟩ v) B x v z := by
  obtain ⟨⟨u0, r0⟩, ⟨u1, r1⟩, ⟨u2, r2⟩, rf, c0, c1, c2, cf⟩ := h
  exact ⟨⟨u0, by rw [World.cell?_setCell_far _ _ _ _ (by simp)]; exact r0⟩, ⟨u1, by rw [World.cell?_setCell_far _ _ _ _ (by simp)]; exact r1⟩, ⟨u2, by rw [World.cell?_setCell_far _ _ _ _ (by simp)]; exact r2⟩, fun j => by rw [World.frozen?_setCell]; exact rf j,
    by simp [go_sem, c0], by simp [go_sem, c1], by simp [go_sem, c2], fun j => by rw [World.frozen?_setCell]; exact cf j⟩
theorem Two.set2 {w : World} {B : Nat} {x y z : Value} (h : Two w B x y z) (v : Value) : Two (w.setCell ⟨B + 1, 2, none⟩ v) B x y v := by
  obtain ⟨⟨u0, r0⟩, ⟨u1, r1⟩, ⟨u2, r2⟩, rf, c0, c1, c2, cf⟩ := h
  exact ⟨⟨u0, by rw [World.cell?_setCell_far _ _ _ _ (by simp)]; exact r0⟩, ⟨u1, by rw [World.cell?_setCell_far _ _ _ _ (by simp)]; exact r1⟩, ⟨u2, by rw [World.cell?_setCell_far _ _ _ _ (by simp)]; exact r2⟩, fun j => by rw [World.frozen?_setCell]; exact rf j,
    by simp [go_sem, c0], by simp [go_sem, c1], by simp [go_sem, c2], fun j => by rw [World.frozen?_setCell]; exact cf j⟩

/-- The cards turned. -/
theorem Inv1.place {w0 : World} {gc : Nat} {cn : List Int} {cards cards' : List Cd} {ad ad' : Option Addr} {N N' cap cap' : Nat} {wr w' : World} (h : Inv1 w0 gc cn cards ad N cap wr) (hb : Below wr.heap.size wr w')
    (hv : Vec w' wr.heap.size 68 5 ad' N' cap' (ccells cards')) (hl : cards'.length = N') : Inv1 w0 gc cn cards' ad' N' cap' (w'.setCell ⟨w0.heap.size + 1, 1, none⟩ (.slice ad' N' cap')) := by
  have hlo := h.lo
  have hg := h.cnt.lt
  have h2 := h.step hb
  exact ⟨h2.bel.setCell (p := ⟨w0.heap.size + 1, 1, none⟩) (by simp) _, h2.two.set1 _, h2.cnt.setOther _ (by show w0.heap.size + 1 ≠ gc; omega) _, (hv.mono (by omega)).setBelow _ (by show w0.heap.size + 1 < gc + 1; omega) _, hl, hlo⟩

/-- What the later loops keep: ws the world at the first one's end. -/
structure Inv (w0 ws : World) (gc : Nat) (x y z : Value) (wr : World) : Prop where
  bel : Below w0.heap.size w0 wr
  two : Two wr w0.heap.size x y z
  mid : ∀ k, gc ≤ k → k < ws.heap.size → wr.heap[k]? = ws.heap[k]?
  lo : w0.heap.size + 2 ≤ gc
  hi : gc < ws.heap.size
  sz : ws.heap.size ≤ wr.heap.size
theorem Inv.start {w0 : World} {gc : Nat} {x y z : Value} {ws : World} (h1 : Below w0.heap.size w0 ws) (h2 : Two ws w0.heap.size x y z) (h3 : w0.heap.size + 2 ≤ gc) (h4 : gc < ws.heap.size) : Inv w0 ws gc x y z ws :=
  ⟨h1, h2, fun _ _ _ => rfl, h3, h4, Nat.le_refl _⟩
theorem Inv.step {w0 ws : World} {gc : Nat} {x y z : Value} {wr w' : World} (h : Inv w0 ws gc x y z wr) (hb : Below ws.heap.size wr w') : Inv w0 ws gc x y z w' := by
  have h1 := h.bel.size
  have h2 := h.hi
  have h3 := h.lo
  exact ⟨h.bel.trans (hb.mono (by omega)), h.two.below hb (by omega), fun k a b => (hb.block k b).trans (h.mid k a b), h.lo, h.hi, Nat.le_trans h.sz hb.size⟩
theorem Inv.set0 {w0 ws : World} {gc : Nat} {x y z : Value} {wr : World} (h : Inv w0 ws gc x y z wr) (v : Value) : Inv w0 ws gc v y z (wr.setCell ⟨w0.heap.size + 1, 0, none⟩ v) := by
  have h3 := h.lo
  exact ⟨h.bel.setCell (p := ⟨w0.heap.size + 1, 0, none⟩) (by simp) _, h.two.set0 _, fun k a b => (Below.heap_setCell _ _ _ _ (by show k ≠ w0.heap.size + 1; omega)).trans (h.mid k a b), h3, h.hi, by simpa [World.setCell] using h.sz⟩
theorem Inv.set2 {w0 ws : World} {gc : Nat} {x y z : Value} {wr : World} (h : Inv w0 ws gc x y z wr) (v : Value) : Inv w0 ws gc x y v (wr.setCell ⟨w0.heap.size + 1, 2, none⟩ v) := by
  have h3 := h.lo
  exact ⟨h.bel.setCell (p := ⟨w0.heap.size + 1, 2, none⟩) (by simp) _, h.two.set2 _, fun k a b => (Below.heap_setCell _ _ _ _ (by show k ≠ w0.heap.size + 1; omega)).trans (h.mid k a b), h3, h.hi, by simpa [World.setCell] using h.sz⟩
theorem Inv.vec {w0 ws : World} {gc : Nat} {x y z : Value} {wr : World} (h : Inv w0 ws gc x y z wr) {B e m : Nat} {ad : Option Addr} {n cap : Nat} {xs : List Value} (hv : Vec ws B e m ad n cap xs) (hB : gc ≤ B) : Vec wr B e m ad n cap xs := by
  refine ⟨hv.1, ?_⟩
  rcases hv.2 with h2 | ⟨g, c, cur, hv, hb, hg, r⟩
  · exact Or.inl h2
  · exact Or.inr ⟨g, c, cur, hv, hb, by rw [h.mid g (by omega) (Array.getElem?_eq_some_iff.1 hg).1]; exact hg, r⟩
theorem Inv.own {w0 ws : World} {gc : Nat} {x y z : Value} {wr : World} (h : Inv w0 ws gc x y z wr) {e m : Nat} {rows : List (List Value)} (hv : Own ws gc e m rows) : Own wr gc e m rows :=
  ⟨hv.even, by rw [h.mid gc (Nat.le_refl _) hv.lt]; exact hv.block⟩

/-- A card in a block of its own. -/
structure CardAt (w : World) (g : Nat) (i s c : Int) (b : Bool) (t : ByteArray) : Prop where
  c0 : w.cell? ⟨g, 0, none⟩ = some (.int .i64 i)
  c1 : w.cell? ⟨g, 1, none⟩ = some (.int .i64 s)
  c2 : w.cell? ⟨g, 2, none⟩ = some (.int .i64 c)
  c3 : w.cell? ⟨g, 3, none⟩ = some (.bool b)
  c4 : w.cell? ⟨g, 4, none⟩ = some (.string t)
  cf : ∀ j, w.frozen? ⟨g, j, none⟩ = false

theorem cardAt_of {w : World} {g : Nat} {i s c : Int} {b : Bool} {t : ByteArray} (h : w.heap[g]? = some (.cells #[.int .i64 i, .int .i64 s, .int .i64 c, .bool b, .string t] 68)) : CardAt w g i s c b t := by
  refine ⟨?_, ?_, ?_, ?_, ?_, fun j => ?_⟩ <;> simp [World.cell?, World.frozen?, h]

theorem heap_new3 (W : World) (o1 o2 x : Obj) : (((W.alloc o1).alloc o2).alloc x).drew.heap[W.heap.size + 1 + 1]? = some x := by
  show (((W.heap.push o1).push o2).push x)[W.heap.size + 1 + 1]? = _
  rw [Array.getElem?_push, if_pos (by simp)]
theorem heap_new2 (W : World) (o1 o2 x : Obj) : (((W.alloc o1).alloc x).alloc o2).drew.heap[W.heap.size + 1]? = some x := by
  show (((W.heap.push o1).push x).push o2)[W.heap.size + 1]? = _
  rw [Array.getElem?_push, if_neg (by simp), Array.getElem?_push, if_pos (by simp)]
theorem heap_new1 (W : World) (o1 o2 x : Obj) : (((W.alloc x).alloc o1).alloc o2).drew.heap[W.heap.size]? = some x := by
  show (((W.heap.push x).push o1).push o2)[W.heap.size]? = _
  rw [Array.getElem?_push, if_neg (by simp <;> omega), Array.getElem?_push, if_neg (by simp), Array.getElem?_push, if_pos rfl]

theorem heap_newL (W : World) (o1 x : Obj) : ((W.alloc o1).alloc x).drew.heap[W.heap.size + 1]? = some x := by
  show ((W.heap.push o1).push x)[W.heap.size + 1]? = _
  rw [Array.getElem?_push, if_pos (by simp)]
theorem new_at {X : World} {N : Nat} {cs : List Value} {t : TypeId} (h : X.heap[N]? = some (.cells cs.toArray t)) : ∀ j u, cs[j]? = some u → X.cell? ((⟨N, 0, none⟩ : Addr).add j) = some u := by
  intro j u hj
  rw [addr_add]
  simp [World.cell?, h, hj]

theorem set3' (wr : World) (b : Nat) (x y z u0 u1 u2 : Value) (h0 : wr.cell? ⟨b, 0, none⟩ = some u0) (h1 : wr.cell? ⟨b, 1, none⟩ = some u1) (h2 : wr.cell? ⟨b, 2, none⟩ = some u2) :
    ∃ X, X = (((wr.setCell ⟨b, 0, none⟩ x).setCell ⟨b, 1, none⟩ y).setCell ⟨b, 2, none⟩ z) ∧ X.cell? ⟨b, 0, none⟩ = some x ∧ X.cell? ⟨b, 1, none⟩ = some y ∧ X.cell? ⟨b, 2, none⟩ = some z ∧
      (∀ w0, Below b w0 wr → Below b w0 X) ∧ (∀ B e m ad n cap xs, Vec wr B e m ad n cap xs → b < B → Vec X B e m ad n cap xs) := by
  refine ⟨_, rfl, ?_, ?_, ?_, fun w0 h => ?_, fun B e m ad n cap xs h hB => ?_⟩
  · simp [go_sem, h0]
  · simp [go_sem, h1]
  · simp [go_sem, h2]
  · exact ((h.setCell (p := ⟨b, 0, none⟩) (Nat.le_refl _) _).setCell (p := ⟨b, 1, none⟩) (Nat.le_refl _) _).setCell (p := ⟨b, 2, none⟩) (Nat.le_refl _) _
  · exact ((h.setBelow ⟨b, 0, none⟩ hB _).setBelow ⟨b, 1, none⟩ hB _).setBelow ⟨b, 2, none⟩ hB _
theorem has_of {X : World} {B : Nat} {a1 a2 a3 : Option Addr} {N1 N2 N3 c1 c2 c3 : Nat} {K : List Ck} {C : List Cd} {E : List Ed} (h1 : Vec X B 72 2 a1 N1 c1 (kcells K)) (h2 : Vec X B 68 5 a2 N2 c2 (ccells C)) (h3 : Vec X B 61 2 a3 N3 c3 (ecells E))
    (e1 : K.length = N1) (e2 : C.length = N2) (e3 : E.length = N3) (b1 : N1 ≤ 1000) (b2 : N2 ≤ 1000) (b3 : N3 ≤ 1000) : Has X (repOf K C E) a1 a2 a3 ∧ repV (repOf K C E) a1 a2 a3 c1 c2 c3 = .agg #[.slice a1 N1 c1, .slice a2 N2 c2, .slice a3 N3 c3] := by
  subst e1 e2 e3
  refine ⟨⟨kvec_lies h1 rfl, cvec_lies h2 rfl, evec_lies h3 rfl, ?_, ?_, ?_, ?_, ?_, ?_⟩, rfl⟩ <;> simp only [repOf] <;> omega

/-- The state's lists are the call's own. -/
structure StateVec (w : World) (B : Nat) (S : Seen) (ne : Nat) (ef : Nat → Wr) (a1 a2 a3 : Option Addr) (k1 k2 k3 : Nat) : Prop where
  v1 : Vec w B 72 2 a1 (stateR S ne ef).n1 k1 (kcells (clocksTo (runS S (min S.n 40)).1 8))
  v2 : Vec w B 68 5 a2 (stateR S ne ef).n2 k2 (ccells (runS S (min S.n 40)).2)
  v3 : Vec w B 61 2 a3 (stateR S ne ef).n3 k3 (ecells (editsTo ef (min ne 8)))

set_option maxRecDepth 100000 in
set_option maxHeartbeats 8000000 in
theorem state_own (S : Seen) (aw am ae : Option Addr) (cw cm ce ne : Nat) (ef : Nat → Wr) (w : World)
    (hW : Lies w aw S.n 4 (fun i => (S.w i).cells)) (hM : Lies w am S.m 1 (iCells S.f)) (hE : Lies w ae ne 4 (fun i => (ef i).cells))
    (kw : S.n ≤ cw) (kn : S.n ≤ 140737488355328) (_km : S.m ≤ 140737488355328) (ke : ne ≤ 140737488355328)
    (iw : ∀ i, i < S.n → I64 (S.w i).site ∧ I64 (S.w i).id) (im : ∀ i, i < S.m → I64 (S.f i)) (ie : ∀ i, i < ne → I64 (ef i).id) :
    Calls Try.prog 9 #[.slice aw S.n cw, .slice am S.m cm, .slice ae ne ce] w fun e w' =>
      ∃ a1 a2 a3 k1 k2 k3, e = .returned (repV (stateR S ne ef) a1 a2 a3 k1 k2 k3) ∧ Has w' (stateR S ne ef) a1 a2 a3 ∧ StateVec w' w.heap.size S ne ef a1 a2 a3 k1 k2 k3 ∧ Below w.heap.size w w' := by
  go_enter Try.func9, Try.ntmps9
  go_wp2_with fail
  refine (first_any aw S.n cw _ kw).mono ?_
  rintro e w1 ⟨rfl, rfl⟩
  have hlo : min S.n 40 ≤ 40 := by omega
  have hlo2 : min S.n 40 ≤ S.n := by omega
  have HR : Hid (∀ i, i < min S.n 40 → i < S.n) := fun i h => by omega
  generalize hNN : min S.n 40 = NN at *
  have HNN : Hid (min S.n 40 = NN) := hNN
  clear hNN
  go_wp2_with (first
    | (at_make; refine wpList_make_ones (by rfl) _ _ 23 (by rfl) 3 (.int .i64 0) 8 Try.underlying23 (by kernel_rfl) rfl 8 8 rfl (by rfl) (by rfl) ?_ ?_ ?_; (omega); (omega); intro gc ac w2 ec hgc hgl oc hbc))
  simp only [World.size_alloc] at hgc
  have hI0 : Inv1 w gc (runS S 0).1 (runS S 0).2 none 0 0 w2 := by
    refine ⟨?_, two_start w w2 hbc (by simp), ?_, Vec.nil _ _ _ _, rfl, by omega⟩
    · exact (((Below.refl _ w).alloc (Nat.le_refl _) _).alloc (by simp) _).trans (hbc.mono (by simp; omega))
    · exact oc
  clear hbc oc hgl hgc
  go_loopw [10, 11, 12, 13] (fun v _ _ _ wr => ∃ (i : Nat) (ad : Option Addr) (N cap : Nat), i ≤ NN ∧ v = .int .i64 i ∧ Inv1 w gc (runS S i).1 (runS S i).2 ad N cap wr) (fun v _ _ _ _ => NN - (intOf v).toNat)
  case atStart => exact ⟨0, none, 0, 0, Nat.zero_le _, rfl, hI0⟩
  case round =>
    clear hI0
    obtain ⟨i, ad, N, cap, hi, rfl, hI⟩ := hrel
    by_cases hlt : i < NN
    · have hiS := HR.out i hlt
      obtain ⟨b, o, hbl, hix, d0, d1, d2, d3⟩ := (hW.take NN hlo2).wr cw hlt
      have c0 := (hI.bel.cell (p := ⟨b, o, none⟩) hbl).trans d0
      obtain ⟨q1, q2⟩ := iw i hiS
      have hrun : runS S (i + 1) = stepS S (runS S i) (S.w i) := rfl
      have HRun : Hid (runS S (i + 1) = stepS S (runS S i) (S.w i)) := hrun
      have hcl := runS_length S i
      have hcb := runS_counts S i (siteIx (S.w i))
      have hcr := runS_cards S i
      clear hrun
      generalize runS S i = st at *
      generalize hx : S.w i = x at *
      have HX : Hid (S.w i = x) := hx
      clear hx
      have hkx := siteIx_lt x
      have hkp := siteIx_eq x
      have HKP : Hid (pickI x.site 8 = (siteIx x : Int)) := hkp
      clear hkp
      have hMr := hM.below hI.bel
      have xi := fun w' => Own.idx ec (P := Try.prog) (t := 23) (m := 1) 8 8 (by kernel_rfl) (by kernel_rfl) (k := siteIx x) hkx (siteIx x : Int) rfl w'
      obtain ⟨cc, cf⟩ := irows_at hI.cnt (siteIx x) (by rw [hcl]; exact hkx)
      go_wp2_with fail
      refine (pick_any _ 8 _ q1 (by decide) (by decide)).mono ?_
      rintro e w3 ⟨rfl, h3⟩
      obtain rfl := h3.symm
      rw [HKP.out]
      go_wp2_with fail
      refine (seen_any am S.m cm S.f (siteIx x) _ hMr im).mono ?_
      rintro e w4 ⟨rfl, h4⟩
      obtain rfl := h4.symm
      generalize hk : siteIx x = k at *
      have HK : Hid (siteIx x = k) := hk
      clear hk
      generalize hsn : seenI S.m S.f k = sn at *
      have HSN : Hid (seenI S.m S.f k = sn) := hsn
      clear hsn
      generalize hcv : st.1.getD k 0 = cv at *
      have HCV : Hid (st.1.getD k 0 = cv) := hcv
      clear hcv
      obtain ⟨hc0, hc1⟩ := hcb
      by_cases hge : sn ≤ cv
      · have hstep : stepS S st x = st := by unfold stepS; rw [HK.out, HSN.out, HCV.out, if_pos hge]
        have HST : Hid (runS S (i + 1) = st) := by show _ = _; rw [HRun.out, hstep]
        clear hstep
        go_wp2_with fail
        go_roundw
        case rel => exact ⟨i + 1, ad, N, cap, by omega, by go_num, by rw [HST.out]; exact hI⟩
        case measure => simp [intOf]; omega
      · have hI2 := hI.count k (cv + 1)
        have hstep : stepS S st x = (st.1.set k (cv + 1), placedL st.2 (cardOf x k (cv + 1))) := by unfold stepS; rw [HK.out, HSN.out, HCV.out, if_neg hge]
        have HST : Hid (runS S (i + 1) = (st.1.set k (cv + 1), placedL st.2 (cardOf x k (cv + 1)))) := by show _ = _; rw [HRun.out, hstep]
        clear hstep
        have HI2 : Hid (Inv1 w gc (st.1.set k (cv + 1)) st.2 ad N cap (wr.setCell ⟨gc, k, none⟩ (.int .i64 (cv + 1)))) := hI2
        clear hI2
        have hkl : k < (st.1.set k (cv + 1)).length := by rw [List.length_set, hcl]; exact hkx
        have hcnt : ∀ wX, Inv1 w gc (st.1.set k (cv + 1)) st.2 ad N cap wX → wX.cell? ⟨gc, k, none⟩ = some (.int .i64 (cv + 1)) := fun wX hX => by
          have := (irows_at hX.cnt k hkl).1
          rw [this]; simp [List.getD, hcl, hkx]
        have HCN : Hid (∀ wX, Inv1 w gc (st.1.set k (cv + 1)) st.2 ad N cap wX → wX.cell? ⟨gc, k, none⟩ = some (.int .i64 (cv + 1))) := hcnt
        clear hcnt
        go_upto_region 11 with fail
        generalize wr.setCell ⟨gc, k, none⟩ (.int .i64 (cv + 1)) = W at *
        clear c0 cc cf hI hMr
        have e1 := (HI2.out.bel.cell (p := ⟨b, o + 1, none⟩) hbl).trans d1
        have e2 := (HI2.out.bel.cell (p := ⟨b, o + 2, none⟩) hbl).trans d2
        have e3 := HCN.out _ HI2.out
        have hbW : b < W.heap.size := by have := HI2.out.bel.size; omega
        have hgW : gc < W.heap.size := HI2.out.cnt.lt
        have hsite : siteOf (k : Int) = siteL.getD k 0 := by
          unfold siteOf pickI; rw [if_neg (by omega)]
          congr 1; omega
        have HSI : Hid (siteOf (k : Int) = siteL.getD k 0) := hsite
        have ikk : I64 (k : Int) := ⟨by omega, by omega⟩
        clear hsite
        have HSof : Hid (∀ wX, Below W.heap.size W wX → wX.cell? ⟨b, o + 1, none⟩ = some (.int .i64 x.id) ∧ wX.cell? ⟨b, o + 2, none⟩ = some (.bool x.gone) ∧ wX.cell? ⟨gc, k, none⟩ = some (.int .i64 (cv + 1))) := fun wX hX =>
          ⟨(hX.cell (p := ⟨b, o + 1, none⟩) hbW).trans e1, (hX.cell (p := ⟨b, o + 2, none⟩) hbW).trans e2, (hX.cell (p := ⟨gc, k, none⟩) hgW).trans e3⟩
        go_cut [13] (fun v wx => ∃ g, v = .pointer (some ⟨g, 0, none⟩) ∧ W.heap.size ≤ g ∧ g < wx.heap.size ∧ Below W.heap.size W wx ∧ CardAt wx g (numOf x.id) (siteL.getD k 0) (cv + 1) x.gone ⟨#[]⟩)
        case first =>
          go_region_held3 (fun w' => w'.cell? ⟨b, o + 1, none⟩ = some (.int .i64 x.id) ∧ w'.cell? ⟨b, o + 2, none⟩ = some (.bool x.gone) ∧ w'.cell? ⟨gc, k, none⟩ = some (.int .i64 (cv + 1)))
            (first | (go_keep; done) | (refine HSof.out _ ?_; repeat (first | exact Below.refl _ _ | refine Below.drew ?_ | refine Below.alloc ?_ (by simp <;> omega) _ | refine Below.setCell ?_ (by simp <;> omega) _)))
            (first
              | (go_at_call 27; refine (number_keep _ _ q2).mono ?_; rintro e w' ⟨rfl, rfl⟩)
              | (go_at_call 28; refine (site_keep _ _ ikk).mono ?_; rintro e w' ⟨rfl, rfl⟩))
          all_goals go_wp2_with fail
          all_goals go_meet
          all_goals rw [← HSI.out]
          all_goals refine ⟨_, rfl, by omega, by simp <;> omega, ?_, ?_⟩
          all_goals first
            | ((repeat (first | exact Below.refl _ _ | refine Below.drew ?_ | refine Below.alloc ?_ (by simp <;> omega) _)); done)
            | (refine cardAt_of ?_; first | exact heap_new3 _ _ _ _ | exact heap_new2 _ _ _ _ | exact heap_new1 _ _ _ _)
        case rest =>
          obtain ⟨g, rfl, hg1, hg2, hbx, ⟨f0, f1, f2, f3, f4, ff⟩⟩ := hcut
          have hIx := HI2.out.step hbx
          have e4 := (hIx.bel.cell (p := ⟨b, o + 3, none⟩) hbl).trans d3
          have zg : gc < wc.heap.size := hIx.cnt.lt
          clear e1 e2 e3 HSof hbW
          generalize hsl : siteL.getD k 0 = sl at *
          have HSL : Hid (siteL.getD k 0 = sl) := hsl
          clear hsl
          have ff3 := ff 3
          have ff4 := ff 4
          have hr1 := hIx.two.c1
          by_cases hgone : x.gone = true
          · have hcd : cardOf x k (cv + 1) = ⟨numOf x.id, sl, cv + 1, true, ⟨#[]⟩⟩ := by unfold cardOf; rw [if_pos hgone, HSL.out, hgone]
            have HCD : Hid (cardOf x k (cv + 1) = ⟨numOf x.id, sl, cv + 1, true, ⟨#[]⟩⟩) := hcd
            clear hcd
            go_wp2_with fail
            rw [show (Value.agg #[.int .i64 (numOf x.id), .int .i64 sl, .int .i64 (cv + 1), .bool true, .string ⟨#[]⟩]) = cdV (cardOf x k (cv + 1)) by rw [HCD.out]]
            refine (placed_any st.2 (cardOf x k (cv + 1)) (gc + 1) ad N cap _ hIx.crd hIx.len (by have := hIx.len; omega)).mono ?_
            rintro e w5 ⟨ad', cap', N', rfl, hN', hv5, hb5⟩
            have hI5 := hIx.place hb5 hv5 hN'.symm
            have hr5 := (hIx.step hb5).two.c1
            have hf5 := (hIx.step hb5).two.cf 1
            clear hN'
            go_wp2_with fail
            go_roundw
            case rel => exact ⟨i + 1, ad', N', cap', by omega, by go_num, by rw [HST.out]; exact hI5⟩
            case measure => simp [intOf]; omega
          · have hgo : x.gone = false := by simpa using hgone
            have hcd : cardOf x k (cv + 1) = ⟨numOf x.id, sl, cv + 1, false, cutB x.text⟩ := by unfold cardOf; rw [if_neg hgone, HSL.out, hgo]
            have HCD : Hid (cardOf x k (cv + 1) = ⟨numOf x.id, sl, cv + 1, false, cutB x.text⟩) := hcd
            clear hcd
            go_wp2_with fail
            refine (cut_any x.text _).mono ?_
            rintro e w3 ⟨rfl, h3⟩
            obtain rfl := h3.symm
            generalize hct : cutB x.text = ct at *
            have hI3 := HI2.out.step (hbx.setCell (p := ⟨g, 4, none⟩) hg1 (.string ct))
            have hr3 := hI3.two.c1
            clear hIx hr1
            go_wp2_with fail
            rw [show (Value.agg #[.int .i64 (numOf x.id), .int .i64 sl, .int .i64 (cv + 1), .bool false, .string ct]) = cdV (cardOf x k (cv + 1)) by rw [HCD.out]]
            have hIx := hI3
            refine (placed_any st.2 (cardOf x k (cv + 1)) (gc + 1) ad N cap _ hIx.crd hIx.len (by have := hIx.len; omega)).mono ?_
            rintro e w5 ⟨ad', cap', N', rfl, hN', hv5, hb5⟩
            have hI5 := hIx.place hb5 hv5 hN'.symm
            have hr5 := (hIx.step hb5).two.c1
            have hf5 := (hIx.step hb5).two.cf 1
            clear hN'
            go_wp2_with fail
            go_roundw
            case rel => exact ⟨i + 1, ad', N', cap', by omega, by go_num, by rw [HST.out]; exact hI5⟩
            case measure => simp [intOf]; omega
    · obtain rfl : i = NN := by omega
      have hrun : runS S (min S.n 40) = runS S i := by rw [HNN.out]
      have HRun : Hid (runS S (min S.n 40) = runS S i) := hrun
      have hcl := runS_length S i
      have hcr := runS_cards S i
      have hcb := runS_counts S i
      clear hrun HNN HR
      generalize runS S i = st at *
      have hJ0 : Inv w wr gc (.slice none 0 0) (.slice ad N cap) (.slice none 0 0) wr := Inv.start hI.bel hI.two hI.lo hI.cnt.lt
      have HO : Hid (Own wr gc 3 1 (irows st.1)) := hI.cnt
      have HV : Hid (Vec wr (gc + 1) 68 5 ad N cap (ccells st.2)) := hI.crd
      have HL : Hid (st.2.length = N) := hI.len
      clear hI
      go_wp2_with fail
      rename World => ws
      go_loopw [14] (fun v wx => ∃ (k : Nat) (a1 : Option Addr) (N1 cap1 : Nat), k ≤ 8 ∧ v = .int .i64 k ∧ Inv w ws gc (.slice a1 N1 cap1) (.slice ad N cap) (.slice none 0 0) wx ∧ Vec wx ws.heap.size 72 2 a1 N1 cap1 (kcells (clocksTo st.1 k)) ∧ (clocksTo st.1 k).length = N1) (fun v _ => 8 - (intOf v).toNat)
      case atStart => exact ⟨0, none, 0, 0, Nat.zero_le _, rfl, hJ0, Vec.nil _ _ _ _, rfl⟩
      case round =>
        clear hJ0
        obtain ⟨k, a1, N1, cap1, hk, rfl, hJ, hV1, hL1⟩ := hrel
        have HL1 : Hid ((clocksTo st.1 k).length = N1) := hL1
        have hN1 : N1 ≤ k := by have := clocksTo_length st.1 k; omega
        clear hL1
        by_cases hlt : k < 8
        · obtain ⟨cc, cf⟩ := irows_at (hJ.own HO.out) k (by rw [hcl]; exact hlt)
          have xi := fun w' => Own.idx ec (P := Try.prog) (t := 23) (m := 1) 8 8 (by kernel_rfl) (by kernel_rfl) (k := k) hlt (k : Int) rfl w'
          have HC : Hid (clocksTo st.1 (k + 1) = clocksTo st.1 k ++ (if 0 < st.1.getD k 0 then [⟨siteL.getD k 0, st.1.getD k 0⟩] else [])) := rfl
          generalize hcv : st.1.getD k 0 = cv at *
          clear hcv
          by_cases hp : 0 < cv
          · have hC : clocksTo st.1 (k + 1) = clocksTo st.1 k ++ [⟨siteL.getD k 0, cv⟩] := by rw [HC.out, if_pos hp]
            have HC : Hid (clocksTo st.1 (k + 1) = clocksTo st.1 k ++ [⟨siteL.getD k 0, cv⟩]) := hC
            clear hC
            have hsite : siteOf (k : Int) = siteL.getD k 0 := by
              unfold siteOf pickI; rw [if_neg (by omega)]
              congr 1; omega
            have HSI : Hid (siteOf (k : Int) = siteL.getD k 0) := hsite
            clear hsite
            have ikk : I64 (k : Int) := ⟨by omega, by omega⟩
            go_upto_region 19 with fail
            rename World => W
            have hr0 := hJ.two.c0
            have hrf := hJ.two.cf 0
            have hBW : w.heap.size + 1 < W.heap.size := by have := hJ.sz; have := hJ.hi; have := hJ.lo; omega
            have hgW : gc < W.heap.size := by have := hJ.sz; have := hJ.hi; omega
            have hsz := hJ.sz
            have hgl := hJ.lo
            have HSof : Hid (∀ wX, Below ws.heap.size W wX → wX.cell? ⟨gc, k, none⟩ = some (.int .i64 cv)) := fun wX hX => (hX.cell (p := ⟨gc, k, none⟩) hJ.hi).trans cc
            have hr0a : ∀ o, (W.alloc o).cell? ⟨w.heap.size + 1, 0, none⟩ = some (.slice a1 N1 cap1) := fun o => (((Below.refl _ W).alloc (Nat.le_refl _) o).cell (p := ⟨w.heap.size + 1, 0, none⟩) hBW).trans hr0
            have hr0b : ∀ o o', ((W.alloc o).alloc o').cell? ⟨w.heap.size + 1, 0, none⟩ = some (.slice a1 N1 cap1) := fun o o' => ((((Below.refl _ W).alloc (Nat.le_refl _) o).alloc (by simp) o').cell (p := ⟨w.heap.size + 1, 0, none⟩) hBW).trans hr0
            have HV1 : Hid (∀ wX, Below W.heap.size W wX → Vec wX ws.heap.size 72 2 a1 N1 cap1 (kcells (clocksTo st.1 k))) := fun wX hX => hV1.keep hX
            clear hV1
            have hc0a : ∀ o, (W.alloc o).cell? ⟨gc, k, none⟩ = some (.int .i64 cv) := fun o => HSof.out _ ((Below.refl _ W).alloc (by omega) o)
            go_region_law
              (first
                | (go_simp; go_at_call 28; refine (site_keep _ _ ikk).mono ?_; rintro e w' ⟨rfl, rfl⟩; dsimp only)
                | (refine step_push (by rfl) _ _ 24 (by rfl) ws.heap.size 72 2 16 (.agg #[.int .i64 0, .int .i64 0]) Try.underlying24 (by kernel_rfl) rfl (by decide) a1 N1 cap1 _ (by rfl) (HV1.out _ ?_) _ _ [.int .i64 (siteOf (k : Int)), .int .i64 cv] (by rfl) rfl ?_ ?_ ?_ ?_ ?_ ?_; (repeat (first | exact Below.refl _ _ | refine Below.drew ?_ | refine Below.alloc ?_ (by first | omega | (simp; done) | (simp; omega)) _)); (exact new_at (heap_newL _ _ _)); (intro v h; simp at h; rcases h with rfl | rfl <;> rfl); (omega); (omega); (simp; omega); intro a2 cap2 w6 hv6 hb6' hs6; have hb6 : Below ws.heap.size W w6 := Below.trans (by repeat (first | exact Below.refl _ _ | refine Below.drew ?_ | refine Below.alloc ?_ (by first | omega | (simp; done) | (simp; omega)) _)) hb6'; have hf6 := (hJ.step hb6).two.cf 0; have hr6 := (hJ.step hb6).two.c0))
            all_goals
              have hJ6 := (hJ.step hb6).set0 (.slice a2 (N1 + 1) cap2)
              have hv7 := hv6.setBelow ⟨w.heap.size + 1, 0, none⟩ (by show w.heap.size + 1 < ws.heap.size; have := hJ.hi; omega) (.slice a2 (N1 + 1) cap2)
              go_wp2_with fail
              go_roundw
              case rel => exact ⟨k + 1, a2, N1 + 1, cap2, by omega, by go_num, hJ6, by rw [HC.out, kcells_append, ← HSI.out]; exact hv7, by rw [HC.out, List.length_append, HL1.out]; rfl⟩
              case measure => simp [intOf]; omega
          · have hC : clocksTo st.1 (k + 1) = clocksTo st.1 k := by rw [HC.out, if_neg hp, List.append_nil]
            have HC : Hid (clocksTo st.1 (k + 1) = clocksTo st.1 k) := hC
            clear hC
            go_wp2_with fail
            go_roundw
            case rel => exact ⟨k + 1, a1, N1, cap1, by omega, by go_num, hJ, by rw [HC.out]; exact hV1, by rw [HC.out]; exact HL1.out⟩
            case measure => simp [intOf]; omega
        · obtain rfl : k = 8 := by omega
          have hZ0 : ∀ wX, wX = wr → Inv w wX gc (.slice a1 N1 cap1) (.slice ad N cap) (.slice none 0 0) wX := fun wX e => by
            subst e; exact Inv.start hJ.bel hJ.two hJ.lo (by have := hJ.hi; have := hJ.sz; omega)
          have hZ := hZ0 wr rfl
          have HW1 : Hid (Vec wr (gc + 1) 72 2 a1 N1 cap1 (kcells (clocksTo st.1 8))) := hV1.mono hJ.hi
          have HW2 : Hid (Vec wr (gc + 1) 68 5 ad N cap (ccells st.2)) := hJ.vec HV.out (by omega)
          clear hJ hV1 hZ0 HV HO
          go_wp2_with fail
          rename World => ws3
          go_loopw [15] (fun v wx => ∃ (k : Nat) (a3 : Option Addr) (cap3 : Nat), k ≤ ne ∧ k ≤ 8 ∧ v = .int .i64 k ∧ Inv w ws3 gc (.slice a1 N1 cap1) (.slice ad N cap) (.slice a3 k cap3) wx ∧ Vec wx ws3.heap.size 61 2 a3 k cap3 (ecells (editsTo ef k))) (fun v _ => 8 - (intOf v).toNat)
          case atStart => exact ⟨0, none, 0, Nat.zero_le _, Nat.zero_le _, rfl, hZ, Vec.nil _ _ _ _⟩
          case round =>
            clear hZ
            obtain ⟨k, a3, cap3, hk, hk8, rfl, hJ, hV3⟩ := hrel
            by_cases hlt : k < ne ∧ k < 8
            · obtain ⟨hl1, hl2⟩ := hlt
              obtain ⟨b, o, hbl, hix, d0, d1, d2, d3⟩ := hE.wr ce hl1
              have q2 := ie k hl1
              have HC : Hid (editsTo ef (k + 1) = editsTo ef k ++ [⟨numOf (ef k).id, cutB (ef k).text⟩]) := editsTo_succ ef k
              generalize hx : ef k = x at *
              clear hx
              go_upto_region 23 with fail
              rename World => W
              have hr0 := hJ.two.c2
              have hrf := hJ.two.cf 2
              have hsz := hJ.sz
              have hgl := hJ.lo
              have hgh := hJ.hi
              have hBW : w.heap.size + 1 < W.heap.size := by omega
              have hbW : b < W.heap.size := by omega
              have e1 := (hJ.bel.cell (p := ⟨b, o + 1, none⟩) hbl).trans d1
              have e3 := (hJ.bel.cell (p := ⟨b, o + 3, none⟩) hbl).trans d3
              have HSof : Hid (∀ wX, Below ws3.heap.size W wX → wX.cell? ⟨b, o + 1, none⟩ = some (.int .i64 x.id) ∧ wX.cell? ⟨b, o + 3, none⟩ = some (.string x.text)) := fun wX hX => ⟨(hX.cell (p := ⟨b, o + 1, none⟩) (by show b < _; omega)).trans e1, (hX.cell (p := ⟨b, o + 3, none⟩) (by show b < _; omega)).trans e3⟩
              have hr0a : ∀ o, (W.alloc o).cell? ⟨w.heap.size + 1, 2, none⟩ = some (.slice a3 k cap3) := fun o => (((Below.refl _ W).alloc (Nat.le_refl _) o).cell (p := ⟨w.heap.size + 1, 2, none⟩) hBW).trans hr0
              have hr0b : ∀ o o', ((W.alloc o).alloc o').cell? ⟨w.heap.size + 1, 2, none⟩ = some (.slice a3 k cap3) := fun o o' => ((((Below.refl _ W).alloc (Nat.le_refl _) o).alloc (by simp) o').cell (p := ⟨w.heap.size + 1, 2, none⟩) hBW).trans hr0
              have HV1 : Hid (∀ wX, Below W.heap.size W wX → Vec wX ws3.heap.size 61 2 a3 k cap3 (ecells (editsTo ef k))) := fun wX hX => hV3.keep hX
              clear hV3 d0 d1 d2 d3
              generalize hct : cutB x.text = ct at *
              have HCT : Hid (cutB x.text = ct) := hct
              clear hct
              have hc0a : ∀ o', (W.alloc o').cell? ⟨b, o + 1, none⟩ = some (.int .i64 x.id) := fun o' => (HSof.out _ ((Below.refl _ W).alloc (by omega) o')).1
              have hc0b : ∀ o', (W.alloc o').cell? ⟨b, o + 3, none⟩ = some (.string x.text) := fun o' => (HSof.out _ ((Below.refl _ W).alloc (by omega) o')).2
              go_region_law
                (first
                  | (go_simp; go_at_call 27; refine (number_keep _ _ q2).mono ?_; rintro e w' ⟨rfl, rfl⟩; dsimp only)
                  | (go_simp; go_at_call 29; refine (cut_any x.text _).mono ?_; rintro e w' ⟨rfl, rfl⟩; rw [HCT.out]; dsimp only)
                  | (refine step_push (by rfl) _ _ 26 (by rfl) ws3.heap.size 61 2 24 (.agg #[.int .i64 0, .string ⟨#[]⟩]) Try.underlying26 (by kernel_rfl) rfl (by decide) a3 k cap3 _ (by rfl) (HV1.out _ ?_) _ _ [.int .i64 (numOf x.id), .string ct] (by rfl) rfl ?_ ?_ ?_ ?_ ?_ ?_; (repeat (first | exact Below.refl _ _ | refine Below.drew ?_ | refine Below.alloc ?_ (by first | omega | (simp; done) | (simp; omega)) _)); (exact new_at (heap_newL _ _ _)); (intro v h; simp at h; rcases h with rfl | rfl <;> rfl); (omega); (omega); (simp; omega); intro a2 cap2 w6 hv6 hb6' hs6; have hb6 : Below ws3.heap.size W w6 := Below.trans (by repeat (first | exact Below.refl _ _ | refine Below.drew ?_ | refine Below.alloc ?_ (by first | omega | (simp; done) | (simp; omega)) _)) hb6'; have hf6 := (hJ.step hb6).two.cf 2; have hr6 := (hJ.step hb6).two.c2))
              all_goals
                have hJ6 := (hJ.step hb6).set2 (.slice a2 (k + 1) cap2)
                have hv7 := hv6.setBelow ⟨w.heap.size + 1, 2, none⟩ (by show w.heap.size + 1 < ws3.heap.size; have := hJ.hi; omega) (.slice a2 (k + 1) cap2)
                go_wp2_with fail
                go_roundw
                case rel => (repeat apply Exists.intro); exact ⟨⟨k + 1, a2, cap2, by omega, by omega, by go_num, hJ6, by rw [HC.out, ecells_append]; exact hv7⟩, rfl⟩
                case measure => simp [intOf]; omega
            · have HKK : Hid (min ne 8 = k) := by show _ = _; omega
              have hd : k < 8 → ¬ k < ne := by omega
              obtain ⟨⟨v0, r0⟩, ⟨v1, r1⟩, ⟨v2, r2⟩, rf, c0, c1, c2, cf⟩ := hJ.two
              have rf0 := rf 0; have rf1 := rf 1; have rf2 := rf 2
              obtain ⟨X, hX, x0, x1, x2, xb, xv⟩ := set3' wr w.heap.size (.slice a1 N1 cap1) (.slice ad N cap) (.slice a3 k cap3) _ _ _ r0 r1 r2
              have HX : Hid (X = (((wr.setCell ⟨w.heap.size, 0, none⟩ (.slice a1 N1 cap1)).setCell ⟨w.heap.size, 1, none⟩ (.slice ad N cap)).setCell ⟨w.heap.size, 2, none⟩ (.slice a3 k cap3))) := hX
              clear hX
              have hlo1 : w.heap.size < gc + 1 := by have := hJ.lo; omega
              have H1 := xv _ _ _ _ _ _ _ (hJ.vec HW1.out (by omega)) hlo1
              have H2 := xv _ _ _ _ _ _ _ (hJ.vec HW2.out (by omega)) hlo1
              have H3 := xv _ _ _ _ _ _ _ (hV3.mono (show gc + 1 ≤ _ from hJ.hi)) hlo1
              have HB : Hid (Below w.heap.size w X) := xb _ hJ.bel
              obtain ⟨hH, hR⟩ := has_of H1 H2 H3 HL1.out HL.out (by simp [editsTo]) (by omega) (by have := HL.out; omega) (by omega)
              have hS : stateR S ne ef = repOf (clocksTo st.1 8) st.2 (editsTo ef k) := by unfold stateR; rw [HRun.out, HKK.out]
              have HH : Hid (Has X (stateR S ne ef) a1 ad a3) := by show Has _ _ _ _ _; rw [hS]; exact hH
              have HR2 : Hid (repV (stateR S ne ef) a1 ad a3 cap1 cap cap3 = .agg #[.slice a1 N1 cap1, .slice ad N cap, .slice a3 k cap3]) := by show _ = _; rw [hS]; exact hR
              have HSV : Hid (StateVec X w.heap.size S ne ef a1 ad a3 cap1 cap cap3) := by
                have e1 : (stateR S ne ef).n1 = N1 := by rw [hS]; exact HL1.out
                have e2 : (stateR S ne ef).n2 = N := by rw [hS]; exact HL.out
                have e3 : (stateR S ne ef).n3 = k := by rw [hS]; simp [repOf, editsTo]
                refine ⟨?_, ?_, ?_⟩
                · rw [e1, HRun.out]; exact H1.mono (by omega)
                · rw [e2, HRun.out]; exact H2.mono (by omega)
                · rw [e3, HKK.out]; exact H3.mono (by omega)
              clear hH hR hS H1 H2 H3 xb xv hV3 HW1 HW2 hJ
              by_cases hlt8 : k < 8
              · have hkn := hd hlt8
                clear hd hlt
                go_wp2_with fail
                rw [← HX.out]
                refine bodyPost_ret (v := .agg #[.slice a1 N1 cap1, .slice ad N cap, .slice a3 k cap3]) ?_ rfl ⟨a1, ad, a3, cap1, cap, cap3, by rw [HR2.out], HH.out, HSV.out, HB.out⟩
                simp [results, Try.results9, go_sem, x0, x1, x2]
              · clear hd hlt
                go_wp2_with fail
                all_goals
                  rw [← HX.out]
                  refine bodyPost_ret (v := .agg #[.slice a1 N1 cap1, .slice ad N cap, .slice a3 k cap3]) ?_ rfl ⟨a1, ad, a3, cap1, cap, cap3, by rw [HR2.out], HH.out, HSV.out, HB.out⟩
                  simp [results, Try.results9, go_sem, x0, x1, x2]

theorem state_any (S : Seen) (aw am ae : Option Addr) (cw cm ce ne : Nat) (ef : Nat → Wr) (w : World)
    (hW : Lies w aw S.n 4 (fun i => (S.w i).cells)) (hM : Lies w am S.m 1 (iCells S.f)) (hE : Lies w ae ne 4 (fun i => (ef i).cells))
    (kw : S.n ≤ cw) (kn : S.n ≤ 140737488355328) (km : S.m ≤ 140737488355328) (ke : ne ≤ 140737488355328)
    (iw : ∀ i, i < S.n → I64 (S.w i).site ∧ I64 (S.w i).id) (im : ∀ i, i < S.m → I64 (S.f i)) (ie : ∀ i, i < ne → I64 (ef i).id) :
    Calls Try.prog 9 #[.slice aw S.n cw, .slice am S.m cm, .slice ae ne ce] w fun e w' =>
      ∃ a1 a2 a3 k1 k2 k3, e = .returned (repV (stateR S ne ef) a1 a2 a3 k1 k2 k3) ∧ Has w' (stateR S ne ef) a1 a2 a3 ∧ Below w.heap.size w w' :=
  (state_own S aw am ae cw cm ce ne ef w hW hM hE kw kn km ke iw im ie).mono fun _ _ ⟨a1, a2, a3, k1, k2, k3, h1, h2, _, h4⟩ => ⟨a1, a2, a3, k1, k2, k3, h1, h2, h4⟩
end Go.Proofs.Ytdjpkgaicmklmab

/- parcelkeep's both and most: walked. -/
namespace Go.Proofs.Ytdjpkgaicmklmab
open Go.RowKit

set_option maxRecDepth 100000 in
set_option maxHeartbeats 4000000 in
theorem kboth_any (EA EB : List Ed) (a b : Option Addr) (n m ca cb : Nat) (w : World) (hA : Lies w a n 2 (fun i => (EA.getD i ed0).cells)) (hB : Lies w b m 2 (fun i => (EB.getD i ed0).cells)) (hn : n = EA.length) (hm : m = EB.length) (hn2 : n ≤ 1000) (hm2 : m ≤ 1000) :
    Calls Try.prog 22 #[.slice a n ca, .slice b m cb] w fun e w' => ∃ ad cap N, e = .returned (.slice ad N cap) ∧ N = (bothE EA EB).length ∧ Vec w' w.heap.size 61 2 ad N cap (ecells (bothE EA EB)) ∧ Below w.heap.size w w' := by
  have HN : Hid (n = EA.length) := hn
  have HM : Hid (m = EB.length) := hm
  have HA : Hid (Lies w a n 2 (fun i => (EA.getD i ed0).cells)) := hA
  have HB : Hid (Lies w b m 2 (fun i => (EB.getD i ed0).cells)) := hB
  clear hn hm hA hB
  go_enter Try.func22, Try.ntmps22
  go_wp2_with (at_builtin; refine wpList_pushAll (by rfl) _ _ 26 (by rfl) w.heap.size 61 2 24 (.agg #[.int .i64 0, .string ⟨#[]⟩]) Try.underlying26 (by kernel_rfl) rfl (by decide) none 0 0 [] (by rfl) (Vec.nil _ _ _ _) a n ca (fun i => (EA.getD i ed0).cells) (by rfl) HA.out (fun _ _ => rfl) (fun j _ => ones_ed _) ?_ ?_ ?_ n ?_ ?_; (omega); (omega); (exact Nat.le_refl _); (omega); intro ad1 cap1 w1 hv1 hb1 hs1)
  rw [List.nil_append, HN.out, range_ecells, ← HN.out] at hv1
  have HV1 : Hid (Vec w1 w.heap.size 61 2 ad1 n cap1 (ecells EA)) := hv1
  have HB1 : Hid (Below w.heap.size w w1) := hb1
  clear hv1 hb1 hs1
  go_loopw [5, 6, 7, 8] (fun v u _ _ wr => ∃ (i : Nat) (ad : Option Addr) (cap N : Nat), i ≤ m ∧ u = .int .i64 i ∧ v = .slice ad N cap ∧ N = (bothE EA (EB.take i)).length ∧ N ≤ 2000 ∧ Vec wr w.heap.size 61 2 ad N cap (ecells (bothE EA (EB.take i))) ∧ Below w.heap.size w wr) (fun _ u _ _ _ => m - (intOf u).toNat)
  case atStart => exact ⟨0, ad1, cap1, n, by omega, rfl, rfl, by simpa [bothE] using HN.out, by omega, by simpa [bothE] using HV1.out, HB1.out⟩
  case round =>
    obtain ⟨i, ad, cap, N, hi, rfl, rfl, hN, hN2, hv, hbw⟩ := hrel
    have HNN : Hid (N = (bothE EA (EB.take i)).length) := hN
    have HNB : Hid (N ≤ n + m) := by show _ ≤ _; have := both_len (EB.take i) EA; rw [hN, HN.out, HM.out]; simp at this; omega
    clear hN
    by_cases hlt : i < m
    · have hil : i < EB.length := by rw [← HM.out]; exact hlt
      have HT : Hid (bothE EA (EB.take (i + 1)) = if EB.getD i ed0 ∈ bothE EA (EB.take i) then bothE EA (EB.take i) else bothE EA (EB.take i) ++ [EB.getD i ed0]) := by
        show _ = _; rw [take_edit EB i hil, both_snoc]
      obtain ⟨bb, ob, hblb, hixb, e0, e1⟩ := Lies.edit (c := fun i => EB.getD i ed0) (HB.out.below hbw) cb hlt
      have HLV : Hid (Lies wr ad N 2 (fun i => ((bothE EA (EB.take i)).getD i ed0).cells) ∨ True) := Or.inr trivial
      generalize hL : bothE EA (EB.take i) = L at *
      have HL : Hid (Lies wr ad N 2 (fun k => (L.getD k ed0).cells)) := evec_lies hv HNN.out.symm
      generalize EB.getD i ed0 = ee at *
      clear hL HLV hil
      have HV5 : Hid (Vec wr w.heap.size 61 2 ad N cap (ecells L)) := hv
      have HBW : Hid (Below w.heap.size w wr) := hbw
      clear hv hbw
      generalize hwr : wr = w5 at *
      clear hwr
      go_wp2_with fail
      go_loopw [7, 8] (fun t u w2 => ∃ (k : Nat), k ≤ N ∧ u = .int .i64 k ∧ t = .bool (decide (ee ∈ L.take k)) ∧ Below w5.heap.size w5 w2) (fun _ u _ => N - (intOf u).toNat)
      case atStart => exact ⟨0, by omega, rfl, by simp, Below.refl _ _⟩
      case round =>
        obtain ⟨k, hk, rfl, rfl, hb2⟩ := hrel
        have f0 : wr.cell? ⟨bb, ob, none⟩ = some (.int .i64 ee.id) := (hb2.cell (p := ⟨bb, ob, none⟩) hblb).trans e0
        have f1 : wr.cell? ⟨bb, ob + 1, none⟩ = some (.string ee.text) := (hb2.cell (p := ⟨bb, ob + 1, none⟩) hblb).trans e1
        by_cases hlt2 : k < N
        · have hkl : k < L.length := by rw [← HNN.out]; exact hlt2
          have HTK : Hid (L.take (k + 1) = L.take k ++ [L.getD k ed0]) := take_edit L k hkl
          obtain ⟨bo, oo, hblo, hixo, g0, g1⟩ := Lies.edit (c := fun i => L.getD i ed0) (HL.out.below hb2) cap hlt2
          clear hkl
          generalize L.getD k ed0 = le at *
          cases hth : decide (ee ∈ L.take k) with
          | true =>
            have HD : Hid (decide (ee ∈ L.take (k + 1)) = true) := by
              have h : ee ∈ L.take k := of_decide_eq_true hth
              show _ = _; rw [HTK.out]; simp [h]
            clear hth
            go_wp2_with fail
            go_quiet (fail)
            go_wp2_with fail
            go_roundw
            case rel => exact ⟨k + 1, by omega, by go_num, by rw [HD.out], below_drewN hb2 _⟩
            case measure => simp [intOf]; omega
          | false =>
            have hno : ¬ ee ∈ L.take k := of_decide_eq_false hth
            by_cases heq : le = ee
            · have HD : Hid (decide (ee ∈ L.take (k + 1)) = true) := by show _ = _; rw [HTK.out, heq]; simp
              rw [heq] at g0 g1
              clear hth hno heq
              go_wp2_with fail
              go_quiet (fail)
              go_wp2_with fail
              go_roundw
              case rel => exact ⟨k + 1, by omega, by go_num, by rw [HD.out], below_drewN hb2 _⟩
              case measure => simp [intOf]; omega
            · have HD : Hid (decide (ee ∈ L.take (k + 1)) = false) := by
                show _ = _; rw [HTK.out, decide_eq_false_iff_not]
                simp only [List.mem_append, List.mem_singleton]
                rintro (h | h)
                · exact hno h
                · exact heq h.symm
              have hne := ed_ne heq
              clear hth hno heq
              rcases hne with hne | ⟨r1, hne⟩
              · have hq : (le.id == ee.id) = false := by rw [beq_eq_false_iff_ne]; exact hne
                clear hne
                go_wp2_with fail
                go_quiet (fail)
                go_wp2_with fail
                go_roundw
                case rel => exact ⟨k + 1, by omega, by go_num, by rw [HD.out], below_drewN hb2 _⟩
                case measure => simp [intOf]; omega
              · rw [r1] at g0
                have hnb := ba_beq hne
                have hnl := bl_beq hne
                clear hne r1
                go_wp2_with fail
                go_quiet (fail)
                go_wp2_with fail
                go_roundw
                case rel => exact ⟨k + 1, by omega, by go_num, by rw [HD.out], below_drewN hb2 _⟩
                case measure => simp [intOf]; omega
        · obtain rfl : N = k := by omega
          have HTL : Hid (L.take N = L) := by show _ = _; rw [HNN.out]; exact List.take_length
          have hv2 := HV5.out.keep hb2
          have hbw2 := HBW.out.trans (hb2.mono HBW.out.size)
          have hz2 := hbw2.size
          have HB2 : Hid (Below w5.heap.size w5 wr) := hb2
          clear hb2
          cases hth : decide (ee ∈ L.take N) with
          | true =>
            have HE : Hid (bothE EA (EB.take (i + 1)) = L) := by
              have h : ee ∈ L.take N := of_decide_eq_true hth
              rw [HTL.out] at h
              show _ = _; rw [HT.out, if_pos h]
            clear hth
            go_wp2_with fail
            go_roundw
            case rel => exact ⟨i + 1, ad, cap, N, by omega, by go_num, rfl, by rw [HE.out]; exact HNN.out, by omega, by rw [HE.out]; exact hv2, hbw2⟩
            case measure => simp [intOf]; omega
          | false =>
            have HE : Hid (bothE EA (EB.take (i + 1)) = L ++ [ee]) := by
              have h : ¬ ee ∈ L.take N := of_decide_eq_false hth
              rw [HTL.out] at h
              show _ = _; rw [HT.out, if_neg h]
            have HN3 : Hid (N + 1 ≤ 2000) := by
              have h1 := both_len (EB.take (i + 1)) EA
              rw [HE.out] at h1
              simp at h1
              have := HNN.out; have := HN.out; have := HM.out
              show _ ≤ _; omega
            have hN4 := HN3.out
            clear hth
            go_wp2_with (at_builtin; refine wpList_push (by rfl) _ _ 26 (by rfl) w.heap.size 61 2 24 (.agg #[.int .i64 0, .string ⟨#[]⟩]) Try.underlying26 (by kernel_rfl) rfl (by decide) ad N cap _ (by rfl) (hv2.keep ((Below.refl _ _).alloc (Nat.le_refl _) _)) _ _ ee.cells (by rfl) rfl ?_ ?_ ?_ ?_ ?_ ?_; exact new_cells _ _ _; exact ones3 _; (omega); (omega); (simp; omega); intro ad' cap' w' hv' hb' hs')
            go_roundw
            case rel => exact ⟨i + 1, ad', cap', N + 1, by omega, by go_num, rfl, by rw [HE.out, List.length_append, ← HNN.out]; rfl, by omega, by rw [HE.out, ecells_app]; simpa [ecells] using hv', (hbw2.alloc hz2 _).trans hb'⟩
            case measure => simp [intOf]; omega
    · obtain rfl : m = i := by omega
      have HE : Hid (bothE EA (EB.take m) = bothE EA EB) := by show _ = _; rw [HM.out, List.take_length]
      go_wp2_with fail
      go_ret
      exact ⟨ad, cap, N, rfl, by rw [← HE.out]; exact HNN.out, by rw [← HE.out]; exact hv, hbw⟩

/-- By site the greater of two numbers. -/
def mostF (nm nn : Nat) (fm fn : Nat → Int) (k : Nat) : Int := max (seenI nm fm k) (seenI nn fn k)
def mostTo (nm nn : Nat) (fm fn : Nat → Int) (k : Nat) : List Int := (List.range 8).map fun j => if j < k then mostF nm nn fm fn j else 0
theorem mostTo_len (nm nn : Nat) (fm fn : Nat → Int) (k : Nat) : (mostTo nm nn fm fn k).length = 8 := by simp [mostTo]
theorem mostTo_set (nm nn : Nat) (fm fn : Nat → Int) (k : Nat) : (mostTo nm nn fm fn k).set k (mostF nm nn fm fn k) = mostTo nm nn fm fn (k + 1) := by
  apply List.ext_getElem?
  intro i
  by_cases hi : i < 8
  · by_cases e : k = i
    · subst e; simp [mostTo, hi]
    · rw [List.getElem?_set_ne e]
      have : (i < k + 1) ↔ (i < k) := by omega
      simp [mostTo, hi, this]
  · simp [mostTo, hi]
theorem mostTo_zero (nm nn : Nat) (fm fn : Nat → Int) : irows (mostTo nm nn fm fn 0) = List.replicate 8 [.int .i64 0] := by simp [mostTo, irows, List.range, List.range.loop]
theorem mostTo_at (nm nn : Nat) (fm fn : Nat → Int) (k : Nat) (hk : k < 8) : (mostTo nm nn fm fn 8).getD k 0 = mostF nm nn fm fn k := by simp [mostTo, List.getD, hk]

set_option maxRecDepth 100000 in
set_option maxHeartbeats 4000000 in
theorem most_any (nm nn : Nat) (fm fn : Nat → Int) (am an : Option Addr) (cm cn : Nat) (w : World) (hM : Lies w am nm 1 (iCells fm)) (hN : Lies w an nn 1 (iCells fn)) (hfm : ∀ i, i < nm → I64 (fm i)) (hfn : ∀ i, i < nn → I64 (fn i)) :
    Calls Try.prog 21 #[.slice am nm cm, .slice an nn cn] w fun e w' => ∃ g, e = .returned (.slice (some ⟨g, 0, none⟩) 8 8) ∧ Own w' g 3 1 (irows (mostTo nm nn fm fn 8)) ∧ Below w.heap.size w w' := by
  have HM : Hid (Lies w am nm 1 (iCells fm)) := hM
  have HN : Hid (Lies w an nn 1 (iCells fn)) := hN
  have HFM : Hid (∀ i, i < nm → I64 (fm i)) := hfm
  have HFN : Hid (∀ i, i < nn → I64 (fn i)) := hfn
  clear hM hN hfm hfn
  go_enter Try.func21, Try.ntmps21
  go_wp2_with (first
    | (at_make; refine wpList_make_ones (by rfl) _ _ 23 (by rfl) 3 (.int .i64 0) 8 Try.underlying23 (by kernel_rfl) rfl 8 8 rfl (by rfl) (by rfl) ?_ ?_ ?_; (omega); (omega); intro g ad w2 ead hg hgl oc hbc))
  have HAD : Hid (ad = some ⟨g, 0, none⟩) := ead
  rw [← mostTo_zero nm nn fm fn] at oc
  have HOC : Hid (Own w2 g 3 1 (irows (mostTo nm nn fm fn 0))) := oc
  have HBC : Hid (Below w.heap.size w w2) := hbc
  have HG : Hid (w.heap.size ≤ g) := hg
  clear ead oc hbc hg hgl
  go_loopw [6, 7, 8] (fun u _ _ wr => ∃ k : Nat, k ≤ 8 ∧ u = .int .i64 k ∧ Own wr g 3 1 (irows (mostTo nm nn fm fn k)) ∧ Below w.heap.size w wr) (fun u _ _ _ => 8 - (intOf u).toNat)
  case atStart => exact ⟨0, by omega, rfl, HOC.out, HBC.out⟩
  case round =>
    clear HOC HBC
    obtain ⟨k, hk, rfl, hO, hb⟩ := hrel
    by_cases hlt : k < 8
    · have HO : Hid (Own wr g 3 1 (irows (mostTo nm nn fm fn k))) := hO
      have HB : Hid (Below w.heap.size w wr) := hb
      have HMF : Hid (mostF nm nn fm fn k = max (seenI nm fm k) (seenI nn fn k)) := rfl
      have hfr := (irows_at hO k (by rw [mostTo_len]; exact hlt)).2
      have hcl := (irows_at hO k (by rw [mostTo_len]; exact hlt)).1
      have hix : ∀ w', (Instr.indexAt 23 (.slice ad 8 8) (.int .i64 (k : Int))).run Try.prog w' = .ok (.pointer (some ⟨g, k, none⟩)) w' := fun w' => by
        have := Own.idx HAD (P := Try.prog) (t := 23) (m := 1) 8 8 (by kernel_rfl) (by kernel_rfl) hlt (k : Int) rfl w'
        rw [Nat.mul_one] at this; exact this
      clear hO hb
      go_wp2_with fail
      refine (seen_any am nm cm fm k _ (HM.out.below HB.out) HFM.out).mono ?_
      rintro e w3 ⟨rfl, rfl⟩
      go_wp2_with fail
      refine (seen_any an nn cn fn k _ (HN.out.below HB.out) HFN.out).mono ?_
      rintro e w4 ⟨rfl, rfl⟩
      generalize seenI nm fm k = x at *
      generalize seenI nn fn k = y at *
      generalize (mostTo nm nn fm fn k).getD k 0 = old at *
      by_cases hxy : x < y
      · have HE : Hid (mostF nm nn fm fn k = y) := by show _ = _; rw [HMF.out]; omega
        go_wp2_with fail
        go_roundw
        case rel => exact ⟨k + 1, by omega, by go_num, by rw [← mostTo_set nm nn fm fn k, HE.out]; exact irows_set HO.out k y, ((Upd.refl g _).setCell _ rfl _).below HB.out HG.out⟩
        case measure => simp [intOf]; omega
      · have HE : Hid (mostF nm nn fm fn k = x) := by show _ = _; rw [HMF.out]; omega
        go_wp2_with fail
        go_roundw
        case rel => exact ⟨k + 1, by omega, by go_num, by rw [← mostTo_set nm nn fm fn k, HE.out]; exact irows_set HO.out k x, ((Upd.refl g _).setCell _ rfl _).below HB.out HG.out⟩
        case measure => simp [intOf]; omega
    · obtain rfl : k = 8 := by omega
      go_wp2_with fail
      go_ret
      exact ⟨g, by rw [HAD.out]; rfl, hO, hb⟩
end Go.Proofs.Ytdjpkgaicmklmab

/- parcelkeep.Only: called with any writes and numbers it answers true. -/
namespace Go.Proofs.Ytdjpkgaicmklmab
open Go.RowKit

/-- A list of writes that comes in. -/
structure Ws (w : World) (a : Option Addr) (n : Nat) (f : Nat → Wr) : Prop where
  lies : Lies w a n 4 (fun i => (f i).cells)
  few : n ≤ 140737488355328
  ok : ∀ i, i < n → I64 (f i).site ∧ I64 (f i).id
structure Ns (w : World) (a : Option Addr) (n : Nat) (f : Nat → Int) : Prop where
  lies : Lies w a n 1 (iCells f)
  few : n ≤ 140737488355328
  ok : ∀ i, i < n → I64 (f i)

theorem state_call {S : Seen} {aw am ae : Option Addr} {cw cm ce ne : Nat} {ef : Nat → Wr} {w0 w : World} (hb : Below w0.heap.size w0 w) (hW : Ws w0 aw S.n S.w) (hM : Ns w0 am S.m S.f) (hE : Ws w0 ae ne ef) (kw : S.n ≤ cw) :
    Calls Try.prog 9 #[.slice aw S.n cw, .slice am S.m cm, .slice ae ne ce] w fun e w' =>
      ∃ a1 a2 a3 k1 k2 k3, e = .returned (repV (stateR S ne ef) a1 a2 a3 k1 k2 k3) ∧ Has w' (stateR S ne ef) a1 a2 a3 ∧ Below w.heap.size w w' :=
  state_any S aw am ae cw cm ce ne ef w (hW.lies.below hb) (hM.lies.below hb) (hE.lies.below hb) kw hW.few hM.few hE.few hW.ok hM.ok (fun i hi => (hE.ok i hi).2)

/-- A replica in a variable, while a statement runs. -/
structure InC (w w1 : World) (R : Rep) (a1 a2 a3 : Option Addr) (k1 k2 k3 : Nat) (wX : World) : Prop where
  bR : BoxR w1 R a1 a2 a3 k1 k2 k3 wX
  hR : Has wX R a1 a2 a3
  old : Below w.heap.size w wX
theorem InC.step {w w1 : World} {R : Rep} {a1 a2 a3 : Option Addr} {k1 k2 k3 : Nat} {wX wY : World} (h : InC w w1 R a1 a2 a3 k1 k2 k3 wX) (hb : Below wX.heap.size wX wY) : InC w w1 R a1 a2 a3 k1 k2 k3 wY :=
  ⟨boxR_step h.bR hb, h.hR.below hb, h.old.trans (hb.mono h.old.size)⟩

/-- Two replicas in variables. -/
structure In2 (w w1 w2 : World) (R T : Rep) (a1 a2 a3 b1 b2 b3 : Option Addr) (k1 k2 k3 l1 l2 l3 : Nat) (wX : World) : Prop where
  bR : BoxR w1 R a1 a2 a3 k1 k2 k3 wX
  bT : BoxR w2 T b1 b2 b3 l1 l2 l3 wX
  hR : Has wX R a1 a2 a3
  hT : Has wX T b1 b2 b3
  old : Below w.heap.size w wX
theorem In2.step {w w1 w2 : World} {R T : Rep} {a1 a2 a3 b1 b2 b3 : Option Addr} {k1 k2 k3 l1 l2 l3 : Nat} {wX wY : World} (h : In2 w w1 w2 R T a1 a2 a3 b1 b2 b3 k1 k2 k3 l1 l2 l3 wX) (hb : Below wX.heap.size wX wY) : In2 w w1 w2 R T a1 a2 a3 b1 b2 b3 k1 k2 k3 l1 l2 l3 wY :=
  ⟨boxR_step h.bR hb, boxR_step h.bT hb, h.hR.below hb, h.hT.below hb, h.old.trans (hb.mono h.old.size)⟩

end Go.Proofs.Ytdjpkgaicmklmab

/- parcelkeep.Joined: called with any writes and numbers it answers true. -/
namespace Go.Proofs.Ytdjpkgaicmklmab
open Go.RowKit

/-- Replicas in variables. -/
structure Rv where
  g : Nat
  T : Tri
  a1 : Option Addr
  a2 : Option Addr
  a3 : Option Addr
  k1 : Nat
  k2 : Nat
  k3 : Nat
abbrev Rv.cells (v : Rv) : List Value := [.slice v.a1 v.T.K.length v.k1, .slice v.a2 v.T.C.length v.k2, .slice v.a3 v.T.E.length v.k3]
structure Rv.Ok (w : World) (B : Nat) (v : Rv) : Prop where
  b : Bx w v.g 28 v.cells
  l : Lists w B v.T.K v.T.C v.T.E v.a1 v.T.K.length v.k1 v.a2 v.T.C.length v.k2 v.a3 v.T.E.length v.k3
  few : v.T.K.length ≤ 1000 ∧ v.T.C.length ≤ 1000 ∧ v.T.E.length ≤ 1000
  lo : B ≤ v.g
theorem Rv.Ok.h {w : World} {B : Nat} {v : Rv} (h : v.Ok w B) : Has w v.T.rep v.a1 v.a2 v.a3 := (h.l.has (by have := h.few; omega) (by have := h.few; omega) (by have := h.few; omega)).1
theorem Rv.Ok.caps {w : World} {B : Nat} {v : Rv} (h : v.Ok w B) : v.T.K.length ≤ v.k1 ∧ v.T.C.length ≤ v.k2 := ⟨h.l.v1.cap_le, h.l.v2.cap_le⟩
theorem Rv.Ok.step {w w' : World} {B : Nat} {v : Rv} (h : v.Ok w B) (hb : Below w.heap.size w w') : v.Ok w' B := ⟨h.b.below hb h.b.lt, h.l.keep hb, h.few, h.lo⟩
theorem Rv.Ok.c {w : World} {B : Nat} {v : Rv} (h : v.Ok w B) : w.cell? ⟨v.g, 0, none⟩ = some (.slice v.a1 v.T.K.length v.k1) ∧ w.cell? ⟨v.g, 1, none⟩ = some (.slice v.a2 v.T.C.length v.k2) ∧ w.cell? ⟨v.g, 2, none⟩ = some (.slice v.a3 v.T.E.length v.k3) := ⟨h.b.cell 0, h.b.cell 1, h.b.cell 2⟩
theorem Lists.put {w w' : World} {B g : Nat} {cs : List Value} {K : List Ck} {C : List Cd} {E : List Ed} {a1 : Option Addr} {n1 c1 : Nat} {a2 : Option Addr} {n2 c2 : Nat} {a3 : Option Addr} {n3 c3 : Nat} (h : Lists w B K C E a1 n1 c1 a2 n2 c2 a3 n3 c3) (hx : Bx w g 28 cs) (hu : Upd g w w') : Lists w' B K C E a1 n1 c1 a2 n2 c2 a3 n3 c3 :=
  ⟨h.v1.updo hu (fun b hb e1 => hx.apart h.v1 (by decide) (by rw [hb]; simp [e1])), h.v2.updo hu (fun b hb e1 => hx.apart h.v2 (by decide) (by rw [hb]; simp [e1])), h.v3.updo hu (fun b hb e1 => hx.apart h.v3 (by decide) (by rw [hb]; simp [e1])), h.e1, h.e2, h.e3⟩
theorem Rv.Ok.put {w w' : World} {B g : Nat} {cs : List Value} {v : Rv} (h : v.Ok w B) (hx : Bx w g 28 cs) (hu : Upd g w w') (hg : v.g ≠ g) : v.Ok w' B := ⟨h.b.upd hu hg, h.l.put hx hu, h.few, h.lo⟩
theorem Rv.Ok.new {w : World} {B : Nat} {T : Tri} {a1 a2 a3 : Option Addr} {k1 k2 k3 : Nat} (h : Lists w B T.K T.C T.E a1 T.K.length k1 a2 T.C.length k2 a3 T.E.length k3) (hf : T.K.length ≤ 1000 ∧ T.C.length ≤ 1000 ∧ T.E.length ≤ 1000) (hB : B ≤ w.heap.size) : (⟨w.heap.size, T, a1, a2, a3, k1, k2, k3⟩ : Rv).Ok (w.alloc (.cells #[.slice a1 T.K.length k1, .slice a2 T.C.length k2, .slice a3 T.E.length k3] 28)) B :=
  ⟨Bx.new _ _ _, h.keep ((Below.refl _ _).alloc (Nat.le_refl _) _), hf, hB⟩

theorem pick_same {x : Int} (h0 : 0 ≤ x) (h1 : x < 60) : pickI x 60 = x := by unfold pickI; rw [if_neg (by omega)]; omega
theorem seen_range (n : Nat) (f : Nat → Int) (k : Nat) : 0 ≤ seenI n f k ∧ seenI n f k < 60 := by
  unfold seenI; split
  · exact pickI_lt _ _ (by decide)
  · exact ⟨by omega, by omega⟩
theorem most_seen (nw nm nn : Nat) (fw : Nat → Wr) (fm fn : Nat → Int) : Most ⟨nw, fw, nm, fm⟩ ⟨nw, fw, nn, fn⟩ ⟨nw, fw, 8, fun k => (mostTo nm nn fm fn 8).getD k 0⟩ := by
  have hl : ∀ k, k < 8 → limS ⟨nw, fw, 8, fun k => (mostTo nm nn fm fn 8).getD k 0⟩ k = max (limS ⟨nw, fw, nm, fm⟩ k) (limS ⟨nw, fw, nn, fn⟩ k) := by
    intro k hk
    have r1 := seen_range nm fm k
    have r2 := seen_range nn fn k
    show seenI 8 _ k = max (seenI nm fm k) (seenI nn fn k)
    unfold seenI
    rw [if_pos hk]
    simp only
    rw [mostTo_at nm nn fm fn k hk]
    unfold mostF
    rw [pick_same (by omega) (by omega)]
    rfl
  exact ⟨rfl, rfl, hl, fun _ => (seen_range _ _ _).1, fun _ => (seen_range _ _ _).1, fun _ => (seen_range _ _ _).1⟩
theorem Most.swap {S T M : Seen} (h : Most S T M) : Most T S M := ⟨h.w1.trans h.w2.symm, h.w2.symm, fun k hk => by rw [h.lim k hk]; omega, h.p2, h.p1, h.p3⟩
theorem Most.again {S T M : Seen} (h : Most S T M) : Most M T M := ⟨rfl, h.w2.trans h.w1.symm, fun k hk => by rw [h.lim k hk]; omega, h.p3, h.p2, h.p3⟩
theorem edits_ok (ef : Nat → Wr) (n : Nat) : EdOk (editsTo ef n) := by
  intro x hx
  simp only [editsTo, List.mem_map, List.mem_range] at hx
  obtain ⟨i, _, rfl⟩ := hx
  exact ⟨numOf_range _, cutB_size _⟩
theorem EdOk.both {a b : List Ed} (ha : EdOk a) (hb : EdOk b) : EdOk (bothE a b) := fun x hx => by
  rcases both_mem hx with h | h
  · exact ha x h
  · exact hb x h
theorem same_refl (R : Rep) : Same R R := ⟨rfl, rfl, rfl, fun _ _ => rfl, fun _ _ => rfl, fun _ _ => rfl⟩

/-- What State makes, as a triple of lists. -/
theorem state_tri {S : Seen} {aw am ae : Option Addr} {cw cm ce ne : Nat} {ef : Nat → Wr} {w : World} (hW : Ws w aw S.n S.w) (hM : Ns w am S.m S.f) (hE : Ws w ae ne ef) (kw : S.n ≤ cw) :
    Calls Try.prog 9 #[.slice aw S.n cw, .slice am S.m cm, .slice ae ne ce] w fun e w' =>
      ∃ a1 a2 a3 k1 k2 k3, e = .returned (.agg #[.slice a1 (triS S (min S.n 40) (editsTo ef (min ne 8))).K.length k1, .slice a2 (triS S (min S.n 40) (editsTo ef (min ne 8))).C.length k2, .slice a3 (triS S (min S.n 40) (editsTo ef (min ne 8))).E.length k3]) ∧ Has w' (triS S (min S.n 40) (editsTo ef (min ne 8))).rep a1 a2 a3 ∧ Lists w' w.heap.size (triS S (min S.n 40) (editsTo ef (min ne 8))).K (triS S (min S.n 40) (editsTo ef (min ne 8))).C (triS S (min S.n 40) (editsTo ef (min ne 8))).E a1 (triS S (min S.n 40) (editsTo ef (min ne 8))).K.length k1 a2 (triS S (min S.n 40) (editsTo ef (min ne 8))).C.length k2 a3 (triS S (min S.n 40) (editsTo ef (min ne 8))).E.length k3 ∧ Below w.heap.size w w' :=
  (state_own S aw am ae cw cm ce ne ef w hW.lies hM.lies hE.lies kw hW.few hM.few hE.few hW.ok hM.ok (fun i hi => (hE.ok i hi).2)).mono fun _ _ ⟨a1, a2, a3, k1, k2, k3, h1, h2, h3, h4⟩ => ⟨a1, a2, a3, k1, k2, k3, h1, h2, ⟨h3.v1, h3.v2, h3.v3, rfl, rfl, rfl⟩, h4⟩
theorem Ws.below {w w' : World} {a : Option Addr} {n : Nat} {f : Nat → Wr} (h : Ws w a n f) (hb : Below w.heap.size w w') : Ws w' a n f := ⟨h.lies.below hb, h.few, h.ok⟩
theorem Ns.below {w w' : World} {a : Option Addr} {n : Nat} {f : Nat → Int} (h : Ns w a n f) (hb : Below w.heap.size w w') : Ns w' a n f := ⟨h.lies.below hb, h.few, h.ok⟩
theorem Ws.nil (w : World) (f : Nat → Wr) : Ws w none 0 f := ⟨Or.inl rfl, by omega, fun i hi => by omega⟩
abbrev LT (w : World) (B : Nat) (T : Tri) (a1 a2 a3 : Option Addr) (k1 k2 k3 : Nat) : Prop := Lists w B T.K T.C T.E a1 T.K.length k1 a2 T.C.length k2 a3 T.E.length k3
/-- What Merge answers of states. -/
theorem pmerge_states {S T M : Seen} (h : Most S T M) {i : Nat} (hi : i ≤ 40) {D E : List Ed} (hD : D.length ≤ 16) (hE : E.length ≤ 16) (hD2 : EdOk D) (hE2 : EdOk E) (hb : (bothE D E).length ≤ 16)
    {a1 a2 a3 b1 b2 b3 : Option Addr} {k1 k2 k3 l1 l2 l3 : Nat} {w : World} (hA : Has w (triS S i D).rep a1 a2 a3) (hB : Has w (triS T i E).rep b1 b2 b3) (hk1 : (triS S i D).K.length ≤ k1) (hk2 : (triS S i D).C.length ≤ k2) :
    Calls Try.prog 20 #[.agg #[.slice a1 (triS S i D).K.length k1, .slice a2 (triS S i D).C.length k2, .slice a3 (triS S i D).E.length k3], .agg #[.slice b1 (triS T i E).K.length l1, .slice b2 (triS T i E).C.length l2, .slice b3 (triS T i E).E.length l3]] w fun e w' =>
      ∃ c1 c2 c3 d1 d2 d3, e = .returned (.tuple #[.agg #[.slice c1 (triS M i (bothE D E)).K.length d1, .slice c2 (triS M i (bothE D E)).C.length d2, .slice c3 (triS M i (bothE D E)).E.length d3], .int .i64 0]) ∧ Has w' (triS M i (bothE D E)).rep c1 c2 c3 ∧ Lists w' w.heap.size (triS M i (bothE D E)).K (triS M i (bothE D E)).C (triS M i (bothE D E)).E c1 (triS M i (bothE D E)).K.length d1 c2 (triS M i (bothE D E)).C.length d2 c3 (triS M i (bothE D E)).E.length d3 ∧ Below w.heap.size w w' := by
  refine (pmerge_any (triS S i D) (triS T i E) a1 a2 a3 b1 b2 b3 k1 k2 k3 l1 l2 l3 w hA hB hk1 hk2).mono ?_
  rintro e w' ⟨⟨c1, n1, d1, c2, n2, d2, c3, n3, d3, he, hL⟩, hbw⟩
  rw [merge_states h i hi D E hD hE hD2 hE2 hb] at he hL
  obtain ⟨f1, f2, f3⟩ := few_of (triS_chk M i hi (bothE D E) hb (hD2.both hE2))
  obtain ⟨v1, v2, v3, e1, e2, e3⟩ := hL
  simp only at e1 e2 e3
  subst e1 e2 e3
  have hL : Lists w' w.heap.size (triS M i (bothE D E)).K (triS M i (bothE D E)).C (triS M i (bothE D E)).E c1 (triS M i (bothE D E)).K.length d1 c2 (triS M i (bothE D E)).C.length d2 c3 (triS M i (bothE D E)).E.length d3 := ⟨v1, v2, v3, rfl, rfl, rfl⟩
  exact ⟨c1, c2, c3, d1, d2, d3, he, (hL.has (by omega) (by omega) (by omega)).1, hL, hbw⟩

set_option maxRecDepth 100000 in
set_option maxHeartbeats 8000000 in
theorem joined_any (nw nm nn nx ny : Nat) (fw fx fy : Nat → Wr) (fm fn : Nat → Int) (aw am an ax ay : Option Addr) (cw cm cn cx cy : Nat) (w : World)
    (hW : Ws w aw nw fw) (hM : Ns w am nm fm) (hN : Ns w an nn fn) (hX : Ws w ax nx fx) (hY : Ws w ay ny fy) (kw : nw ≤ cw) :
    Calls Try.prog 6 #[.slice aw nw cw, .slice am nm cm, .slice an nn cn, .slice ax nx cx, .slice ay ny cy] w fun e w' => e = .returned (.bool true) ∧ Below w.heap.size w w' := by
  have HW : Hid (∀ X, Below w.heap.size w X → Ws X aw nw fw ∧ Ns X am nm fm ∧ Ns X an nn fn ∧ Ws X ax nx fx ∧ Ws X ay ny fy) := fun X h => ⟨hW.below h, hM.below h, hN.below h, hX.below h, hY.below h⟩
  have hMost := most_seen nw nm nn fw fm fn
  have q1 : (editsTo fx (min nx 8)).length ≤ 8 := by simp [editsTo]; omega
  have q2 : (editsTo fy (min ny 8)).length ≤ 8 := by simp [editsTo]; omega
  have q3 := both_len (editsTo fy (min ny 8)) (editsTo fx (min nx 8))
  have q4 := both_len (editsTo fx (min nx 8)) (editsTo fy (min ny 8))
  have hXok := edits_ok fx (min nx 8)
  have hYok := edits_ok fy (min ny 8)
  have h40 : min nw 40 ≤ 40 := by omega
  clear hW hM hN hX hY
  have KA : Hid (∀ X, Below w.heap.size w X → Calls Try.prog 9 #[.slice aw nw cw, .slice am nm cm, .slice ax nx cx] X fun e w' => ∃ a1 a2 a3 k1 k2 k3, e = .returned (.agg #[.slice a1 (triS ⟨nw, fw, nm, fm⟩ (min nw 40) (editsTo fx (min nx 8))).K.length k1, .slice a2 (triS ⟨nw, fw, nm, fm⟩ (min nw 40) (editsTo fx (min nx 8))).C.length k2, .slice a3 (triS ⟨nw, fw, nm, fm⟩ (min nw 40) (editsTo fx (min nx 8))).E.length k3]) ∧ LT w' X.heap.size (triS ⟨nw, fw, nm, fm⟩ (min nw 40) (editsTo fx (min nx 8))) a1 a2 a3 k1 k2 k3 ∧ Below X.heap.size X w') := fun X h =>
    (state_tri (S := ⟨nw, fw, nm, fm⟩) (HW.out X h).1 (HW.out X h).2.1 (HW.out X h).2.2.2.1 kw).mono fun e w' ⟨a1, a2, a3, k1, k2, k3, h1, _, h3, h4⟩ => ⟨a1, a2, a3, k1, k2, k3, h1, h3, h4⟩
  have KB : Hid (∀ X, Below w.heap.size w X → Calls Try.prog 9 #[.slice aw nw cw, .slice an nn cn, .slice ay ny cy] X fun e w' => ∃ a1 a2 a3 k1 k2 k3, e = .returned (.agg #[.slice a1 (triS ⟨nw, fw, nn, fn⟩ (min nw 40) (editsTo fy (min ny 8))).K.length k1, .slice a2 (triS ⟨nw, fw, nn, fn⟩ (min nw 40) (editsTo fy (min ny 8))).C.length k2, .slice a3 (triS ⟨nw, fw, nn, fn⟩ (min nw 40) (editsTo fy (min ny 8))).E.length k3]) ∧ LT w' X.heap.size (triS ⟨nw, fw, nn, fn⟩ (min nw 40) (editsTo fy (min ny 8))) a1 a2 a3 k1 k2 k3 ∧ Below X.heap.size X w') := fun X h =>
    (state_tri (S := ⟨nw, fw, nn, fn⟩) (HW.out X h).1 (HW.out X h).2.2.1 (HW.out X h).2.2.2.2 kw).mono fun e w' ⟨a1, a2, a3, k1, k2, k3, h1, _, h3, h4⟩ => ⟨a1, a2, a3, k1, k2, k3, h1, h3, h4⟩
  have KO : Hid (∀ X, Below w.heap.size w X → Calls Try.prog 21 #[.slice am nm cm, .slice an nn cn] X fun e w' => ∃ g, e = .returned (.slice (some ⟨g, 0, none⟩) 8 8) ∧ Ns w' (some ⟨g, 0, none⟩) 8 (fun k => (mostTo nm nn fm fn 8).getD k 0) ∧ Below X.heap.size X w') := fun X h =>
    (most_any nm nn fm fn am an cm cn X (HW.out X h).2.1.lies (HW.out X h).2.2.1.lies (HW.out X h).2.1.ok (HW.out X h).2.2.1.ok).mono fun e w' ⟨g, h1, h2, h3⟩ => ⟨g, h1, ⟨h2.lies 8 _ (by simp [mostTo_len]) (fun i hi => by simp [List.getD, mostTo_len, hi]), by omega, fun i hi => by
      have := seen_range nm fm i; have := seen_range nn fn i
      show I64 ((mostTo nm nn fm fn 8).getD i 0); rw [mostTo_at nm nn fm fn i hi]; unfold mostF; exact ⟨by omega, by omega⟩⟩, h3⟩
  have KW : Hid (∀ X g, Below w.heap.size w X → Ns X (some ⟨g, 0, none⟩) 8 (fun k => (mostTo nm nn fm fn 8).getD k 0) → Calls Try.prog 9 #[.slice aw nw cw, .slice (some ⟨g, 0, none⟩) 8 8, .slice none 0 0] X fun e w' => ∃ a1 a2 a3 k1 k2 k3, e = .returned (.agg #[.slice a1 (triS ⟨nw, fw, 8, fun k => (mostTo nm nn fm fn 8).getD k 0⟩ (min nw 40) []).K.length k1, .slice a2 (triS ⟨nw, fw, 8, fun k => (mostTo nm nn fm fn 8).getD k 0⟩ (min nw 40) []).C.length k2, .slice a3 0 k3]) ∧ LT w' X.heap.size (triS ⟨nw, fw, 8, fun k => (mostTo nm nn fm fn 8).getD k 0⟩ (min nw 40) []) a1 a2 a3 k1 k2 k3 ∧ Below X.heap.size X w') := fun X g h h2 =>
    (state_tri (S := ⟨nw, fw, 8, fun k => (mostTo nm nn fm fn 8).getD k 0⟩) (ef := fun _ => fw 0) (HW.out X h).1 h2 (Ws.nil X _) kw).mono fun e w' ⟨a1, a2, a3, k1, k2, k3, h1, _, h3, h4⟩ => ⟨a1, a2, a3, k1, k2, k3, h1, h3, h4⟩
  clear HW
  have HMost : Hid (Most ⟨nw, fw, nm, fm⟩ ⟨nw, fw, nn, fn⟩ ⟨nw, fw, 8, fun k => (mostTo nm nn fm fn 8).getD k 0⟩) := hMost
  have HXok : Hid (EdOk (editsTo fx (min nx 8))) := hXok
  have HYok : Hid (EdOk (editsTo fy (min ny 8))) := hYok
  clear hMost hXok hYok
  generalize editsTo fx (min nx 8) = EX at *
  generalize editsTo fy (min ny 8) = EY at *
  generalize (⟨nw, fw, nm, fm⟩ : Seen) = SA at *
  generalize (⟨nw, fw, nn, fn⟩ : Seen) = SB at *
  generalize (⟨nw, fw, 8, fun k => (mostTo nm nn fm fn 8).getD k 0⟩ : Seen) = SM at *
  generalize min nw 40 = ii at *
  have HQ : Hid ((EX.length ≤ 8 ∧ EY.length ≤ 8) ∧ ((bothE EX EY).length ≤ 16 ∧ (bothE EY EX).length ≤ 16) ∧ ii ≤ 40) := ⟨⟨q1, q2⟩, ⟨by omega, by omega⟩, h40⟩
  clear q1 q2 q3 q4 h40
  go_enter Try.func6, Try.ntmps6
  go_wp2_with fail
  refine (KA.out _ (Below.refl _ _)).mono ?_
  rintro e w1 ⟨a1, a2, a3, k1, k2, k3, rfl, hA, hb1⟩
  have HF : Hid (∀ S D, D.length ≤ 16 → (triS S ii D).K.length ≤ 1000 ∧ (triS S ii D).C.length ≤ 1000 ∧ (triS S ii D).E.length ≤ 1000) := fun S D h => by
    have h1 := clocksTo_length (runS S ii).1 8
    have h2 := runS_cards S ii
    have := HQ.out.2.2
    refine ⟨?_, ?_, ?_⟩
    · show (clocksTo (runS S ii).1 8).length ≤ _; omega
    · show (runS S ii).2.length ≤ _; omega
    · show D.length ≤ _; omega
  have HA1 : Hid ((⟨w1.heap.size, triS SA ii EX, a1, a2, a3, k1, k2, k3⟩ : Rv).Ok (w1.alloc (.cells #[.slice a1 (triS SA ii EX).K.length k1, .slice a2 (triS SA ii EX).C.length k2, .slice a3 (triS SA ii EX).E.length k3] 28)) w.heap.size) := Rv.Ok.new hA (HF.out _ _ (by have := HQ.out; omega)) hb1.size
  have HB1 : Hid (Below w.heap.size w (w1.alloc (.cells #[.slice a1 (triS SA ii EX).K.length k1, .slice a2 (triS SA ii EX).C.length k2, .slice a3 (triS SA ii EX).E.length k3] 28))) := hb1.alloc hb1.size _
  clear hA hb1
  go_wp2_with fail
  generalize w1.alloc (.cells #[.slice a1 (triS SA ii EX).K.length k1, .slice a2 (triS SA ii EX).C.length k2, .slice a3 (triS SA ii EX).E.length k3] 28) = X1 at *
  generalize w1.heap.size = ga at *
  clear w1
  refine (KB.out _ HB1.out).mono ?_
  rintro e w2 ⟨b1, b2, b3, l1, l2, l3, rfl, hA, hb2⟩
  have hbw2 := HB1.out.trans (hb2.mono HB1.out.size)
  have hal : Below w2.heap.size w2 (w2.alloc (.cells #[.slice b1 (triS SB ii EY).K.length l1, .slice b2 (triS SB ii EY).C.length l2, .slice b3 (triS SB ii EY).E.length l3] 28)) := (Below.refl _ _).alloc (Nat.le_refl _) _
  have HB2 : Hid ((⟨w2.heap.size, triS SB ii EY, b1, b2, b3, l1, l2, l3⟩ : Rv).Ok (w2.alloc (.cells #[.slice b1 (triS SB ii EY).K.length l1, .slice b2 (triS SB ii EY).C.length l2, .slice b3 (triS SB ii EY).E.length l3] 28)) w.heap.size) := Rv.Ok.new (hA.mono HB1.out.size) (HF.out _ _ (by have := HQ.out; omega)) hbw2.size
  have HA2 : Hid ((⟨ga, triS SA ii EX, a1, a2, a3, k1, k2, k3⟩ : Rv).Ok (w2.alloc (.cells #[.slice b1 (triS SB ii EY).K.length l1, .slice b2 (triS SB ii EY).C.length l2, .slice b3 (triS SB ii EY).E.length l3] 28)) w.heap.size) := (HA1.out.step hb2).step hal
  have HW2 : Hid (Below w.heap.size w (w2.alloc (.cells #[.slice b1 (triS SB ii EY).K.length l1, .slice b2 (triS SB ii EY).C.length l2, .slice b3 (triS SB ii EY).E.length l3] 28))) := hbw2.trans (hal.mono hbw2.size)
  have HNE : Hid (ga ≠ w2.heap.size) := by have := (HA1.out.step hb2).b.lt; show _ ≠ _; simp only at this; omega
  clear hA hb2 hbw2 hal HA1 HB1 KA KB
  obtain ⟨x0, x1, x2⟩ := HA2.out.c
  obtain ⟨y0, y1, y2⟩ := HB2.out.c
  dsimp only at x0 x1 x2 y0 y1 y2
  go_wp2_with fail
  generalize w2.alloc (.cells #[.slice b1 (triS SB ii EY).K.length l1, .slice b2 (triS SB ii EY).C.length l2, .slice b3 (triS SB ii EY).E.length l3] 28) = X2 at *
  generalize w2.heap.size = gb at *
  clear w2
  refine (pmerge_states HMost.out HQ.out.2.2 (by have := HQ.out; omega) (by have := HQ.out; omega) HXok.out HYok.out HQ.out.2.1.1 HA2.out.h HB2.out.h HA2.out.caps.1 HA2.out.caps.2).mono ?_
  rintro e w3 ⟨r1, r2, r3, u1, u2, u3, rfl, -, hL, hb3⟩
  clear x0 x1 x2 y0 y1 y2 HNE
  have hbw := HW2.out.trans (hb3.mono HW2.out.size)
  have hal : Below w3.heap.size w3 (w3.alloc (.cells #[.slice r1 (triS SM ii (bothE EX EY)).K.length u1, .slice r2 (triS SM ii (bothE EX EY)).C.length u2, .slice r3 (triS SM ii (bothE EX EY)).E.length u3] 28)) := (Below.refl _ _).alloc (Nat.le_refl _) _
  have HR3 : Hid ((⟨w3.heap.size, triS SM ii (bothE EX EY), r1, r2, r3, u1, u2, u3⟩ : Rv).Ok (w3.alloc (.cells #[.slice r1 (triS SM ii (bothE EX EY)).K.length u1, .slice r2 (triS SM ii (bothE EX EY)).C.length u2, .slice r3 (triS SM ii (bothE EX EY)).E.length u3] 28)) w.heap.size) := Rv.Ok.new (hL.mono HW2.out.size) (HF.out _ _ (by have := HQ.out; omega)) hbw.size
  have HA3 : Hid ((⟨ga, triS SA ii EX, a1, a2, a3, k1, k2, k3⟩ : Rv).Ok (w3.alloc (.cells #[.slice r1 (triS SM ii (bothE EX EY)).K.length u1, .slice r2 (triS SM ii (bothE EX EY)).C.length u2, .slice r3 (triS SM ii (bothE EX EY)).E.length u3] 28)) w.heap.size) := (HA2.out.step hb3).step hal
  have HB3 : Hid ((⟨gb, triS SB ii EY, b1, b2, b3, l1, l2, l3⟩ : Rv).Ok (w3.alloc (.cells #[.slice r1 (triS SM ii (bothE EX EY)).K.length u1, .slice r2 (triS SM ii (bothE EX EY)).C.length u2, .slice r3 (triS SM ii (bothE EX EY)).E.length u3] 28)) w.heap.size) := (HB2.out.step hb3).step hal
  have HBW3 : Hid (Below w.heap.size w (w3.alloc (.cells #[.slice r1 (triS SM ii (bothE EX EY)).K.length u1, .slice r2 (triS SM ii (bothE EX EY)).C.length u2, .slice r3 (triS SM ii (bothE EX EY)).E.length u3] 28))) := hbw.trans (hal.mono hbw.size)
  clear hL hb3 hbw hal HW2 HA2 HB2
  obtain ⟨zA0, zA1, zA2⟩ := HA3.out.c
  obtain ⟨zB0, zB1, zB2⟩ := HB3.out.c
  obtain ⟨zR0, zR1, zR2⟩ := HR3.out.c
  dsimp only at zA0 zA1 zA2 zB0 zB1 zB2 zR0 zR1 zR2
  go_wp2_with fail
  generalize w3.alloc (.cells #[.slice r1 (triS SM ii (bothE EX EY)).K.length u1, .slice r2 (triS SM ii (bothE EX EY)).C.length u2, .slice r3 (triS SM ii (bothE EX EY)).E.length u3] 28) = X3 at *
  generalize w3.heap.size = gr at *
  clear w3
  clear zA0 zA1 zA2 zB0 zB1 zB2 zR0 zR1 zR2
  refine (pmerge_states HMost.out.swap HQ.out.2.2 (by have := HQ.out; omega) (by have := HQ.out; omega) HYok.out HXok.out HQ.out.2.1.2 HB3.out.h HA3.out.h HB3.out.caps.1 HB3.out.caps.2).mono ?_
  rintro e w4 ⟨s1, s2, s3, v1, v2, v3, rfl, -, hL, hb4⟩
  have hbw := HBW3.out.trans (hb4.mono HBW3.out.size)
  have hal : Below w4.heap.size w4 (w4.alloc (.cells #[.slice s1 (triS SM ii (bothE EY EX)).K.length v1, .slice s2 (triS SM ii (bothE EY EX)).C.length v2, .slice s3 (triS SM ii (bothE EY EX)).E.length v3] 28)) := (Below.refl _ _).alloc (Nat.le_refl _) _
  have HS4 : Hid ((⟨w4.heap.size, triS SM ii (bothE EY EX), s1, s2, s3, v1, v2, v3⟩ : Rv).Ok (w4.alloc (.cells #[.slice s1 (triS SM ii (bothE EY EX)).K.length v1, .slice s2 (triS SM ii (bothE EY EX)).C.length v2, .slice s3 (triS SM ii (bothE EY EX)).E.length v3] 28)) w.heap.size) := Rv.Ok.new (hL.mono HBW3.out.size) (HF.out _ _ (by have := HQ.out; omega)) hbw.size
  have HA4 : Hid ((⟨ga, triS SA ii EX, a1, a2, a3, k1, k2, k3⟩ : Rv).Ok (w4.alloc (.cells #[.slice s1 (triS SM ii (bothE EY EX)).K.length v1, .slice s2 (triS SM ii (bothE EY EX)).C.length v2, .slice s3 (triS SM ii (bothE EY EX)).E.length v3] 28)) w.heap.size) := (HA3.out.step hb4).step hal
  have HB4 : Hid ((⟨gb, triS SB ii EY, b1, b2, b3, l1, l2, l3⟩ : Rv).Ok (w4.alloc (.cells #[.slice s1 (triS SM ii (bothE EY EX)).K.length v1, .slice s2 (triS SM ii (bothE EY EX)).C.length v2, .slice s3 (triS SM ii (bothE EY EX)).E.length v3] 28)) w.heap.size) := (HB3.out.step hb4).step hal
  have HR4 : Hid ((⟨gr, triS SM ii (bothE EX EY), r1, r2, r3, u1, u2, u3⟩ : Rv).Ok (w4.alloc (.cells #[.slice s1 (triS SM ii (bothE EY EX)).K.length v1, .slice s2 (triS SM ii (bothE EY EX)).C.length v2, .slice s3 (triS SM ii (bothE EY EX)).E.length v3] 28)) w.heap.size) := (HR3.out.step hb4).step hal
  have HBW4 : Hid (Below w.heap.size w (w4.alloc (.cells #[.slice s1 (triS SM ii (bothE EY EX)).K.length v1, .slice s2 (triS SM ii (bothE EY EX)).C.length v2, .slice s3 (triS SM ii (bothE EY EX)).E.length v3] 28))) := hbw.trans (hal.mono hbw.size)
  clear hL hb4 hbw hal HBW3 HA3 HB3 HR3
  obtain ⟨zA0, zA1, zA2⟩ := HA4.out.c
  obtain ⟨zB0, zB1, zB2⟩ := HB4.out.c
  obtain ⟨zR0, zR1, zR2⟩ := HR4.out.c
  obtain ⟨zS0, zS1, zS2⟩ := HS4.out.c
  dsimp only at zA0 zA1 zA2 zB0 zB1 zB2 zR0 zR1 zR2 zS0 zS1 zS2
  go_wp2_with fail
  generalize w4.alloc (.cells #[.slice s1 (triS SM ii (bothE EY EX)).K.length v1, .slice s2 (triS SM ii (bothE EY EX)).C.length v2, .slice s3 (triS SM ii (bothE EY EX)).E.length v3] 28) = X4 at *
  generalize w4.heap.size = gs at *
  clear w4
  clear zA0 zA1 zA2 zB0 zB1 zB2 zR0 zR1 zR2 zS0 zS1 zS2
  refine (KO.out _ HBW4.out).mono ?_
  rintro e w5 ⟨gm, rfl, hNs, hb5⟩
  have HA5 : Hid ((⟨ga, triS SA ii EX, a1, a2, a3, k1, k2, k3⟩ : Rv).Ok w5 w.heap.size) := HA4.out.step hb5
  have HB5 : Hid ((⟨gb, triS SB ii EY, b1, b2, b3, l1, l2, l3⟩ : Rv).Ok w5 w.heap.size) := HB4.out.step hb5
  have HR5 : Hid ((⟨gr, triS SM ii (bothE EX EY), r1, r2, r3, u1, u2, u3⟩ : Rv).Ok w5 w.heap.size) := HR4.out.step hb5
  have HS5 : Hid ((⟨gs, triS SM ii (bothE EY EX), s1, s2, s3, v1, v2, v3⟩ : Rv).Ok w5 w.heap.size) := HS4.out.step hb5
  have HBW5 : Hid (Below w.heap.size w w5) := HBW4.out.trans (hb5.mono HBW4.out.size)
  clear HBW4 HA4 HB4 HR4 HS4
  clear hb5 KO
  go_wp2_with fail
  refine (KW.out _ gm HBW5.out hNs).mono ?_
  rintro e w6 ⟨e1, e2, e3, f1, f2, f3, rfl, hL, hb6⟩
  clear KW hNs
  have hbw := HBW5.out.trans (hb6.mono HBW5.out.size)
  have hal : Below w6.heap.size w6 (w6.alloc (.cells #[.slice e1 (triS SM ii []).K.length f1, .slice e2 (triS SM ii []).C.length f2, .slice e3 0 f3] 28)) := (Below.refl _ _).alloc (Nat.le_refl _) _
  have HW6 : Hid ((⟨w6.heap.size, triS SM ii [], e1, e2, e3, f1, f2, f3⟩ : Rv).Ok (w6.alloc (.cells #[.slice e1 (triS SM ii []).K.length f1, .slice e2 (triS SM ii []).C.length f2, .slice e3 0 f3] 28)) w.heap.size) := Rv.Ok.new (hL.mono HBW5.out.size) (HF.out _ _ (by simp)) hbw.size
  have HA6 : Hid ((⟨ga, triS SA ii EX, a1, a2, a3, k1, k2, k3⟩ : Rv).Ok (w6.alloc (.cells #[.slice e1 (triS SM ii []).K.length f1, .slice e2 (triS SM ii []).C.length f2, .slice e3 0 f3] 28)) w.heap.size) := (HA5.out.step hb6).step hal
  have HNEA : Hid (ga ≠ w6.heap.size) := by have := (HA5.out.step hb6).b.lt; show _ ≠ _; simp only at this; omega
  have HB6 : Hid ((⟨gb, triS SB ii EY, b1, b2, b3, l1, l2, l3⟩ : Rv).Ok (w6.alloc (.cells #[.slice e1 (triS SM ii []).K.length f1, .slice e2 (triS SM ii []).C.length f2, .slice e3 0 f3] 28)) w.heap.size) := (HB5.out.step hb6).step hal
  have HNEB : Hid (gb ≠ w6.heap.size) := by have := (HB5.out.step hb6).b.lt; show _ ≠ _; simp only at this; omega
  have HR6 : Hid ((⟨gr, triS SM ii (bothE EX EY), r1, r2, r3, u1, u2, u3⟩ : Rv).Ok (w6.alloc (.cells #[.slice e1 (triS SM ii []).K.length f1, .slice e2 (triS SM ii []).C.length f2, .slice e3 0 f3] 28)) w.heap.size) := (HR5.out.step hb6).step hal
  have HNER : Hid (gr ≠ w6.heap.size) := by have := (HR5.out.step hb6).b.lt; show _ ≠ _; simp only at this; omega
  have HS6 : Hid ((⟨gs, triS SM ii (bothE EY EX), s1, s2, s3, v1, v2, v3⟩ : Rv).Ok (w6.alloc (.cells #[.slice e1 (triS SM ii []).K.length f1, .slice e2 (triS SM ii []).C.length f2, .slice e3 0 f3] 28)) w.heap.size) := (HS5.out.step hb6).step hal
  have HNES : Hid (gs ≠ w6.heap.size) := by have := (HS5.out.step hb6).b.lt; show _ ≠ _; simp only at this; omega
  have HBW6 : Hid (Below w.heap.size w (w6.alloc (.cells #[.slice e1 (triS SM ii []).K.length f1, .slice e2 (triS SM ii []).C.length f2, .slice e3 0 f3] 28))) := hbw.trans (hal.mono hbw.size)
  clear hL hb6 hbw hal HBW5 HA5 HB5 HR5 HS5
  obtain ⟨zA0, zA1, zA2⟩ := HA6.out.c
  obtain ⟨zB0, zB1, zB2⟩ := HB6.out.c
  obtain ⟨zR0, zR1, zR2⟩ := HR6.out.c
  obtain ⟨zS0, zS1, zS2⟩ := HS6.out.c
  obtain ⟨zW0, zW1, zW2⟩ := HW6.out.c
  dsimp only at zA0 zA1 zA2 zB0 zB1 zB2 zR0 zR1 zR2 zS0 zS1 zS2 zW0 zW1 zW2
  go_wp2_with fail
  generalize w6.alloc (.cells #[.slice e1 (triS SM ii []).K.length f1, .slice e2 (triS SM ii []).C.length f2, .slice e3 0 f3] 28) = X6 at *
  generalize w6.heap.size = gw at *
  clear w6
  clear zA0 zA1 zA2 zB0 zB1 zB2 zR0 zR1 zR2 zS0 zS1 zS2 zW0 zW1 zW2
  refine (kboth_any EX EY a3 b3 (triS SA ii EX).E.length (triS SB ii EY).E.length k3 l3 _ (evec_lies HA6.out.l.v3 rfl) (evec_lies HB6.out.l.v3 rfl) rfl rfl (by have := HA6.out.few; simp only at this; omega) (by have := HB6.out.few; simp only at this; omega)).mono ?_
  rintro e w7 ⟨d7, cd7, Nd7, rfl, hN, hv, hb7⟩
  have hv7 := hv.mono HBW6.out.size
  clear hv
  have HA7 : Hid ((⟨ga, triS SA ii EX, a1, a2, a3, k1, k2, k3⟩ : Rv).Ok w7 w.heap.size) := HA6.out.step hb7
  have HB7 : Hid ((⟨gb, triS SB ii EY, b1, b2, b3, l1, l2, l3⟩ : Rv).Ok w7 w.heap.size) := HB6.out.step hb7
  have HR7 : Hid ((⟨gr, triS SM ii (bothE EX EY), r1, r2, r3, u1, u2, u3⟩ : Rv).Ok w7 w.heap.size) := HR6.out.step hb7
  have HS7 : Hid ((⟨gs, triS SM ii (bothE EY EX), s1, s2, s3, v1, v2, v3⟩ : Rv).Ok w7 w.heap.size) := HS6.out.step hb7
  have HW7 : Hid ((⟨gw, triS SM ii [], e1, e2, e3, f1, f2, f3⟩ : Rv).Ok w7 w.heap.size) := HW6.out.step hb7
  have HBW7 : Hid (Below w.heap.size w w7) := HBW6.out.trans (hb7.mono HBW6.out.size)
  clear HBW6 HA6 HB6 HR6 HS6 HW6
  clear hb7
  have hWb := HW7.out.b
  dsimp only at hWb
  obtain ⟨zA0, zA1, zA2⟩ := HA7.out.c
  obtain ⟨zB0, zB1, zB2⟩ := HB7.out.c
  obtain ⟨zR0, zR1, zR2⟩ := HR7.out.c
  obtain ⟨zS0, zS1, zS2⟩ := HS7.out.c
  dsimp only at zA0 zA1 zA2 zB0 zB1 zB2 zR0 zR1 zR2 zS0 zS1 zS2
  go_wp2_with (refine wpList_bput (by rfl) _ _ 26 (by rfl) gw 28 2 (by rfl) _ (.slice _ _ _) (by rfl) hWb (by kernel_rfl) (by simp) (by rfl) (by rfl) ?_; intro w9d7 hW9 hU9; dsimp only [List.set] at hW9; have HA8 : Hid ((⟨ga, triS SA ii EX, a1, a2, a3, k1, k2, k3⟩ : Rv).Ok w9d7 w.heap.size) := (HA7.out.put hWb hU9 HNEA.out); have HB8 : Hid ((⟨gb, triS SB ii EY, b1, b2, b3, l1, l2, l3⟩ : Rv).Ok w9d7 w.heap.size) := (HB7.out.put hWb hU9 HNEB.out); have HR8 : Hid ((⟨gr, triS SM ii (bothE EX EY), r1, r2, r3, u1, u2, u3⟩ : Rv).Ok w9d7 w.heap.size) := (HR7.out.put hWb hU9 HNER.out); have HS8 : Hid ((⟨gs, triS SM ii (bothE EY EX), s1, s2, s3, v1, v2, v3⟩ : Rv).Ok w9d7 w.heap.size) := (HS7.out.put hWb hU9 HNES.out); have HBB9 : Hid (Below w.heap.size w w9d7) := (hU9.below HBW7.out HW7.out.lo); have HN9 : Hid (Nd7 = (bothE EX EY).length) := hN; have HL9 := HW7.out.l.put hWb hU9; have HV9 := hv7.updo hU9 (fun b hb e1 => hWb.apart hv7 (by decide) (by rw [hb]; simp [e1])); have HLO : Hid (w.heap.size ≤ gw) := HW7.out.lo; obtain ⟨zzA0, zzA1, zzA2⟩ := HA8.out.c; dsimp only at zzA0 zzA1 zzA2; obtain ⟨zzB0, zzB1, zzB2⟩ := HB8.out.c; dsimp only at zzB0 zzB1 zzB2; obtain ⟨zzR0, zzR1, zzR2⟩ := HR8.out.c; dsimp only at zzR0 zzR1 zzR2; obtain ⟨zzS0, zzS1, zzS2⟩ := HS8.out.c; dsimp only at zzS0 zzS1 zzS2; have q0 := hW9.cell 0; have q1 := hW9.cell 1; have q2 := hW9.cell 2; dsimp only [List.getElem?_cons_zero, List.getElem?_cons_succ] at q0 q1 q2)
  clear zA0 zA1 zA2 zB0 zB1 zB2 zR0 zR1 zR2 zS0 zS1 zS2 zzA0 zzA1 zzA2 zzB0 zzB1 zzB2 zzR0 zzR1 zzR2 zzS0 zzS1 zzS2 q0 q1 q2 hv7 hWb HBW7 HA7 HB7 HR7 HS7 HW7
  obtain rfl : Nd7 = (bothE EX EY).length := HN9.out
  have HWW : Hid ((⟨gw, triS SM ii (bothE EX EY), e1, e2, d7, f1, f2, cd7⟩ : Rv).Ok w9d7 w.heap.size) := ⟨hW9, ⟨HL9.v1, HL9.v2, HV9, rfl, rfl, rfl⟩, HF.out _ _ (by have := HQ.out; omega), HLO.out⟩
  clear hW9 hU9 HL9 HV9 HN9 hN HLO
  refine (same_any (triS SM ii (bothE EX EY)).rep (triS SM ii (bothE EX EY)).rep r1 r2 r3 e1 e2 d7 u1 u2 u3 f1 f2 cd7 _ HR8.out.h HWW.out.h).mono ?_
  rintro e w10 ⟨p1, ⟨rfl, hs⟩, hb8⟩
  obtain rfl : p1 = true := hs.2 (same_refl _)
  clear hs
  have HA9 : Hid ((⟨ga, triS SA ii EX, a1, a2, a3, k1, k2, k3⟩ : Rv).Ok w10 w.heap.size) := HA8.out.step hb8
  have HB9 : Hid ((⟨gb, triS SB ii EY, b1, b2, b3, l1, l2, l3⟩ : Rv).Ok w10 w.heap.size) := HB8.out.step hb8
  have HR9 : Hid ((⟨gr, triS SM ii (bothE EX EY), r1, r2, r3, u1, u2, u3⟩ : Rv).Ok w10 w.heap.size) := HR8.out.step hb8
  have HS9 : Hid ((⟨gs, triS SM ii (bothE EY EX), s1, s2, s3, v1, v2, v3⟩ : Rv).Ok w10 w.heap.size) := HS8.out.step hb8
  have HW9 : Hid ((⟨gw, triS SM ii (bothE EX EY), e1, e2, d7, f1, f2, cd7⟩ : Rv).Ok w10 w.heap.size) := HWW.out.step hb8
  have HX9 : Hid (Below w.heap.size w w10) := HBB9.out.trans (hb8.mono HBB9.out.size)
  clear HBB9 hb8 HA8 HB8 HR8 HS8 HWW
  obtain ⟨zA0, zA1, zA2⟩ := HA9.out.c
  obtain ⟨zB0, zB1, zB2⟩ := HB9.out.c
  dsimp only at zA0 zA1 zA2 zB0 zB1 zB2
  go_wp2_with fail
  clear zA0 zA1 zA2 zB0 zB1 zB2
  refine (kboth_any EY EX b3 a3 (triS SB ii EY).E.length (triS SA ii EX).E.length l3 k3 _ (evec_lies HB9.out.l.v3 rfl) (evec_lies HA9.out.l.v3 rfl) rfl rfl (by have := HB9.out.few; simp only at this; omega) (by have := HA9.out.few; simp only at this; omega)).mono ?_
  rintro e w11 ⟨d8, cd8, Nd8, rfl, hN, hv, hb7⟩
  have hv7 := hv.mono HX9.out.size
  clear hv
  have HA10 : Hid ((⟨ga, triS SA ii EX, a1, a2, a3, k1, k2, k3⟩ : Rv).Ok w11 w.heap.size) := HA9.out.step hb7
  have HB10 : Hid ((⟨gb, triS SB ii EY, b1, b2, b3, l1, l2, l3⟩ : Rv).Ok w11 w.heap.size) := HB9.out.step hb7
  have HR10 : Hid ((⟨gr, triS SM ii (bothE EX EY), r1, r2, r3, u1, u2, u3⟩ : Rv).Ok w11 w.heap.size) := HR9.out.step hb7
  have HS10 : Hid ((⟨gs, triS SM ii (bothE EY EX), s1, s2, s3, v1, v2, v3⟩ : Rv).Ok w11 w.heap.size) := HS9.out.step hb7
  have HW10 : Hid ((⟨gw, triS SM ii (bothE EX EY), e1, e2, d7, f1, f2, cd7⟩ : Rv).Ok w11 w.heap.size) := HW9.out.step hb7
  have HX10 : Hid (Below w.heap.size w w11) := HX9.out.trans (hb7.mono HX9.out.size)
  clear HX9 HA9 HB9 HR9 HS9 HW9
  clear hb7
  have hWb := HW10.out.b
  dsimp only at hWb
  obtain ⟨zA0, zA1, zA2⟩ := HA10.out.c
  obtain ⟨zB0, zB1, zB2⟩ := HB10.out.c
  obtain ⟨zR0, zR1, zR2⟩ := HR10.out.c
  obtain ⟨zS0, zS1, zS2⟩ := HS10.out.c
  dsimp only at zA0 zA1 zA2 zB0 zB1 zB2 zR0 zR1 zR2 zS0 zS1 zS2
  go_wp2_with (refine wpList_bput (by rfl) _ _ 26 (by rfl) gw 28 2 (by rfl) _ (.slice _ _ _) (by rfl) hWb (by kernel_rfl) (by simp) (by rfl) (by rfl) ?_; intro w9d8 hW9 hU9; dsimp only [List.set] at hW9; have HA11 : Hid ((⟨ga, triS SA ii EX, a1, a2, a3, k1, k2, k3⟩ : Rv).Ok w9d8 w.heap.size) := (HA10.out.put hWb hU9 HNEA.out); have HB11 : Hid ((⟨gb, triS SB ii EY, b1, b2, b3, l1, l2, l3⟩ : Rv).Ok w9d8 w.heap.size) := (HB10.out.put hWb hU9 HNEB.out); have HR11 : Hid ((⟨gr, triS SM ii (bothE EX EY), r1, r2, r3, u1, u2, u3⟩ : Rv).Ok w9d8 w.heap.size) := (HR10.out.put hWb hU9 HNER.out); have HS11 : Hid ((⟨gs, triS SM ii (bothE EY EX), s1, s2, s3, v1, v2, v3⟩ : Rv).Ok w9d8 w.heap.size) := (HS10.out.put hWb hU9 HNES.out); have HBB9 : Hid (Below w.heap.size w w9d8) := (hU9.below HX10.out HW10.out.lo); have HN9 : Hid (Nd8 = (bothE EY EX).length) := hN; have HL9 := HW10.out.l.put hWb hU9; have HV9 := hv7.updo hU9 (fun b hb e1 => hWb.apart hv7 (by decide) (by rw [hb]; simp [e1])); have HLO : Hid (w.heap.size ≤ gw) := HW10.out.lo; obtain ⟨zzA0, zzA1, zzA2⟩ := HA11.out.c; dsimp only at zzA0 zzA1 zzA2; obtain ⟨zzB0, zzB1, zzB2⟩ := HB11.out.c; dsimp only at zzB0 zzB1 zzB2; obtain ⟨zzR0, zzR1, zzR2⟩ := HR11.out.c; dsimp only at zzR0 zzR1 zzR2; obtain ⟨zzS0, zzS1, zzS2⟩ := HS11.out.c; dsimp only at zzS0 zzS1 zzS2; have q0 := hW9.cell 0; have q1 := hW9.cell 1; have q2 := hW9.cell 2; dsimp only [List.getElem?_cons_zero, List.getElem?_cons_succ] at q0 q1 q2)
  clear zA0 zA1 zA2 zB0 zB1 zB2 zR0 zR1 zR2 zS0 zS1 zS2 zzA0 zzA1 zzA2 zzB0 zzB1 zzB2 zzR0 zzR1 zzR2 zzS0 zzS1 zzS2 q0 q1 q2 hv7 hWb HX10 HA10 HB10 HR10 HS10 HW10
  obtain rfl : Nd8 = (bothE EY EX).length := HN9.out
  have HWW : Hid ((⟨gw, triS SM ii (bothE EY EX), e1, e2, d8, f1, f2, cd8⟩ : Rv).Ok w9d8 w.heap.size) := ⟨hW9, ⟨HL9.v1, HL9.v2, HV9, rfl, rfl, rfl⟩, HF.out _ _ (by have := HQ.out; omega), HLO.out⟩
  clear hW9 hU9 HL9 HV9 HN9 hN HLO
  refine (same_any (triS SM ii (bothE EY EX)).rep (triS SM ii (bothE EY EX)).rep s1 s2 s3 e1 e2 d8 v1 v2 v3 f1 f2 cd8 _ HS11.out.h HWW.out.h).mono ?_
  rintro e w12 ⟨p2, ⟨rfl, hs⟩, hb8⟩
  obtain rfl : p2 = true := hs.2 (same_refl _)
  clear hs
  have HA12 : Hid ((⟨ga, triS SA ii EX, a1, a2, a3, k1, k2, k3⟩ : Rv).Ok w12 w.heap.size) := HA11.out.step hb8
  have HB12 : Hid ((⟨gb, triS SB ii EY, b1, b2, b3, l1, l2, l3⟩ : Rv).Ok w12 w.heap.size) := HB11.out.step hb8
  have HR12 : Hid ((⟨gr, triS SM ii (bothE EX EY), r1, r2, r3, u1, u2, u3⟩ : Rv).Ok w12 w.heap.size) := HR11.out.step hb8
  have HS12 : Hid ((⟨gs, triS SM ii (bothE EY EX), s1, s2, s3, v1, v2, v3⟩ : Rv).Ok w12 w.heap.size) := HS11.out.step hb8
  have HW12 : Hid ((⟨gw, triS SM ii (bothE EY EX), e1, e2, d8, f1, f2, cd8⟩ : Rv).Ok w12 w.heap.size) := HWW.out.step hb8
  have HX12 : Hid (Below w.heap.size w w12) := HBB9.out.trans (hb8.mono HBB9.out.size)
  clear HBB9 hb8 HA11 HB11 HR11 HS11 HWW
  obtain ⟨zR0, zR1, zR2⟩ := HR12.out.c
  obtain ⟨zB0, zB1, zB2⟩ := HB12.out.c
  dsimp only at zR0 zR1 zR2 zB0 zB1 zB2
  go_wp2_with fail
  clear zR0 zR1 zR2 zB0 zB1 zB2
  refine (pmerge_states HMost.out.again HQ.out.2.2 (by have := HQ.out; omega) (by have := HQ.out; omega) (HXok.out.both HYok.out) HYok.out (by rw [both_again]; exact HQ.out.2.1.1) HR12.out.h HB12.out.h HR12.out.caps.1 HR12.out.caps.2).mono ?_
  rw [both_again]
  rintro e w13 ⟨g1, g2, g3, h1, h2, h3, rfl, -, hL, hb13⟩
  clear HA12
  clear HB12
  clear HS12
  clear HW12
  have hbw := HX12.out.trans (hb13.mono HX12.out.size)
  have hal : Below w13.heap.size w13 (w13.alloc (.cells #[.slice g1 (triS SM ii (bothE EX EY)).K.length h1, .slice g2 (triS SM ii (bothE EX EY)).C.length h2, .slice g3 (triS SM ii (bothE EX EY)).E.length h3] 28)) := (Below.refl _ _).alloc (Nat.le_refl _) _
  have HG13 : Hid ((⟨w13.heap.size, triS SM ii (bothE EX EY), g1, g2, g3, h1, h2, h3⟩ : Rv).Ok (w13.alloc (.cells #[.slice g1 (triS SM ii (bothE EX EY)).K.length h1, .slice g2 (triS SM ii (bothE EX EY)).C.length h2, .slice g3 (triS SM ii (bothE EX EY)).E.length h3] 28)) w.heap.size) := Rv.Ok.new (hL.mono HX12.out.size) (HF.out _ _ (by have := HQ.out; omega)) hbw.size
  have HR13 : Hid ((⟨gr, triS SM ii (bothE EX EY), r1, r2, r3, u1, u2, u3⟩ : Rv).Ok (w13.alloc (.cells #[.slice g1 (triS SM ii (bothE EX EY)).K.length h1, .slice g2 (triS SM ii (bothE EX EY)).C.length h2, .slice g3 (triS SM ii (bothE EX EY)).E.length h3] 28)) w.heap.size) := (HR12.out.step hb13).step hal
  have HBW13 : Hid (Below w.heap.size w (w13.alloc (.cells #[.slice g1 (triS SM ii (bothE EX EY)).K.length h1, .slice g2 (triS SM ii (bothE EX EY)).C.length h2, .slice g3 (triS SM ii (bothE EX EY)).E.length h3] 28))) := hbw.trans (hal.mono hbw.size)
  clear hL hb13 hbw hal HX12 HR12
  obtain ⟨zG0, zG1, zG2⟩ := HG13.out.c
  obtain ⟨zR0, zR1, zR2⟩ := HR13.out.c
  dsimp only at zG0 zG1 zG2 zR0 zR1 zR2
  go_wp2_with fail
  generalize w13.alloc (.cells #[.slice g1 (triS SM ii (bothE EX EY)).K.length h1, .slice g2 (triS SM ii (bothE EX EY)).C.length h2, .slice g3 (triS SM ii (bothE EX EY)).E.length h3] 28) = X13 at *
  generalize w13.heap.size = gg at *
  clear w13
  clear zG0 zG1 zG2 zR0 zR1 zR2
  refine (same_any (triS SM ii (bothE EX EY)).rep (triS SM ii (bothE EX EY)).rep g1 g2 g3 r1 r2 r3 h1 h2 h3 u1 u2 u3 _ HG13.out.h HR13.out.h).mono ?_
  rintro e w14 ⟨p3, ⟨rfl, hs⟩, hb14⟩
  obtain rfl : p3 = true := hs.2 (same_refl _)
  clear hs
  go_wp2_with fail
  go_ret
  exact ⟨rfl, HBW13.out.trans (hb14.mono HBW13.out.size)⟩
end Go.Proofs.Ytdjpkgaicmklmab

