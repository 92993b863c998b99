/- parcellaw.handed: a copy of a replica with spare room, walked. -/
import Derived.Test.YtmafnghokmcijaaB
import Derived.Test.YtmafnghokmcijaaD
import Derived.Deep.RegionHeld3
namespace Go.Proofs.Ytmafnghokmcijaa
open Go.RowKit

abbrev mk1 : List Value := [.int .i64 (-7), .int .i64 0]
abbrev mk2 : List Value := [.int .i64 (-7), .int .i64 0, .int .i64 0, .bool false, .string ⟨#[]⟩]
abbrev mk3 : List Value := [.int .i64 (-7), .string ⟨#[]⟩]
abbrev z1 : List Value := [.int .i64 0, .int .i64 0]
abbrev z2 : List Value := [.int .i64 0, .int .i64 0, .int .i64 0, .bool false, .string ⟨#[]⟩]
abbrev z3 : List Value := [.int .i64 0, .string ⟨#[]⟩]

/-- A copy of a replica, with two marks behind each row. -/
structure Handed (w : World) (R : Rep) (b1 b2 b3 : Option Addr) (g1 g2 g3 : Nat) : Prop where
  e1 : b1 = some ⟨g1, 0, none⟩
  e2 : b2 = some ⟨g2, 0, none⟩
  e3 : b3 = some ⟨g3, 0, none⟩
  o1 : Own w g1 57 2 ((List.range R.n1).map (fun i => (R.c i).cells) ++ [mk1, mk1])
  o2 : Own w g2 59 5 ((List.range R.n2).map (fun i => (R.d i).cells) ++ [mk2, mk2])
  o3 : Own w g3 61 2 ((List.range R.n3).map (fun i => (R.e i).cells) ++ [mk3, mk3])
  d12 : g1 < g2
  d23 : g2 < g3

/-- Two places behind a row, the first i of them marked. -/
def mrk (i : Nat) (m z : List Value) : List (List Value) := if i = 0 then [z, z] else if i = 1 then [m, z] else [m, m]
theorem mrk_start (n : Nat) (f : Nat → List Value) (m z : List Value) : (List.range n).map f ++ (List.replicate (n + 2) z).drop n = (List.range n).map f ++ mrk 0 m z := by
  congr 1
  rw [List.drop_replicate, show n + 2 - n = 2 by omega]; rfl
theorem mrk_length (n i : Nat) (f : Nat → List Value) (m z : List Value) : ((List.range n).map f ++ mrk i m z).length = n + 2 := by
  unfold mrk; split; (simp); split <;> simp
theorem mrk_step (n i : Nat) (f : Nat → List Value) (m z : List Value) (hi : i < 2) : ((List.range n).map f ++ mrk i m z).set (n + i) m = (List.range n).map f ++ mrk (i + 1) m z := by
  rw [List.set_append]
  simp only [List.length_map, List.length_range]
  rw [if_neg (by omega), show n + i - n = i by omega]
  congr 1
  rcases (by omega : i = 0 ∨ i = 1) with rfl | rfl <;> rfl
theorem mrk_end (m z : List Value) : mrk 2 m z = [m, m] := rfl

/-- The world behind the parameter's box and the result's cell. -/
abbrev W2 (w : World) (R : Rep) (a1 a2 a3 : Option Addr) (k1 k2 k3 : Nat) : World :=
  (w.alloc (.cells #[.slice a1 R.n1 k1, .slice a2 R.n2 k2, .slice a3 R.n3 k3] 26)).alloc (.cells #[.slice none 0 0, .slice none 0 0, .slice none 0 0] 26)
abbrev Box2 (w : World) (R : Rep) (a1 a2 a3 : Option Addr) (k1 k2 k3 : Nat) (wr : World) : Prop := Below (w.heap.size + 2) (W2 w R a1 a2 a3 k1 k2 k3) wr

theorem Box2.cells {w : World} {R : Rep} {a1 a2 a3 : Option Addr} {k1 k2 k3 : Nat} {wr : World} (hb : Box2 w R a1 a2 a3 k1 k2 k3 wr) :
    wr.cell? ⟨w.heap.size, 0, none⟩ = some (.slice a1 R.n1 k1) ∧ wr.cell? ⟨w.heap.size, 1, none⟩ = some (.slice a2 R.n2 k2) ∧ wr.cell? ⟨w.heap.size, 2, none⟩ = some (.slice a3 R.n3 k3) := by
  refine ⟨?_, ?_, ?_⟩
  · rw [hb.cell (p := ⟨w.heap.size, 0, none⟩) (by simp)]; simp
  · rw [hb.cell (p := ⟨w.heap.size, 1, none⟩) (by simp)]; simp
  · rw [hb.cell (p := ⟨w.heap.size, 2, none⟩) (by simp)]; simp
theorem Box2.size {w : World} {R : Rep} {a1 a2 a3 : Option Addr} {k1 k2 k3 : Nat} {wr : World} (hb : Box2 w R a1 a2 a3 k1 k2 k3 wr) : w.heap.size + 2 ≤ wr.heap.size := by
  have := Below.size hb; simpa using this
theorem Box2.res {w : World} {R : Rep} {a1 a2 a3 : Option Addr} {k1 k2 k3 : Nat} {wr : World} (hb : Box2 w R a1 a2 a3 k1 k2 k3 wr) :
    (wr.cell? ⟨w.heap.size + 1, 0, none⟩ = some (.slice none 0 0) ∧ wr.cell? ⟨w.heap.size + 1, 1, none⟩ = some (.slice none 0 0) ∧ wr.cell? ⟨w.heap.size + 1, 2, none⟩ = some (.slice none 0 0)) ∧
    (∀ j, wr.frozen? ⟨w.heap.size + 1, j, none⟩ = false) := by
  refine ⟨⟨?_, ?_, ?_⟩, fun j => ?_⟩
  · rw [hb.cell (p := ⟨w.heap.size + 1, 0, none⟩) (by simp)]; simp
  · rw [hb.cell (p := ⟨w.heap.size + 1, 1, none⟩) (by simp)]; simp
  · rw [hb.cell (p := ⟨w.heap.size + 1, 2, none⟩) (by simp)]; simp
  · rw [hb.frozen (p := ⟨w.heap.size + 1, j, none⟩) (by simp)]; simp
theorem Box2.old {w : World} {R : Rep} {a1 a2 a3 : Option Addr} {k1 k2 k3 : Nat} {wr : World} (hb : Box2 w R a1 a2 a3 k1 k2 k3 wr) : Below w.heap.size w wr :=
  (((Below.refl _ w).alloc (Nat.le_refl _) _).alloc (by simp) _).trans (hb.mono (by omega))
theorem Box2.step {w : World} {R : Rep} {a1 a2 a3 : Option Addr} {k1 k2 k3 : Nat} {wr w' : World} (hb : Box2 w R a1 a2 a3 k1 k2 k3 wr) (h : Below wr.heap.size wr w') : Box2 w R a1 a2 a3 k1 k2 k3 w' :=
  Below.trans hb (h.mono hb.size)

theorem set3 (wr : World) (b : Nat) (x y z u0 u1 u2 : Value) (h0 : wr.cell? ⟨b, 0, none⟩ = some u0) (h1 : wr.cell? ⟨b, 1, none⟩ = some u1) (h2 : wr.cell? ⟨b, 2, none⟩ = some u2) :
    ∃ X, X = (((wr.setCell ⟨b, 0, none⟩ x).setCell ⟨b, 1, none⟩ y).setCell ⟨b, 2, none⟩ z).drew ∧ X.cell? ⟨b, 0, none⟩ = some x ∧ X.cell? ⟨b, 1, none⟩ = some y ∧ X.cell? ⟨b, 2, none⟩ = some z ∧ Upd b wr X := by
  refine ⟨_, rfl, ?_, ?_, ?_, ((((Upd.refl b wr).setCell ⟨b, 0, none⟩ rfl x).setCell ⟨b, 1, none⟩ rfl y).setCell ⟨b, 2, none⟩ rfl z).drew⟩ <;> simp [go_sem, h0, h1, h2]
theorem cells_len1 (x : Ck) : x.cells.length = 2 := rfl
theorem ones1 (x : Ck) : ∀ v, v ∈ x.cells → v.oneCell' = true := by intro v h; simp at h; rcases h with rfl | rfl <;> rfl
theorem ones2 (x : Cd) : ∀ v, v ∈ x.cells → v.oneCell' = true := by intro v h; simp at h; rcases h with rfl | rfl | rfl | rfl | rfl <;> rfl
theorem ones3 (x : Ed) : ∀ v, v ∈ x.cells → v.oneCell' = true := by intro v h; simp at h; rcases h with rfl | rfl <;> rfl

set_option maxRecDepth 100000 in
set_option maxHeartbeats 4000000 in
theorem handed_any (R : Rep) (a1 a2 a3 : Option Addr) (k1 k2 k3 : Nat) (w : World) (hR : Has w R a1 a2 a3) :
    Calls Try.prog 10 #[repV R a1 a2 a3 k1 k2 k3] w fun e w' => ∃ b1 b2 b3 g1 g2 g3, e = .returned (repV R b1 b2 b3 (R.n1 + 2) (R.n2 + 2) (R.n3 + 2)) ∧ Handed w' R b1 b2 b3 g1 g2 g3 ∧ w.heap.size ≤ g1 ∧ Below w.heap.size w w' := by
  have b1 := hR.b1; have b2 := hR.b2; have b3 := hR.b3; have y1 := hR.y1; have y2 := hR.y2; have y3 := hR.y3
  go_enter Try.func10, Try.ntmps10
  go_wp2_with (first
    | (at_make; refine wpList_make_rows (by rfl) _ _ 22 (by rfl) 57 z1 2 16 Try.underlying22 (by kernel_rfl) rfl (by decide) (R.n1 + 2) _ ?_ (by rfl) (by rfl) ?_ ?_ ?_; (omega); (omega); (omega); intro g1 ad1 w1 e1 hg1 hl1 o1 hb1; have q1 : Box2 w R a1 a2 a3 k1 k2 k3 w1 := hb1.mono (by simp); clear hb1; obtain ⟨c11, c12, c13⟩ := q1.cells; have hL1 := (hR.below q1.old).l1; simp only [World.size_alloc] at hg1)
    | (at_make; refine wpList_make_rows (by rfl) _ _ 23 (by rfl) 59 z2 5 48 Try.underlying23 (by kernel_rfl) rfl (by decide) (R.n2 + 2) _ ?_ (by rfl) (by rfl) ?_ ?_ ?_; (omega); (omega); (omega); intro g2 ad2 w3 e2 hg2 hl3 o2 hb3; have q3 : Box2 w R a1 a2 a3 k1 k2 k3 w3 := q2.step hb3; have o13 := o1'.below hb3 hl2; obtain ⟨c31, c32, c33⟩ := q3.cells; have hL3 := (hR.below q3.old).l2; have hg12 : g1 < g2 := (by omega); clear q2 c21 c22 c23 hL2 o1' hb3 hl2 hg2)
    | (at_make; refine wpList_make_rows (by rfl) _ _ 24 (by rfl) 61 z3 2 24 Try.underlying24 (by kernel_rfl) rfl (by decide) (R.n3 + 2) _ ?_ (by rfl) (by rfl) ?_ ?_ ?_; (omega); (omega); (omega); intro g3 ad3 w5 e3 hg3 hl5 o3 hb5; have q5 : Box2 w R a1 a2 a3 k1 k2 k3 w5 := q4.step hb5; have o15 := o14.below hb5 (by omega); have o25 := o2'.below hb5 hl4; obtain ⟨c51, c52, c53⟩ := q5.cells; have hL5 := (hR.below q5.old).l3; have hg23 : g2 < g3 := (by omega); clear q4 c41 c42 c43 o14 o2' hb5 hl4 hg3)
    | (refine wpList_copy_rows (by rfl) _ _ 22 22 (by rfl) 57 2 Try.underlying22 (by kernel_rfl) g1 ad1 e1 (R.n1 + 2) _ R.n1 _ _ (by rfl) (by rfl) (fun i => (R.c i).cells) _ o1 ?_ ?_ hL1 ?_ ?_ ?_; (simp); (omega); (intro i _; rfl); (intro i _; exact ones1 _); intro w2 o1' u2; have q2 : Box2 w R a1 a2 a3 k1 k2 k3 w2 := u2.below q1 (by omega); obtain ⟨c21, c22, c23⟩ := q2.cells; have hl2 : g1 < w2.heap.size := o1'.lt; have hL2 := (hR.below q2.old).l2; clear q1 c11 c12 c13 hL1 o1 u2 hl1)
    | (refine wpList_copy_rows (by rfl) _ _ 23 23 (by rfl) 59 5 Try.underlying23 (by kernel_rfl) g2 ad2 e2 (R.n2 + 2) _ R.n2 _ _ (by rfl) (by rfl) (fun i => (R.d i).cells) _ o2 ?_ ?_ hL3 ?_ ?_ ?_; (simp); (omega); (intro i _; rfl); (intro i _; exact ones2 _); intro w4 o2' u4; have q4 : Box2 w R a1 a2 a3 k1 k2 k3 w4 := u4.below q3 (by omega); obtain ⟨c41, c42, c43⟩ := q4.cells; have hl4 : g2 < w4.heap.size := o2'.lt; have o14 := o13.upd u4 (by omega); clear q3 c31 c32 c33 hL3 o2 u4 o13 hl3)
    | (refine wpList_copy_rows (by rfl) _ _ 24 24 (by rfl) 61 2 Try.underlying24 (by kernel_rfl) g3 ad3 e3 (R.n3 + 2) _ R.n3 _ _ (by rfl) (by rfl) (fun i => (R.e i).cells) _ o3 ?_ ?_ hL5 ?_ ?_ ?_; (simp); (omega); (intro i _; rfl); (intro i _; exact ones3 _); intro w6 o3' u6; have q6 : Box2 w R a1 a2 a3 k1 k2 k3 w6 := u6.below q5 (by omega); have o16 := o15.upd u6 (by omega); have o26 := o25.upd u6 (by omega); clear q5 c51 c52 c53 hL5 o3 u6 o15 o25 hl5))
  rw [mrk_start _ _ mk1] at o16
  rw [mrk_start _ _ mk2] at o26
  rw [mrk_start _ _ mk3] at o3'
  go_loopw [6] (fun v wr => ∃ i : Nat, i ≤ 2 ∧ v = .int .i64 i ∧ Own wr g1 57 2 ((List.range R.n1).map (fun i => (R.c i).cells) ++ mrk i mk1 z1) ∧ Own wr g2 59 5 ((List.range R.n2).map (fun i => (R.d i).cells) ++ mrk i mk2 z2) ∧ Own wr g3 61 2 ((List.range R.n3).map (fun i => (R.e i).cells) ++ mrk i mk3 z3) ∧ Box2 w R a1 a2 a3 k1 k2 k3 wr) (fun v _ => 2 - (intOf v).toNat)
  case atStart => exact ⟨0, by omega, rfl, o16, o26, o3', q6⟩
  case round =>
    clear o16 o26 o3' q6
    obtain ⟨i, hi, rfl, o1, o2, o3, q⟩ := hrel
    obtain ⟨c1, c2, c3⟩ := q.cells
    by_cases hlt : i < 2
    · have x1 := fun w' => Own.idx e1 (P := Try.prog) (t := 22) (m := 2) (R.n1 + 2) (R.n1 + 2) (by kernel_rfl) (by kernel_rfl) (k := R.n1 + i) (by omega) ((R.n1 : Int) + (i : Int)) (by omega) w'
      have x2 := fun w' => Own.idx e2 (P := Try.prog) (t := 23) (m := 5) (R.n2 + 2) (R.n2 + 2) (by kernel_rfl) (by kernel_rfl) (k := R.n2 + i) (by omega) ((R.n2 : Int) + (i : Int)) (by omega) w'
      have x3 := fun w' => Own.idx e3 (P := Try.prog) (t := 24) (m := 2) (R.n3 + 2) (R.n3 + 2) (by kernel_rfl) (by kernel_rfl) (k := R.n3 + i) (by omega) ((R.n3 : Int) + (i : Int)) (by omega) w'
      go_wp2_with (first
        | (refine wpList_store_rows (by rfl) _ _ 57 (by rfl) 57 2 (by kernel_rfl) g1 (R.n1 + i) _ rfl (by rfl) mk1 (by rfl) rfl ?_ _ o1 ?_ ?_; (simp [Value.oneCell']); (rw [mrk_length]; omega); rw [mrk_step _ _ _ _ _ hlt]; intro wa oa ua; have ob := o2.upd ua (by omega); have oc := o3.upd ua (by omega); have qa : Box2 w R a1 a2 a3 k1 k2 k3 wa := ua.below q (by omega); obtain ⟨ca1, ca2, ca3⟩ := qa.cells; clear o1 o2 o3 q c1 c2 c3 ua)
        | (refine wpList_store_rows (by rfl) _ _ 59 (by rfl) 59 5 (by kernel_rfl) g2 (R.n2 + i) _ rfl (by rfl) mk2 (by rfl) rfl ?_ _ ob ?_ ?_; (simp [Value.oneCell']); (rw [mrk_length]; omega); rw [mrk_step _ _ _ _ _ hlt]; intro wb od ub; have oe := oa.upd ub (by omega); have of := oc.upd ub (by omega); have qb : Box2 w R a1 a2 a3 k1 k2 k3 wb := ub.below qa (by omega); obtain ⟨cb1, cb2, cb3⟩ := qb.cells; clear oa ob oc qa ca1 ca2 ca3 ub)
        | (refine wpList_store_rows (by rfl) _ _ 61 (by rfl) 61 2 (by kernel_rfl) g3 (R.n3 + i) _ rfl (by rfl) mk3 (by rfl) rfl ?_ _ of ?_ ?_; (simp [Value.oneCell']); (rw [mrk_length]; omega); rw [mrk_step _ _ _ _ _ hlt]; intro wc og uc; have oh := oe.upd uc (by omega); have oi := od.upd uc (by omega); have qc : Box2 w R a1 a2 a3 k1 k2 k3 wc := uc.below qb (by omega); clear od oe of qb cb1 cb2 cb3 uc))
      go_roundw
      case rel => exact ⟨i + 1, by omega, by go_num, oh, oi, og, qc⟩
      case measure => simp [intOf]; omega
    · obtain rfl : i = 2 := by omega
      rw [mrk_end] at o1 o2 o3
      obtain ⟨⟨r1, r2, r3⟩, rf⟩ := q.res
      have rf0 := rf 0; have rf1 := rf 1; have rf2 := rf 2
      have u1 : (0 : Int) ≤ (R.n1 : Int) := by omega
      have u2 : (R.n1 : Int) ≤ (R.n1 : Int) + 2 := by omega
      have u3 : (0 : Int) ≤ (R.n2 : Int) := by omega
      have u4 : (R.n2 : Int) ≤ (R.n2 : Int) + 2 := by omega
      have u5 : (0 : Int) ≤ (R.n3 : Int) := by omega
      have u6 : (R.n3 : Int) ≤ (R.n3 : Int) + 2 := by omega
      have hz := q.size
      go_wp2_with fail
      go_region_held3 (fun w' => w'.cell? ⟨w.heap.size, 0, none⟩ = some (.slice a1 R.n1 k1) ∧ w'.cell? ⟨w.heap.size, 1, none⟩ = some (.slice a2 R.n2 k2) ∧ w'.cell? ⟨w.heap.size, 2, none⟩ = some (.slice a3 R.n3 k3))
         (first | (go_keep; done))
         (fail)
      go_wp2_with fail
      obtain ⟨X, hX, x0, x1, x2, hu⟩ := set3 wr (w.heap.size + 1) (.slice ad1 R.n1 (R.n1 + 2)) (.slice ad2 R.n2 (R.n2 + 2)) (.slice ad3 R.n3 (R.n3 + 2)) _ _ _ r1 r2 r3
      rw [← hX]
      clear hX
      have hH : Handed X R ad1 ad2 ad3 g1 g2 g3 := ⟨e1.out, e2.out, e3.out, o1.upd hu (by omega), o2.upd hu (by omega), o3.upd hu (by omega), hg12, hg23⟩
      have hB : Below w.heap.size w X := hu.below q.old (by omega)
      have hgg : w.heap.size ≤ g1 := by omega
      refine bodyPost_ret (v := repV R ad1 ad2 ad3 (R.n1 + 2) (R.n2 + 2) (R.n3 + 2)) ?_ rfl ⟨ad1, ad2, ad3, g1, g2, g3, rfl, hH, hgg, hB⟩
      simp [results, Try.results10, go_sem, x0, x1, x2]
end Go.Proofs.Ytmafnghokmcijaa
