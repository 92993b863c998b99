/- Texts of the proof, one behind the other; what each holds is said at its head. -/
import Derived.Test.YtdjpkgaicmklmaaPartMerges10
import Derived.Test.YtdjpkgaicmklmaaPartMerges11
import Derived.Test.YtdjpkgaicmklmaaPartMerges8
import Derived.Test.YtdjpkgaicmklmaaPartMerges0
import Derived.ProofKit
import Derived.SizedLaws
import Derived.Lib.SmallJoins
import Derived.Deep.Slices
/- parcellaw.merged and Merges: called with any two replicas it answers true. -/
namespace Go.Proofs.Ytdjpkgaicmklmaa
open Go.RowKit

theorem repV_tri (A : Rep) (a1 a2 a3 : Option Addr) (k1 k2 k3 : Nat) : repV A.tri.rep a1 a2 a3 k1 k2 k3 = repV A a1 a2 a3 k1 k2 k3 := by
  simp [repV, Tri.rep, repOf, Rep.tri]
theorem Has.tri {w : World} {A : Rep} {a1 a2 a3 : Option Addr} (h : Has w A a1 a2 a3) : Has w A.tri.rep a1 a2 a3 := by
  have e1 : A.tri.rep.n1 = A.n1 := (tri_len A).1
  have e2 : A.tri.rep.n2 = A.n2 := (tri_len A).2.1
  have e3 : A.tri.rep.n3 = A.n3 := (tri_len A).2.2
  refine ⟨?_, ?_, ?_, by rw [e1]; exact h.b1, by rw [e2]; exact h.b2, by rw [e3]; exact h.b3, by rw [e1]; exact h.y1, by rw [e2]; exact h.y2, by rw [e3]; exact h.y3⟩
  · rw [e1]; rcases h.l1 with h | ⟨b, o, e, hb, hc⟩
    · exact Or.inl h
    · exact Or.inr ⟨b, o, e, hb, fun i hi j v hj hv => hc i hi j v hj (by simpa [Tri.rep, repOf, Rep.tri, List.getD, hi] using hv)⟩
  · rw [e2]; rcases h.l2 with h | ⟨b, o, e, hb, hc⟩
    · exact Or.inl h
    · exact Or.inr ⟨b, o, e, hb, fun i hi j v hj hv => hc i hi j v hj (by simpa [Tri.rep, repOf, Rep.tri, List.getD, hi] using hv)⟩
  · rw [e3]; rcases h.l3 with h | ⟨b, o, e, hb, hc⟩
    · exact Or.inl h
    · exact Or.inr ⟨b, o, e, hb, fun i hi j v hj hv => hc i hi j v hj (by simpa [Tri.rep, repOf, Rep.tri, List.getD, hi] using hv)⟩
theorem pmerge_rep (A B : Rep) (a1 a2 a3 b1 b2 b3 : Option Addr) (k1 k2 k3 l1 l2 l3 : Nat) (w : World) (hA : Has w A a1 a2 a3) (hB : Has w B b1 b2 b3) (hk1 : A.n1 ≤ k1) (hk2 : A.n2 ≤ k2) :
    Calls Try.prog 61 #[repV A a1 a2 a3 k1 k2 k3, repV B b1 b2 b3 l1 l2 l3] w fun e w' => MergeAns (mergeRd A.tri B.tri) w.heap.size e w' ∧ Below w.heap.size w w' := by
  have := pmerge_any A.tri B.tri a1 a2 a3 b1 b2 b3 k1 k2 k3 l1 l2 l3 w hA.tri hB.tri (by rw [(tri_len A).1]; exact hk1) (by rw [(tri_len A).2.1]; exact hk2)
  rw [repV_tri, repV_tri] at this
  exact this
theorem mergeRd_few (a b : Tri) : (mergeRd a b).K.length ≤ 8 ∧ (mergeRd a b).C.length ≤ 40 ∧ (mergeRd a b).E.length ≤ 16 := by
  have he : ∀ e p, (ansErr e p).K.length ≤ 8 ∧ (ansErr e p).C.length ≤ 40 ∧ (ansErr e p).E.length ≤ 16 := fun e p => ⟨by simp [ansErr], by simp [ansErr], by simp [ansErr]⟩
  unfold mergeRd
  split
  · split
    · split
      · exact he _ _
      · split
        · exact he _ _
        · rename_i h; exact ⟨by simp only; omega, by simp only; omega, by simp only; omega⟩
    · exact he _ _
  · exact he _ _
theorem Lists.upd3 {w w' : World} {B g1 g2 g3 : Nat} {K : List Ck} {C : List Cd} {E : List Ed} {a1 : Option Addr} {n1 c1 : Nat} {a2 : Option Addr} {n2 c2 : Nat} {a3 : Option Addr} {n3 c3 : Nat} (h : Lists w B K C E a1 n1 c1 a2 n2 c2 a3 n3 c3) (hu : Upd3 g1 g2 g3 w w') (h1 : g1 < B) (h2 : g2 < B) (h3 : g3 < B) : Lists w' B K C E a1 n1 c1 a2 n2 c2 a3 n3 c3 :=
  ⟨h.v1.upd3 hu h1 h2 h3, h.v2.upd3 hu h1 h2 h3, h.v3.upd3 hu h1 h2 h3, h.e1, h.e2, h.e3⟩
theorem Handed.upd3 {w w' : World} {R : Rep} {b1 b2 b3 : Option Addr} {g1 g2 g3 h1 h2 h3 : Nat} (h : Handed w R b1 b2 b3 g1 g2 g3) (hu : Upd3 h1 h2 h3 w w') (hlt : h3 < g1) (d1 : h1 < h2) (d2 : h2 < h3) : Handed w' R b1 b2 b3 g1 g2 g3 :=
  have := h.d12; have := h.d23
  ⟨h.e1, h.e2, h.e3, h.o1.upd3 hu (by omega) (by omega) (by omega), h.o2.upd3 hu (by omega) (by omega) (by omega), h.o3.upd3 hu (by omega) (by omega) (by omega), h.d12, h.d23⟩

/-- The two that came in, in variables; what was made of them. -/
structure Mg (w : World) (A B : Rep) (a1 a2 a3 b1 b2 b3 : Option Addr) (k1 k2 k3 l1 l2 l3 : Nat) (wX : World) : Prop where
  a : Bx wX w.heap.size 26 [.slice a1 A.n1 k1, .slice a2 A.n2 k2, .slice a3 A.n3 k3]
  b : Bx wX (w.heap.size + 1) 26 [.slice b1 B.n1 l1, .slice b2 B.n2 l2, .slice b3 B.n3 l3]
  old : Below w.heap.size w wX
  sz : w.heap.size + 2 ≤ wX.heap.size
theorem Mg.step {w : World} {A B : Rep} {a1 a2 a3 b1 b2 b3 : Option Addr} {k1 k2 k3 l1 l2 l3 : Nat} {wX wY : World} (h : Mg w A B a1 a2 a3 b1 b2 b3 k1 k2 k3 l1 l2 l3 wX) (hb : Below wX.heap.size wX wY) : Mg w A B a1 a2 a3 b1 b2 b3 k1 k2 k3 l1 l2 l3 wY :=
  ⟨h.a.below hb h.a.lt, h.b.below hb h.b.lt, h.old.trans (hb.mono h.old.size), Nat.le_trans h.sz hb.size⟩

set_option maxRecDepth 100000 in
set_option maxHeartbeats 8000000 in
theorem lmerged_any (A B : Rep) (a1 a2 a3 b1 b2 b3 : Option Addr) (k1 k2 k3 l1 l2 l3 : Nat) (w0 w : World) (hA : Has w0 A a1 a2 a3) (hB : Has w0 B b1 b2 b3) (hw : Below w0.heap.size w0 w)
    (go : Nat) (n : Int) (a4 : Option Addr) (d4 : Nat) (L : List Bk) (a5 : Option Addr) (d5 : Nat) (L2 : List Bk) (a6 : Option Addr) (d6 : Nat) (L3 : List Bk) (hO : OwnR w w0.heap.size go n a4 d4 L a5 d5 L2 a6 d6 L3) (hL : L.length ≤ 900 ∧ L2.length ≤ 900 ∧ L3.length ≤ 900) (hgo : w0.heap.size ≤ go) (hn0 : 0 ≤ n) (hn1 : n ≤ 900) :
    Calls Try.prog 28 #[repV A a1 a2 a3 k1 k2 k3, repV B b1 b2 b3 l1 l2 l3, .pointer (some ⟨go, 0, none⟩)] w fun e w' => (e = .returned (.bool true) ∧ ∃ a5 c5 L5 a6 c6 L6 a7 c7 L7, (L5.length = L.length + 4 ∧ L6.length = L2.length + 4 ∧ L7.length = L3.length + 4) ∧ OwnR w' w0.heap.size go (n + 1) a5 c5 L5 a6 c6 L6 a7 c7 L7) ∧ Below w0.heap.size w0 w' := by
  obtain ⟨q1, q2, qs, qb⟩ := two_boxes w 26 26 #[.slice a1 A.n1 k1, .slice a2 A.n2 k2, .slice a3 A.n3 k3] #[.slice b1 B.n1 l1, .slice b2 B.n2 l2, .slice b3 B.n3 l3]
  have H0 : Hid (Mg w A B a1 a2 a3 b1 b2 b3 k1 k2 k3 l1 l2 l3 ((w.alloc (.cells #[.slice a1 A.n1 k1, .slice a2 A.n2 k2, .slice a3 A.n3 k3] 26)).alloc (.cells #[.slice b1 B.n1 l1, .slice b2 B.n2 l2, .slice b3 B.n3 l3] 26))) := ⟨q1, q2, qb, by rw [qs]; exact Nat.le_refl _⟩
  clear q1 q2 qs qb
  have y := hA.b1; have y2 := hA.b2; have y3 := hA.b3
  have z1 := hB.b1; have z2 := hB.b2; have z3 := hB.b3
  have HAB : Hid (∀ X, Below w.heap.size w X → Has X A a1 a2 a3 ∧ Has X B b1 b2 b3 ∧ Below w0.heap.size w0 X) := fun X h => ⟨hA.below (hw.trans (h.mono hw.size)), hB.below (hw.trans (h.mono hw.size)), hw.trans (h.mono hw.size)⟩
  have HO : Hid (OwnR w w0.heap.size go n a4 d4 L a5 d5 L2 a6 d6 L3) := hO
  have HL : Hid (L.length ≤ 900 ∧ L2.length ≤ 900 ∧ L3.length ≤ 900) := hL
  have HWW : Hid (w0.heap.size ≤ w.heap.size) := hw.size
  clear hA hB hw hO hL
  obtain ⟨x0, x1, x2⟩ : _ ∧ _ ∧ _ := ⟨H0.out.a.cell 0, H0.out.a.cell 1, H0.out.a.cell 2⟩
  dsimp only [List.getElem?_cons_zero, List.getElem?_cons_succ] at x0 x1 x2
  go_enter Try.func28, Try.ntmps28
  go_wp2_with fail
  refine (handed_any A a1 a2 a3 k1 k2 k3 _ (HAB.out _ H0.out.old).1).mono ?_
  rintro e w1 ⟨p1, p2, p3, g1, g2, g3, rfl, hH, hg, hb1⟩
  have hal : Below w1.heap.size w1 (w1.alloc (.cells #[.slice p1 A.n1 (A.n1 + 2), .slice p2 A.n2 (A.n2 + 2), .slice p3 A.n3 (A.n3 + 2)] 26)) := (Below.refl _ _).alloc (Nat.le_refl _) _
  have HM1 : Hid (Mg w A B a1 a2 a3 b1 b2 b3 k1 k2 k3 l1 l2 l3 (w1.alloc (.cells #[.slice p1 A.n1 (A.n1 + 2), .slice p2 A.n2 (A.n2 + 2), .slice p3 A.n3 (A.n3 + 2)] 26))) := (H0.out.step hb1).step hal
  have HH1 : Hid (Handed (w1.alloc (.cells #[.slice p1 A.n1 (A.n1 + 2), .slice p2 A.n2 (A.n2 + 2), .slice p3 A.n3 (A.n3 + 2)] 26)) A p1 p2 p3 g1 g2 g3) := hH.below hal
  have HX1 : Hid (Bx (w1.alloc (.cells #[.slice p1 A.n1 (A.n1 + 2), .slice p2 A.n2 (A.n2 + 2), .slice p3 A.n3 (A.n3 + 2)] 26)) w1.heap.size 26 [.slice p1 A.n1 (A.n1 + 2), .slice p2 A.n2 (A.n2 + 2), .slice p3 A.n3 (A.n3 + 2)]) := Bx.new _ _ _
  have HG1 : Hid (w.heap.size + 2 ≤ g1 ∧ g3 < w1.heap.size) := ⟨Nat.le_trans H0.out.sz hg, hH.o3.lt⟩
  clear hH hg hb1 hal H0 x0 x1 x2
  obtain ⟨x0, x1, x2⟩ : _ ∧ _ ∧ _ := ⟨HM1.out.b.cell 0, HM1.out.b.cell 1, HM1.out.b.cell 2⟩
  dsimp only [List.getElem?_cons_zero, List.getElem?_cons_succ] at x0 x1 x2
  go_wp2_with fail
  generalize w1.alloc (.cells #[.slice p1 A.n1 (A.n1 + 2), .slice p2 A.n2 (A.n2 + 2), .slice p3 A.n3 (A.n3 + 2)] 26) = X1 at *
  generalize w1.heap.size = gx at *
  clear w1
  refine (handed_any B b1 b2 b3 l1 l2 l3 _ (HAB.out _ HM1.out.old).2.1).mono ?_
  rintro e w2 ⟨r1, r2, r3, h1, h2, h3, rfl, hH, hg, hb2⟩
  have hal : Below w2.heap.size w2 (w2.alloc (.cells #[.slice r1 B.n1 (B.n1 + 2), .slice r2 B.n2 (B.n2 + 2), .slice r3 B.n3 (B.n3 + 2)] 26)) := (Below.refl _ _).alloc (Nat.le_refl _) _
  have HM2 : Hid (Mg w A B a1 a2 a3 b1 b2 b3 k1 k2 k3 l1 l2 l3 (w2.alloc (.cells #[.slice r1 B.n1 (B.n1 + 2), .slice r2 B.n2 (B.n2 + 2), .slice r3 B.n3 (B.n3 + 2)] 26))) := (HM1.out.step hb2).step hal
  have HH2 : Hid (Handed (w2.alloc (.cells #[.slice r1 B.n1 (B.n1 + 2), .slice r2 B.n2 (B.n2 + 2), .slice r3 B.n3 (B.n3 + 2)] 26)) A p1 p2 p3 g1 g2 g3 ∧ Handed (w2.alloc (.cells #[.slice r1 B.n1 (B.n1 + 2), .slice r2 B.n2 (B.n2 + 2), .slice r3 B.n3 (B.n3 + 2)] 26)) B r1 r2 r3 h1 h2 h3) := ⟨(HH1.out.below hb2).below hal, hH.below hal⟩
  have HX2 : Hid (Bx (w2.alloc (.cells #[.slice r1 B.n1 (B.n1 + 2), .slice r2 B.n2 (B.n2 + 2), .slice r3 B.n3 (B.n3 + 2)] 26)) gx 26 [.slice p1 A.n1 (A.n1 + 2), .slice p2 A.n2 (A.n2 + 2), .slice p3 A.n3 (A.n3 + 2)] ∧ Bx (w2.alloc (.cells #[.slice r1 B.n1 (B.n1 + 2), .slice r2 B.n2 (B.n2 + 2), .slice r3 B.n3 (B.n3 + 2)] 26)) w2.heap.size 26 [.slice r1 B.n1 (B.n1 + 2), .slice r2 B.n2 (B.n2 + 2), .slice r3 B.n3 (B.n3 + 2)]) := ⟨(HX1.out.below hb2 HX1.out.lt).alloc _, Bx.new _ _ _⟩
  have HG2 : Hid (gx < h1 ∧ h3 < w2.heap.size) := ⟨Nat.lt_of_lt_of_le HX1.out.lt hg, hH.o3.lt⟩
  clear hH hg hb2 hal HM1 HH1 HX1 x0 x1 x2
  obtain ⟨⟨x0, x1, x2⟩, u0, u1, u2⟩ : (_ ∧ _ ∧ _) ∧ _ ∧ _ ∧ _ := ⟨⟨HX2.out.1.cell 0, HX2.out.1.cell 1, HX2.out.1.cell 2⟩, HX2.out.2.cell 0, HX2.out.2.cell 1, HX2.out.2.cell 2⟩
  dsimp only [List.getElem?_cons_zero, List.getElem?_cons_succ] at x0 x1 x2 u0 u1 u2
  go_wp2_with fail
  have HSX : Hid (w2.heap.size < (w2.alloc (.cells #[.slice r1 B.n1 (B.n1 + 2), .slice r2 B.n2 (B.n2 + 2), .slice r3 B.n3 (B.n3 + 2)] 26)).heap.size) := HX2.out.2.lt
  generalize w2.alloc (.cells #[.slice r1 B.n1 (B.n1 + 2), .slice r2 B.n2 (B.n2 + 2), .slice r3 B.n3 (B.n3 + 2)] 26) = X2 at *
  generalize w2.heap.size = gy at *
  clear w2 x0 x1 x2 u0 u1 u2
  refine (pmerge_rep A B p1 p2 p3 r1 r2 r3 (A.n1 + 2) (A.n2 + 2) (A.n3 + 2) (B.n1 + 2) (B.n2 + 2) (B.n3 + 2) _ (HH2.out.1.has (HAB.out _ HM2.out.old).1) (HH2.out.2.has (HAB.out _ HM2.out.old).2.1) (by omega) (by omega)).mono ?_
  rintro e w3 ⟨⟨c1, m1, v1, c2, m2, v2, c3, m3, v3, rfl, hL⟩, hb3⟩
  have HRM : Hid (∀ X, Below w.heap.size w X → Calls Try.prog 62 #[repV A a1 a2 a3 k1 k2 k3, repV B b1 b2 b3 l1 l2 l3] X fun e w' => MergeAns (mergeRd A.tri B.tri) X.heap.size e w' ∧ Below X.heap.size X w') := fun X h => rmerge_any A B a1 a2 a3 b1 b2 b3 k1 k2 k3 l1 l2 l3 X (HAB.out X h).1 (HAB.out X h).2.1
  have HFEW : Hid ((mergeRd A.tri B.tri).K.length ≤ 8 ∧ (mergeRd A.tri B.tri).C.length ≤ 40 ∧ (mergeRd A.tri B.tri).E.length ≤ 16) := mergeRd_few _ _
  generalize mergeRd A.tri B.tri = x at *
  have hal : Below w3.heap.size w3 (w3.alloc (.cells #[.slice c1 m1 v1, .slice c2 m2 v2, .slice c3 m3 v3] 26)) := (Below.refl _ _).alloc (Nat.le_refl _) _
  have hs3 : Below X2.heap.size X2 (w3.alloc (.cells #[.slice c1 m1 v1, .slice c2 m2 v2, .slice c3 m3 v3] 26)) := hb3.trans (hal.mono hb3.size)
  have HM3 : Hid (Mg w A B a1 a2 a3 b1 b2 b3 k1 k2 k3 l1 l2 l3 (w3.alloc (.cells #[.slice c1 m1 v1, .slice c2 m2 v2, .slice c3 m3 v3] 26))) := HM2.out.step hs3
  have HH3 : Hid (Handed (w3.alloc (.cells #[.slice c1 m1 v1, .slice c2 m2 v2, .slice c3 m3 v3] 26)) A p1 p2 p3 g1 g2 g3 ∧ Handed (w3.alloc (.cells #[.slice c1 m1 v1, .slice c2 m2 v2, .slice c3 m3 v3] 26)) B r1 r2 r3 h1 h2 h3) := ⟨HH2.out.1.below hs3, HH2.out.2.below hs3⟩
  have HX3 : Hid (Bx (w3.alloc (.cells #[.slice c1 m1 v1, .slice c2 m2 v2, .slice c3 m3 v3] 26)) gx 26 [.slice p1 A.n1 (A.n1 + 2), .slice p2 A.n2 (A.n2 + 2), .slice p3 A.n3 (A.n3 + 2)] ∧ Bx (w3.alloc (.cells #[.slice c1 m1 v1, .slice c2 m2 v2, .slice c3 m3 v3] 26)) gy 26 [.slice r1 B.n1 (B.n1 + 2), .slice r2 B.n2 (B.n2 + 2), .slice r3 B.n3 (B.n3 + 2)] ∧ Bx (w3.alloc (.cells #[.slice c1 m1 v1, .slice c2 m2 v2, .slice c3 m3 v3] 26)) w3.heap.size 26 [.slice c1 m1 v1, .slice c2 m2 v2, .slice c3 m3 v3]) := ⟨HX2.out.1.below hs3 HX2.out.1.lt, HX2.out.2.below hs3 HX2.out.2.lt, Bx.new _ _ _⟩
  have HR3 : Hid (Lists (w3.alloc (.cells #[.slice c1 m1 v1, .slice c2 m2 v2, .slice c3 m3 v3] 26)) X2.heap.size x.K x.C x.E c1 m1 v1 c2 m2 v2 c3 m3 v3) := hL.keep hal
  have HG3 : Hid (X2.heap.size ≤ w3.heap.size) := hb3.size
  clear hL hb3 hal hs3 HM2 HH2 HX2
  obtain ⟨⟨x0, x1, x2⟩, u0, u1, u2⟩ : (_ ∧ _ ∧ _) ∧ _ ∧ _ ∧ _ := ⟨⟨HM3.out.a.cell 0, HM3.out.a.cell 1, HM3.out.a.cell 2⟩, HM3.out.b.cell 0, HM3.out.b.cell 1, HM3.out.b.cell 2⟩
  dsimp only [List.getElem?_cons_zero, List.getElem?_cons_succ] at x0 x1 x2 u0 u1 u2
  go_wp2_with fail
  generalize w3.alloc (.cells #[.slice c1 m1 v1, .slice c2 m2 v2, .slice c3 m3 v3] 26) = X3 at *
  generalize w3.heap.size = gr at *
  clear w3 x0 x1 x2 u0 u1 u2
  refine (HRM.out _ HM3.out.old).mono ?_
  rintro e w4 ⟨⟨i1, o1, j1, i2, o2, j2, i3, o3, j3, rfl, hL⟩, hb4⟩
  have eo1 : o1 = m1 := by rw [hL.e1, HR3.out.e1]
  have eo2 : o2 = m2 := by rw [hL.e2, HR3.out.e2]
  have eo3 : o3 = m3 := by rw [hL.e3, HR3.out.e3]
  subst eo1 eo2 eo3
  have hal : Below w4.heap.size w4 (w4.alloc (.cells #[.slice i1 o1 j1, .slice i2 o2 j2, .slice i3 o3 j3] 26)) := (Below.refl _ _).alloc (Nat.le_refl _) _
  have hs4 : Below X3.heap.size X3 (w4.alloc (.cells #[.slice i1 o1 j1, .slice i2 o2 j2, .slice i3 o3 j3] 26)) := hb4.trans (hal.mono hb4.size)
  have HM4 : Hid (Mg w A B a1 a2 a3 b1 b2 b3 k1 k2 k3 l1 l2 l3 (w4.alloc (.cells #[.slice i1 o1 j1, .slice i2 o2 j2, .slice i3 o3 j3] 26))) := HM3.out.step hs4
  have HH4 : Hid (Handed (w4.alloc (.cells #[.slice i1 o1 j1, .slice i2 o2 j2, .slice i3 o3 j3] 26)) A p1 p2 p3 g1 g2 g3 ∧ Handed (w4.alloc (.cells #[.slice i1 o1 j1, .slice i2 o2 j2, .slice i3 o3 j3] 26)) B r1 r2 r3 h1 h2 h3) := ⟨HH3.out.1.below hs4, HH3.out.2.below hs4⟩
  have HX4 : Hid (Bx (w4.alloc (.cells #[.slice i1 o1 j1, .slice i2 o2 j2, .slice i3 o3 j3] 26)) gx 26 [.slice p1 A.n1 (A.n1 + 2), .slice p2 A.n2 (A.n2 + 2), .slice p3 A.n3 (A.n3 + 2)] ∧ Bx (w4.alloc (.cells #[.slice i1 o1 j1, .slice i2 o2 j2, .slice i3 o3 j3] 26)) gy 26 [.slice r1 B.n1 (B.n1 + 2), .slice r2 B.n2 (B.n2 + 2), .slice r3 B.n3 (B.n3 + 2)] ∧ Bx (w4.alloc (.cells #[.slice i1 o1 j1, .slice i2 o2 j2, .slice i3 o3 j3] 26)) gr 26 [.slice c1 o1 v1, .slice c2 o2 v2, .slice c3 o3 v3] ∧ Bx (w4.alloc (.cells #[.slice i1 o1 j1, .slice i2 o2 j2, .slice i3 o3 j3] 26)) w4.heap.size 26 [.slice i1 o1 j1, .slice i2 o2 j2, .slice i3 o3 j3]) := ⟨HX3.out.1.below hs4 HX3.out.1.lt, HX3.out.2.1.below hs4 HX3.out.2.1.lt, HX3.out.2.2.below hs4 HX3.out.2.2.lt, Bx.new _ _ _⟩
  have HR4 : Hid (Lists (w4.alloc (.cells #[.slice i1 o1 j1, .slice i2 o2 j2, .slice i3 o3 j3] 26)) X2.heap.size x.K x.C x.E c1 o1 v1 c2 o2 v2 c3 o3 v3 ∧ Lists (w4.alloc (.cells #[.slice i1 o1 j1, .slice i2 o2 j2, .slice i3 o3 j3] 26)) X2.heap.size x.K x.C x.E i1 o1 j1 i2 o2 j2 i3 o3 j3) := ⟨HR3.out.keep hs4, (hL.mono (by have := HX3.out.2.2.lt; have := HG3.out; omega)).keep hal⟩
  have HG4 : Hid (gr < w4.heap.size) := Nat.lt_of_lt_of_le HX3.out.2.2.lt hb4.size
  clear hL hb4 hal hs4 HM3 HH3 HX3 HR3 HRM
  obtain ⟨⟨x0, x1, x2⟩, u0, u1, u2⟩ : (_ ∧ _ ∧ _) ∧ _ ∧ _ ∧ _ := ⟨⟨HM4.out.a.cell 0, HM4.out.a.cell 1, HM4.out.a.cell 2⟩, HX4.out.1.cell 0, HX4.out.1.cell 1, HX4.out.1.cell 2⟩
  dsimp only [List.getElem?_cons_zero, List.getElem?_cons_succ] at x0 x1 x2 u0 u1 u2
  go_wp2_with fail
  generalize w4.alloc (.cells #[.slice i1 o1 j1, .slice i2 o2 j2, .slice i3 o3 j3] 26) = X4 at *
  generalize w4.heap.size = gq at *
  clear w4 x0 x1 x2 u0 u1 u2
  refine (still_any A a1 a2 a3 p1 p2 p3 g1 g2 g3 k1 k2 k3 _ (HAB.out _ HM4.out.old).1 HH4.out.1).mono ?_
  rintro e w5 ⟨rfl, hb5⟩
  have HM5 : Hid (Mg w A B a1 a2 a3 b1 b2 b3 k1 k2 k3 l1 l2 l3 w5) := HM4.out.step hb5
  have HH5 : Hid (Handed w5 A p1 p2 p3 g1 g2 g3 ∧ Handed w5 B r1 r2 r3 h1 h2 h3) := ⟨HH4.out.1.below hb5, HH4.out.2.below hb5⟩
  have HX5 : Hid (Bx w5 gx 26 [.slice p1 A.n1 (A.n1 + 2), .slice p2 A.n2 (A.n2 + 2), .slice p3 A.n3 (A.n3 + 2)] ∧ Bx w5 gy 26 [.slice r1 B.n1 (B.n1 + 2), .slice r2 B.n2 (B.n2 + 2), .slice r3 B.n3 (B.n3 + 2)] ∧ Bx w5 gr 26 [.slice c1 o1 v1, .slice c2 o2 v2, .slice c3 o3 v3] ∧ Bx w5 gq 26 [.slice i1 o1 j1, .slice i2 o2 j2, .slice i3 o3 j3]) := ⟨HX4.out.1.below hb5 HX4.out.1.lt, HX4.out.2.1.below hb5 HX4.out.2.1.lt, HX4.out.2.2.1.below hb5 HX4.out.2.2.1.lt, HX4.out.2.2.2.below hb5 HX4.out.2.2.2.lt⟩
  have HR5 : Hid (Lists w5 X2.heap.size x.K x.C x.E c1 o1 v1 c2 o2 v2 c3 o3 v3 ∧ Lists w5 X2.heap.size x.K x.C x.E i1 o1 j1 i2 o2 j2 i3 o3 j3) := ⟨HR4.out.1.keep hb5, HR4.out.2.keep hb5⟩
  clear hb5 HM4 HH4 HX4 HR4
  have x0 := HM5.out.b.cell 0; have x1 := HM5.out.b.cell 1; have x2 := HM5.out.b.cell 2
  have u0 := HX5.out.2.1.cell 0; have u1 := HX5.out.2.1.cell 1; have u2 := HX5.out.2.1.cell 2
  dsimp only [List.getElem?_cons_zero, List.getElem?_cons_succ] at x0 x1 x2 u0 u1 u2
  go_wp2_with fail
  clear x0 x1 x2 u0 u1 u2
  refine (still_any B b1 b2 b3 r1 r2 r3 h1 h2 h3 l1 l2 l3 _ (HAB.out _ HM5.out.old).2.1 HH5.out.2).mono ?_
  rintro e w6 ⟨rfl, hb6⟩
  have HM6 : Hid (Mg w A B a1 a2 a3 b1 b2 b3 k1 k2 k3 l1 l2 l3 w6) := HM5.out.step hb6
  have HH6 : Hid (Handed w6 A p1 p2 p3 g1 g2 g3 ∧ Handed w6 B r1 r2 r3 h1 h2 h3) := ⟨HH5.out.1.below hb6, HH5.out.2.below hb6⟩
  have HX6 : Hid (Bx w6 gx 26 [.slice p1 A.n1 (A.n1 + 2), .slice p2 A.n2 (A.n2 + 2), .slice p3 A.n3 (A.n3 + 2)] ∧ Bx w6 gy 26 [.slice r1 B.n1 (B.n1 + 2), .slice r2 B.n2 (B.n2 + 2), .slice r3 B.n3 (B.n3 + 2)] ∧ Bx w6 gr 26 [.slice c1 o1 v1, .slice c2 o2 v2, .slice c3 o3 v3] ∧ Bx w6 gq 26 [.slice i1 o1 j1, .slice i2 o2 j2, .slice i3 o3 j3]) := ⟨HX5.out.1.below hb6 HX5.out.1.lt, HX5.out.2.1.below hb6 HX5.out.2.1.lt, HX5.out.2.2.1.below hb6 HX5.out.2.2.1.lt, HX5.out.2.2.2.below hb6 HX5.out.2.2.2.lt⟩
  have HR6 : Hid (Lists w6 X2.heap.size x.K x.C x.E c1 o1 v1 c2 o2 v2 c3 o3 v3 ∧ Lists w6 X2.heap.size x.K x.C x.E i1 o1 j1 i2 o2 j2 i3 o3 j3) := ⟨HR5.out.1.keep hb6, HR5.out.2.keep hb6⟩
  clear hb6 HM5 HH5 HX5 HR5
  have x0 := HX6.out.1.cell 0; have x1 := HX6.out.1.cell 1; have x2 := HX6.out.1.cell 2
  dsimp only [List.getElem?_cons_zero, List.getElem?_cons_succ] at x0 x1 x2
  go_wp2_with fail
  clear x0 x1 x2
  refine (spoil_any A p1 p2 p3 g1 g2 g3 _ HH6.out.1 y y2 y3).mono ?_
  rintro e w7 ⟨⟨vv, rfl⟩, hu7⟩
  have hq1 := HG1.out; have hq2 := HG2.out; have hq3 := HG3.out; have hq4 := HG4.out; have hq5 := HSX.out; have hq6 := HH6.out.1.d12; have hq7 := HH6.out.1.d23; have hq8 := HH6.out.2.d12; have hq9 := HH6.out.2.d23
  have HB7 : Hid (Below w.heap.size w w7) := hu7.below HM6.out.old HM6.out.old.size (by omega) (by omega) (by omega)
  have HH7 : Hid (Handed w7 B r1 r2 r3 h1 h2 h3) := HH6.out.2.upd3 hu7 (by omega) hq6 hq7
  have HX7 : Hid (Bx w7 gy 26 [.slice r1 B.n1 (B.n1 + 2), .slice r2 B.n2 (B.n2 + 2), .slice r3 B.n3 (B.n3 + 2)] ∧ Bx w7 gr 26 [.slice c1 o1 v1, .slice c2 o2 v2, .slice c3 o3 v3] ∧ Bx w7 gq 26 [.slice i1 o1 j1, .slice i2 o2 j2, .slice i3 o3 j3]) := ⟨HX6.out.2.1.upd3 hu7 (by omega) (by omega) (by omega), HX6.out.2.2.1.upd3 hu7 (by omega) (by omega) (by omega), HX6.out.2.2.2.upd3 hu7 (by omega) (by omega) (by omega)⟩
  have HR7 : Hid (Lists w7 X2.heap.size x.K x.C x.E c1 o1 v1 c2 o2 v2 c3 o3 v3 ∧ Lists w7 X2.heap.size x.K x.C x.E i1 o1 j1 i2 o2 j2 i3 o3 j3) := ⟨HR6.out.1.upd3 hu7 (by omega) (by omega) (by omega), HR6.out.2.upd3 hu7 (by omega) (by omega) (by omega)⟩
  clear hu7 HM6 HH6 HX6 HR6 hq1 hq2 hq3 hq4 hq5 hq8 hq9
  have x0 := HX7.out.1.cell 0; have x1 := HX7.out.1.cell 1; have x2 := HX7.out.1.cell 2
  dsimp only [List.getElem?_cons_zero, List.getElem?_cons_succ] at x0 x1 x2
  go_wp2_with fail
  clear x0 x1 x2
  refine (spoil_any B r1 r2 r3 h1 h2 h3 _ HH7.out z1 z2 z3).mono ?_
  rintro e w8 ⟨⟨vw, rfl⟩, hu8⟩
  have hq1 := HG1.out; have hq2 := HG2.out; have hq3 := HG3.out; have hq4 := HG4.out; have hq5 := HSX.out; have hq8 := HH7.out.d12; have hq9 := HH7.out.d23
  have HB8 : Hid (Below w.heap.size w w8) := hu8.below HB7.out HB7.out.size (by omega) (by omega) (by omega)
  have HX8 : Hid (Bx w8 gr 26 [.slice c1 o1 v1, .slice c2 o2 v2, .slice c3 o3 v3] ∧ Bx w8 gq 26 [.slice i1 o1 j1, .slice i2 o2 j2, .slice i3 o3 j3]) := ⟨HX7.out.2.1.upd3 hu8 (by omega) (by omega) (by omega), HX7.out.2.2.upd3 hu8 (by omega) (by omega) (by omega)⟩
  have HR8 : Hid (Lists w8 X2.heap.size x.K x.C x.E c1 o1 v1 c2 o2 v2 c3 o3 v3 ∧ Lists w8 X2.heap.size x.K x.C x.E i1 o1 j1 i2 o2 j2 i3 o3 j3) := ⟨HR7.out.1.upd3 hu8 (by omega) (by omega) (by omega), HR7.out.2.upd3 hu8 (by omega) (by omega) (by omega)⟩
  have HWX : Hid (w.heap.size ≤ X2.heap.size) := by show _ ≤ _; omega
  clear hu8 HB7 HH7 HX7 HR7 hq1 hq2 hq3 hq4 hq5 hq6 hq7 hq8 hq9
  have hfew : o1 ≤ 1099511627776 ∧ o2 ≤ 1099511627776 ∧ o3 ≤ 1099511627776 := by
    have := HFEW.out; have := HR8.out.1.e1; have := HR8.out.1.e2; have := HR8.out.1.e3; omega
  obtain ⟨f1, f2, f3⟩ := hfew
  have HHA : Hid (Has w8 (repOf x.K x.C x.E) c1 c2 c3 ∧ repV (repOf x.K x.C x.E) c1 c2 c3 v1 v2 v3 = .agg #[.slice c1 o1 v1, .slice c2 o2 v2, .slice c3 o3 v3]) := HR8.out.1.has f1 f2 f3
  have HHB : Hid (Has w8 (repOf x.K x.C x.E) i1 i2 i3 ∧ repV (repOf x.K x.C x.E) i1 i2 i3 j1 j2 j3 = .agg #[.slice i1 o1 j1, .slice i2 o2 j2, .slice i3 o3 j3]) := HR8.out.2.has f1 f2 f3
  have x0 := HX8.out.1.cell 0; have x1 := HX8.out.1.cell 1; have x2 := HX8.out.1.cell 2
  have u0 := HX8.out.2.cell 0; have u1 := HX8.out.2.cell 1; have u2 := HX8.out.2.cell 2
  dsimp only [List.getElem?_cons_zero, List.getElem?_cons_succ] at x0 x1 x2 u0 u1 u2
  go_wp2_with fail
  clear x0 x1 x2 u0 u1 u2
  have hsr := sameReplica_any (repOf x.K x.C x.E) c1 c2 c3 i1 i2 i3 v1 v2 v3 j1 j2 j3 _ HHA.out.1 HHB.out.1
  rw [HHA.out.2, HHB.out.2] at hsr
  refine hsr.mono ?_
  rintro e w9 ⟨rfl, hb9⟩
  clear hsr HHA HHB
  have HB9 : Hid (Below w.heap.size w w9) := HB8.out.trans (hb9.mono HB8.out.size)
  have HX9 : Hid (Bx w9 gr 26 [.slice c1 o1 v1, .slice c2 o2 v2, .slice c3 o3 v3]) := HX8.out.1.below hb9 HX8.out.1.lt
  have HR9 : Hid (Lists w9 X2.heap.size x.K x.C x.E c1 o1 v1 c2 o2 v2 c3 o3 v3) := HR8.out.1.keep hb9
  clear hb9 HB8 HX8 HR8
  have x0 := HX9.out.cell 0; have x1 := HX9.out.cell 1; have x2 := HX9.out.cell 2
  dsimp only [List.getElem?_cons_zero, List.getElem?_cons_succ] at x0 x1 x2
  go_wp2_with fail
  clear x0 x1 x2
  refine (replica_any _ w0.heap.size w.heap.size go n c1 o1 v1 _ c2 o2 v2 _ c3 o3 v3 _ a4 d4 L a5 d5 L2 a6 d6 L3 (HO.out.keep HB9.out) ⟨HO.out.b1.old, HO.out.b2.old, HO.out.b3.old⟩ (HR9.out.v1.mono HWX.out) (HR9.out.v2.mono HWX.out) (HR9.out.v3.mono HWX.out) f1 f2 f3 (by have := HL.out; omega) (by have := HL.out; omega) (by have := HL.out; omega) hgo HWW.out hn0 (by omega) (Nat.le_trans HWW.out HB9.out.size) HB9.out.size).mono ?_
  rintro e w10 ⟨⟨v, rfl⟩, ⟨s1, t1, M1, s2, t2, M2, s3, t3, M3, hM, hO4⟩, hb10, -⟩
  have H10 : Hid (OwnR w10 w0.heap.size go (n + 1) s1 t1 M1 s2 t2 M2 s3 t3 M3 ∧ Below w0.heap.size w0 w10) := ⟨hO4, ((HAB.out w9 HB9.out).2.2).trans hb10⟩
  have HMM : Hid (M1.length = L.length + 4 ∧ M2.length = L2.length + 4 ∧ M3.length = L3.length + 4) := hM
  clear hM hO4 hb10 HX9 HR9
  go_wp2_with fail
  refine (kept_any _ w0.heap.size go (n + 1) _ _ _ none 0 [] H10.out.1.o (Books.nil _ _ _ _ _) (by simp) (fun w' hw' => rkept_any w' w0.heap.size go (n + 1) s1 t1 M1 s2 t2 M2 s3 t3 M3 (H10.out.1.keep hw') (by have := HL.out; have := HMM.out; omega) (by have := HL.out; have := HMM.out; omega) (by have := HL.out; have := HMM.out; omega))).mono ?_
  rintro e w11 ⟨rfl, hb11⟩
  have H11 : Hid (Below w10.heap.size w10 w11) := hb11
  clear hb11
  have hxe : (x.err == x.err) = true := by simp
  go_wp2_with fail
  go_ret
  exact ⟨⟨rfl, s1, t1, M1, s2, t2, M2, s3, t3, M3, HMM.out, H10.out.1.keep H11.out⟩, H10.out.2.trans (H11.out.mono H10.out.2.size)⟩
end Go.Proofs.Ytdjpkgaicmklmaa

/- parcellaw.Merges: called with any two replicas it answers true. -/
namespace Go.Proofs.Ytdjpkgaicmklmaa
open Go.RowKit

set_option maxRecDepth 100000 in
set_option maxHeartbeats 4000000 in
theorem merges_any (A B : Rep) (a1 a2 a3 b1 b2 b3 : Option Addr) (k1 k2 k3 l1 l2 l3 : Nat) (w : World) (hA : Has w A a1 a2 a3) (hB : Has w B b1 b2 b3) :
    Calls Try.prog 10 #[repV A a1 a2 a3 k1 k2 k3, repV B b1 b2 b3 l1 l2 l3] w fun e w' => e = .returned (.bool true) ∧ Below w.heap.size w w' := by
  obtain ⟨q1, q2, qs, qb⟩ := two_boxes w 26 26 #[.slice a1 A.n1 k1, .slice a2 A.n2 k2, .slice a3 A.n3 k3] #[.slice b1 B.n1 l1, .slice b2 B.n2 l2, .slice b3 B.n3 l3]
  obtain ⟨X0, hX0⟩ : ∃ X0, X0 = ((w.alloc (.cells #[.slice a1 A.n1 k1, .slice a2 A.n2 k2, .slice a3 A.n3 k3] 26)).alloc (.cells #[.slice b1 B.n1 l1, .slice b2 B.n2 l2, .slice b3 B.n3 l3] 26)) := ⟨_, rfl⟩
  rw [← hX0] at q1 q2 qs qb
  have HE : Hid (X0 = ((w.alloc (.cells #[.slice a1 A.n1 k1, .slice a2 A.n2 k2, .slice a3 A.n3 k3] 26)).alloc (.cells #[.slice b1 B.n1 l1, .slice b2 B.n2 l2, .slice b3 B.n3 l3] 26))) := hX0
  clear hX0
  have HA : Hid (Has X0 A a1 a2 a3) := hA.below qb
  have HB : Hid (Has X0 B b1 b2 b3) := hB.below qb
  have HB0 : Hid (Below w.heap.size w X0) := qb
  have HM : Hid (∀ X, Below X0.heap.size X0 X → Bx X w.heap.size 26 [.slice a1 A.n1 k1, .slice a2 A.n2 k2, .slice a3 A.n3 k3] ∧ Bx X (w.heap.size + 1) 26 [.slice b1 B.n1 l1, .slice b2 B.n2 l2, .slice b3 B.n3 l3]) := fun X h => ⟨q1.below h q1.lt, q2.below h q2.lt⟩
  have HS : Hid (X0.heap.size = w.heap.size + 2) := qs
  clear hA hB q1 q2 qs qb
  obtain ⟨hO, hW, hB⟩ := one_box X0 41 #[.int .i64 0, .slice none 0 0, .slice none 0 0, .slice none 0 0, .slice none 0 0, .slice none 0 0]
  have H0 : Hid (OwnR (X0.alloc (.cells #[.int .i64 0, .slice none 0 0, .slice none 0 0, .slice none 0 0, .slice none 0 0, .slice none 0 0] 41)) X0.heap.size (w.heap.size + 1 + 1) 0 none 0 [] none 0 [] none 0 []) := by
    have e : w.heap.size + 1 + 1 = X0.heap.size := HS.out.symm
    rw [e]; exact ⟨hO, Books.nil _ _ _ _ _, Books.nil _ _ _ _ _, Books.nil _ _ _ _ _⟩
  have HB1 : Hid (Below X0.heap.size X0 (X0.alloc (.cells #[.int .i64 0, .slice none 0 0, .slice none 0 0, .slice none 0 0, .slice none 0 0, .slice none 0 0] 41))) := hB
  clear hO hW hB
  have c0 := (HM.out _ HB1.out).1.cell 0; have c1 := (HM.out _ HB1.out).1.cell 1; have c2 := (HM.out _ HB1.out).1.cell 2
  have d0 := (HM.out _ HB1.out).2.cell 0; have d1 := (HM.out _ HB1.out).2.cell 1; have d2 := (HM.out _ HB1.out).2.cell 2
  dsimp only [List.getElem?_cons_zero, List.getElem?_cons_succ] at c0 c1 c2 d0 d1 d2
  rw [HE.out] at c0 c1 c2 d0 d1 d2
  go_enter Try.func10, Try.ntmps10
  go_wp2_with fail
  rw [← HE.out]
  clear c0 c1 c2 d0 d1 d2
  have hgo : X0.heap.size ≤ w.heap.size + 1 + 1 := Nat.le_of_eq HS.out
  refine (lmerged_any A B a1 a2 a3 b1 b2 b3 k1 k2 k3 l1 l2 l3 X0 _ HA.out HB.out HB1.out (w.heap.size + 1 + 1) 0 none 0 [] none 0 [] none 0 [] H0.out ⟨by simp, by simp, by simp⟩ hgo (by omega) (by omega)).mono ?_
  rintro e w1 ⟨⟨rfl, a5, c5, L5, a6, c6, L6, a7, c7, L7, hL, hO5⟩, hb1⟩
  have hL6 : L5.length ≤ 900 ∧ L6.length ≤ 900 ∧ L7.length ≤ 900 := by simp at hL; omega
  have HL6 : Hid (L5.length ≤ 900 ∧ L6.length ≤ 900 ∧ L7.length ≤ 900) := hL6
  have HO5 : Hid (OwnR w1 X0.heap.size (w.heap.size + 1 + 1) (0 + 1) a5 c5 L5 a6 c6 L6 a7 c7 L7) := hO5
  have HB2 : Hid (Below X0.heap.size X0 w1) := hb1
  clear hL hL6 hO5 hb1 HB1 H0
  have c0 := (HM.out _ HB2.out).1.cell 0; have c1 := (HM.out _ HB2.out).1.cell 1; have c2 := (HM.out _ HB2.out).1.cell 2
  have d0 := (HM.out _ HB2.out).2.cell 0; have d1 := (HM.out _ HB2.out).2.cell 1; have d2 := (HM.out _ HB2.out).2.cell 2
  dsimp only [List.getElem?_cons_zero, List.getElem?_cons_succ] at c0 c1 c2 d0 d1 d2
  go_wp2_with fail
  clear c0 c1 c2 d0 d1 d2
  refine (lmerged_any A B a1 a2 a3 b1 b2 b3 k1 k2 k3 l1 l2 l3 X0 _ HA.out HB.out HB2.out (w.heap.size + 1 + 1) (0 + 1) a5 c5 L5 a6 c6 L6 a7 c7 L7 HO5.out HL6.out hgo (by omega) (by omega)).mono ?_
  rintro e w2 ⟨⟨rfl, -⟩, hb3⟩
  go_wp2_with fail
  go_ret
  exact ⟨rfl, HB0.out.trans (hb3.mono (by rw [HS.out]; omega))⟩
end Go.Proofs.Ytdjpkgaicmklmaa

/- A replica that comes in, opened: its reading as data gives its rows. -/
namespace Go.Proofs.Ytdjpkgaicmklmaa
open Go.ChangeShapes Go.WideShapes Go.ChangeAt Go.RowKit Go.Joins Go.Deep

section
variable {H : Type} {enc : TypeId × Value → H} {w : World} {base : Nat} {spare : Nat → Bool} {held : Bool}

theorem Try.cellsInt : Try.prog.cellsOf 3 = 1 := by kernel_rfl
theorem Try.cellsBool : Try.prog.cellsOf 4 = 1 := by kernel_rfl
theorem Try.cellsString : Try.prog.cellsOf 9 = 1 := by kernel_rfl
theorem Try.cellsClock : Try.prog.cellsOf 67 = 2 := by kernel_rfl
theorem Try.cellsCard : Try.prog.cellsOf 69 = 5 := by kernel_rfl
theorem Try.cellsEdit : Try.prog.cellsOf 71 = 2 := by kernel_rfl

theorem list2 {α : Type} {l : List α} (h : l.length = 2) : ∃ a b, l = [a, b] := by
  match l, h with
  | [a, b], _ => exact ⟨a, b, rfl⟩
theorem list5 {α : Type} {l : List α} (h : l.length = 5) : ∃ a b c d e, l = [a, b, c, d, e] := by
  match l, h with
  | [a, b, c, d, e], _ => exact ⟨a, b, c, d, e, rfl⟩

theorem read_clock {n : Nat} {cs : List Value} {x : DataW H × List MemPlace} (h : DataW.trod enc Try.prog w base spare held n 67 cs = some x) : ∃ c : Ck, cs = c.cells := by
  obtain ⟨xs, k, _, _, hl, hlen, hf⟩ := DataW.trod_struct Try.underlying67 h
  rw [Try.cellsClock] at hl
  obtain ⟨c0, c1, rfl⟩ := list2 hl
  obtain ⟨y0, y1, rfl⟩ := list2 (show xs.length = 2 from hlen)
  have g0 := hf 0 _ rfl
  have g1 := hf 1 _ rfl
  simp [Try.cellsInt] at g0 g1
  obtain ⟨n0, e0, _⟩ := DataW.trod_int Try.underlying3 g0
  obtain ⟨n1, e1, _⟩ := DataW.trod_int Try.underlying3 g1
  simp at e0 e1
  subst e0 e1
  exact ⟨⟨n0, n1⟩, rfl⟩

theorem read_edit {n : Nat} {cs : List Value} {x : DataW H × List MemPlace} (h : DataW.trod enc Try.prog w base spare held n 71 cs = some x) : ∃ c : Ed, cs = c.cells := by
  obtain ⟨xs, k, _, _, hl, hlen, hf⟩ := DataW.trod_struct Try.underlying71 h
  rw [Try.cellsEdit] at hl
  obtain ⟨c0, c1, rfl⟩ := list2 hl
  obtain ⟨y0, y1, rfl⟩ := list2 (show xs.length = 2 from hlen)
  have g0 := hf 0 _ rfl
  have g1 := hf 1 _ rfl
  simp [Try.cellsInt, Try.cellsString] at g0 g1
  obtain ⟨n0, e0, _⟩ := DataW.trod_int Try.underlying3 g0
  obtain ⟨n1, e1, _⟩ := DataW.trod_string Try.underlying9 g1
  simp at e0 e1
  subst e0 e1
  exact ⟨⟨n0, n1⟩, rfl⟩

theorem read_card {n : Nat} {cs : List Value} {x : DataW H × List MemPlace} (h : DataW.trod enc Try.prog w base spare held n 69 cs = some x) : ∃ c : Cd, cs = c.cells := by
  obtain ⟨xs, k, _, _, hl, hlen, hf⟩ := DataW.trod_struct Try.underlying69 h
  rw [Try.cellsCard] at hl
  obtain ⟨c0, c1, c2, c3, c4, rfl⟩ := list5 hl
  obtain ⟨y0, y1, y2, y3, y4, rfl⟩ := list5 (show xs.length = 5 from hlen)
  have g0 := hf 0 _ rfl
  have g1 := hf 1 _ rfl
  have g2 := hf 2 _ rfl
  have g3 := hf 3 _ rfl
  have g4 := hf 4 _ rfl
  simp [Try.cellsInt, Try.cellsString, Try.cellsBool] at g0 g1 g2 g3 g4
  obtain ⟨n0, e0, _⟩ := DataW.trod_int Try.underlying3 g0
  obtain ⟨n1, e1, _⟩ := DataW.trod_int Try.underlying3 g1
  obtain ⟨n2, e2, _⟩ := DataW.trod_int Try.underlying3 g2
  obtain ⟨n3, e3, _⟩ := DataW.trod_bool Try.underlying4 g3
  obtain ⟨n4, e4, _⟩ := DataW.trod_string Try.underlying9 g4
  simp at e0 e1 e2 e3 e4
  subst e0 e1 e2 e3 e4
  exact ⟨⟨n0, n1, n2, n3, n4⟩, rfl⟩

theorem addr_plus (b off j : Nat) : (⟨b, off, none⟩ : Addr).add j = ⟨b, off + j, none⟩ := by
  unfold Addr.add
  by_cases h : j = 0 <;> simp [h]

/-- A slice of records that comes in. -/
theorem read_rows {α : Type} [Inhabited α] (cells : α → List Value) (m : Nat) {t e : TypeId} {fuel : Nat} {v : Value} {x : DataW H × List MemPlace} (ht : Try.prog.underlying t = some (.slice e)) (hc : Try.prog.cellsOf e = m) (h0 : 0 < m)
    (hr : ∀ (n : Nat) (cs : List Value) (y : DataW H × List MemPlace), DataW.trod enc Try.prog w 0 (fun _ => true) held n e cs = some y → ∃ c : α, cs = cells c)
    (h : DataW.trod enc Try.prog w 0 (fun _ => true) held fuel t [v] = some x) :
    ∃ (a : Option Addr) (n k : Nat) (f : Nat → α), v = .slice a n k ∧ Lies w a n m (fun i => cells (f i)) ∧ n ≤ k ∧ ((x.1 = .nil ∧ n = 0) ∨ ∃ el sp : List (DataW H), x.1 = .slice el sp ∧ el.length + sp.length = k) := by
  rcases open_slice ht h with ⟨hcs, hx⟩ | ⟨a, len, cap, mm, n, D, Pl, hcs, _, hl, hm, hmm, hx, hel⟩
  · simp at hcs
    exact ⟨none, 0, 0, fun _ => default, hcs, Or.inl rfl, Nat.le_refl _, Or.inl ⟨by rw [hx], rfl⟩⟩
  · simp at hcs
    simp at hmm
    subst hmm
    rw [hc] at hel
    have hall : ∀ i, i < mm → ∃ c : α, w.cells? 0 (a.add (i * m)) m = some (cells c) := fun i hi => by
      obtain ⟨cs', h1, h2⟩ := hel i hi
      obtain ⟨c, rfl⟩ := hr _ _ _ h2
      exact ⟨c, h1⟩
    obtain ⟨f, hf⟩ := choose_lt (α := α) (p := fun i c => w.cells? 0 (a.add (i * m)) m = some (cells c)) hall
    refine ⟨some a, len, mm, f, hcs, ?_, hl, Or.inr ⟨_, _, by rw [hx], by simp; omega⟩⟩
    by_cases hz : len = 0
    · exact Or.inl hz
    · obtain ⟨b, off, spot⟩ := a
      obtain ⟨_, hlen0, hc0⟩ := World.cells?_some (hf 0 (by omega))
      have hcell : w.cell? ((Addr.add ⟨b, off, spot⟩ (0 * m)).add 0) = (cells (f 0))[0]? := hc0 0 h0
      rw [List.getElem?_eq_getElem (by omega)] at hcell
      have hspot : spot = none := by simpa [Addr.add] using World.cell?_spot hcell
      subst hspot
      have hblk : b < w.heap.size := by
        simp only [Nat.zero_mul, addr_plus, Nat.add_zero] at hcell
        unfold World.cell? at hcell
        rcases Nat.lt_or_ge b w.heap.size with h | h
        · exact h
        · simp [Array.getElem?_eq_none h] at hcell
      refine Or.inr ⟨b, off, rfl, hblk, fun i hi j v hj hv => ?_⟩
      obtain ⟨_, _, hci⟩ := World.cells?_some (hf i (by omega))
      have := hci j hj
      rw [addr_plus, addr_plus] at this
      rw [this, hv]

theorem Try.bytesClock : Try.prog.bytesOf 67 = 16 := by kernel_rfl
theorem Try.bytesCard : Try.prog.bytesOf 69 = 48 := by kernel_rfl
theorem Try.bytesEdit : Try.prog.bytesOf 71 = 24 := by kernel_rfl

/-- The bytes of a slice that came in. -/
theorem weigh {t e : TypeId} {d : DataW H} {n k b : Nat} (ht : Try.prog.underlying t = some (.slice e)) (hb : Try.prog.bytesOf e = b) (hn : n ≤ k)
    (hx : (d = .nil ∧ n = 0) ∨ ∃ el sp : List (DataW H), d = .slice el sp ∧ el.length + sp.length = k) (hw : ∀ q, q ∈ d.weights Try.prog t → q ≤ reachBytes) : n * b ≤ reachBytes := by
  rcases hx with ⟨_, rfl⟩ | ⟨el, sp, rfl, rfl⟩
  · simp
  · have := hw ((el.length + sp.length) * Try.prog.bytesOf e) (by simp [DataW.weights, ht])
    rw [hb] at this
    exact Nat.le_trans (Nat.mul_le_mul_right _ hn) this

set_option maxRecDepth 100000 in
/-- A replica that comes in. -/
theorem open_rep {r : Reach} {b0 : Nat} {v : Value} {d : DataW H} {p : List MemPlace} (hv : Value.okWide Try.prog w r b0 26 v)
    (h : DataW.Trod enc Try.prog w 0 (fun _ => true) held 26 v d p) (hw : ∀ q, q ∈ d.weights Try.prog 26 → q ≤ reachBytes) :
    ∃ (R : Rep) (a1 a2 a3 : Option Addr) (k1 k2 k3 : Nat), v = repV R a1 a2 a3 k1 k2 k3 ∧ Has w R a1 a2 a3 := by
  obtain ⟨v0, v1, v2, y0, y1, y2, n, rfl, rfl, _, h0, h1, h2⟩ := open_agg3 Try.underlying26 (by kernel_rfl) (by kernel_rfl) hv h
  have : Inhabited Ck := ⟨⟨0, 0⟩⟩
  have : Inhabited Cd := ⟨⟨0, 0, 0, false, ⟨#[]⟩⟩⟩
  have : Inhabited Ed := ⟨⟨0, ⟨#[]⟩⟩⟩
  obtain ⟨a1, n1, k1, c, rfl, l1, m1, x1⟩ := read_rows Ck.cells 2 Try.underlying22 Try.cellsClock (by omega) (fun _ _ _ hh => read_clock hh) h0
  obtain ⟨a2, n2, k2, dd, rfl, l2, m2, x2⟩ := read_rows Cd.cells 5 Try.underlying23 Try.cellsCard (by omega) (fun _ _ _ hh => read_card hh) h1
  obtain ⟨a3, n3, k3, e, rfl, l3, m3, x3⟩ := read_rows Ed.cells 2 Try.underlying24 Try.cellsEdit (by omega) (fun _ _ _ hh => read_edit hh) h2
  have hw' : ∀ q, q ∈ DataW.weightsEach Try.prog [22, 23, 24] [y0.1, y1.1, y2.1] → q ≤ reachBytes := fun q hq => hw q (by
    simp only [DataW.weights, Try.underlying26]; exact hq)
  simp only [DataW.weightsEach, List.mem_append] at hw'
  have z1 := weigh Try.underlying22 Try.bytesClock m1 x1 (fun q hq => hw' q (Or.inl hq))
  have z2 := weigh Try.underlying23 Try.bytesCard m2 x2 (fun q hq => hw' q (Or.inr (Or.inl hq)))
  have z3 := weigh Try.underlying24 Try.bytesEdit m3 x3 (fun q hq => hw' q (Or.inr (Or.inr (Or.inl hq))))
  unfold reachBytes at z1 z2 z3
  exact ⟨⟨n1, n2, n3, c, dd, e⟩, a1, a2, a3, k1, k2, k3, rfl, l1, l2, l3, by show n1 ≤ _; omega, by show n2 ≤ _; omega, by show n3 ≤ _; omega, by show 16 * n1 ≤ _; omega, by show 48 * n2 ≤ _; omega, by show 24 * n3 ≤ _; omega⟩
end
end Go.Proofs.Ytdjpkgaicmklmaa

