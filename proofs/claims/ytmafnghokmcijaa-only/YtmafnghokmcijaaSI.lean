/- parcelkeep.Only: called with any writes and numbers it answers true. -/
import Derived.Test.YtmafnghokmcijaaSD
import Derived.Test.YtmafnghokmcijaaSE
import Derived.Test.YtmafnghokmcijaaSH
import Derived.Test.YtmafnghokmcijaaBChk
namespace Go.Proofs.Ytmafnghokmcijaa
open Go.RowKit

/-- A list of writes that comes in. -/
structure Ws (w : World) (a : Option Addr) (n : Nat) (f : Nat → Wr) : Prop where
  lies : Lies w a n 4 (fun i => (f i).cells)
  few : n ≤ 140737488355328
  ok : ∀ i, i < n → I64 (f i).site ∧ I64 (f i).id
structure Ns (w : World) (a : Option Addr) (n : Nat) (f : Nat → Int) : Prop where
  lies : Lies w a n 1 (iCells f)
  few : n ≤ 140737488355328
  ok : ∀ i, i < n → I64 (f i)

theorem state_call {S : Seen} {aw am ae : Option Addr} {cw cm ce ne : Nat} {ef : Nat → Wr} {w0 w : World} (hb : Below w0.heap.size w0 w) (hW : Ws w0 aw S.n S.w) (hM : Ns w0 am S.m S.f) (hE : Ws w0 ae ne ef) (kw : S.n ≤ cw) :
    Calls Try.prog 19 #[.slice aw S.n cw, .slice am S.m cm, .slice ae ne ce] w fun e w' =>
      ∃ a1 a2 a3 k1 k2 k3, e = .returned (repV (stateR S ne ef) a1 a2 a3 k1 k2 k3) ∧ Has w' (stateR S ne ef) a1 a2 a3 ∧ Below w.heap.size w w' :=
  state_any S aw am ae cw cm ce ne ef w (hW.lies.below hb) (hM.lies.below hb) (hE.lies.below hb) kw hW.few hM.few hE.few hW.ok hM.ok (fun i hi => (hE.ok i hi).2)

/-- Two replicas in variables. -/
structure In2 (w w1 w2 : World) (R T : Rep) (a1 a2 a3 b1 b2 b3 : Option Addr) (k1 k2 k3 l1 l2 l3 : Nat) (wX : World) : Prop where
  bR : BoxR w1 R a1 a2 a3 k1 k2 k3 wX
  bT : BoxR w2 T b1 b2 b3 l1 l2 l3 wX
  hR : Has wX R a1 a2 a3
  hT : Has wX T b1 b2 b3
  old : Below w.heap.size w wX
theorem In2.step {w w1 w2 : World} {R T : Rep} {a1 a2 a3 b1 b2 b3 : Option Addr} {k1 k2 k3 l1 l2 l3 : Nat} {wX wY : World} (h : In2 w w1 w2 R T a1 a2 a3 b1 b2 b3 k1 k2 k3 l1 l2 l3 wX) (hb : Below wX.heap.size wX wY) : In2 w w1 w2 R T a1 a2 a3 b1 b2 b3 k1 k2 k3 l1 l2 l3 wY :=
  ⟨boxR_step h.bR hb, boxR_step h.bT hb, h.hR.below hb, h.hT.below hb, h.old.trans (hb.mono h.old.size)⟩

set_option maxRecDepth 100000 in
set_option maxHeartbeats 4000000 in
theorem only_any (nw nm nn nx ny : Nat) (fw fx fy : Nat → Wr) (fm fn : Nat → Int) (aw am an ax ay : Option Addr) (cw cm cn cx cy : Nat) (w : World)
    (hW : Ws w aw nw fw) (hM : Ns w am nm fm) (hN : Ns w an nn fn) (hX : Ws w ax nx fx) (hY : Ws w ay ny fy) (kw : nw ≤ cw) :
    Calls Try.prog 8 #[.slice aw nw cw, .slice am nm cm, .slice an nn cn, .slice ax nx cx, .slice ay ny cy] w fun e w' => e = .returned (.bool true) ∧ Below w.heap.size w w' := by
  go_enter Try.func8, Try.ntmps8
  go_wp2_with fail
  refine (state_call (S := ⟨nw, fw, nm, fm⟩) (Below.refl _ w) hW hM hX kw).mono ?_
  rintro e w1 ⟨a1, a2, a3, k1, k2, k3, rfl, hR, hb1⟩
  have hRc := stateR_chk ⟨nw, fw, nm, fm⟩ nx fx
  generalize stateR ⟨nw, fw, nm, fm⟩ nx fx = R at *
  have h1 : Below w.heap.size w (w1.alloc (.cells #[.slice a1 R.n1 k1, .slice a2 R.n2 k2, .slice a3 R.n3 k3] 26)) := hb1.alloc hb1.size _
  go_wp2_with fail
  refine (state_call (S := ⟨nw, fw, nn, fn⟩) h1 hW hN hY kw).mono ?_
  rintro e w2 ⟨b1, b2, b3, l1, l2, l3, rfl, hT, hb2⟩
  have hTc := stateR_chk ⟨nw, fw, nn, fn⟩ ny fy
  generalize stateR ⟨nw, fw, nn, fn⟩ ny fy = T at *
  have bR : BoxR w1 R a1 a2 a3 k1 k2 k3 w2 := hb2.mono (by simp)
  have hR2 : Has w2 R a1 a2 a3 := (hR.below ((Below.refl _ _).alloc (Nat.le_refl _) _)).below hb2
  have bT : BoxR w2 T b1 b2 b3 l1 l2 l3 (w2.alloc (.cells #[.slice b1 T.n1 l1, .slice b2 T.n2 l2, .slice b3 T.n3 l3] 26)) := Below.refl _ _
  have h2 : Below w.heap.size w w2 := h1.trans (hb2.mono (by have := hb1.size; simp; omega))
  clear hb1 h1 hb2 hR
  have i0 : In2 w w1 w2 R T a1 a2 a3 b1 b2 b3 k1 k2 k3 l1 l2 l3 (w2.alloc (.cells #[.slice b1 T.n1 l1, .slice b2 T.n2 l2, .slice b3 T.n3 l3] 26)) :=
    have hh : Below w2.heap.size w2 (w2.alloc (.cells #[.slice b1 T.n1 l1, .slice b2 T.n2 l2, .slice b3 T.n3 l3] 26)) := (Below.refl _ _).alloc (Nat.le_refl _) _
    ⟨boxR_step bR hh, bT, hR2.below hh, hT.below hh, h2.trans (hh.mono h2.size)⟩
  clear bR hR2 bT h2 hT
  have eR : R.exp = bundleB (recsOf 0 0 R) := by unfold Rep.exp; rw [if_pos hRc]
  have eT : T.exp = bundleB (recsOf 0 0 T) := by unfold Rep.exp; rw [if_pos hTc]
  have hsz : ((str R.exp).size : Int) = ((8 + lenL (recsOf 0 0 R) : Nat) : Int) := by rw [str_size, eR, bundleB_length]
  have heq : (str R.exp).toList == (str T.exp).toList ↔ Same R T := by
    rw [str_toList, str_toList, beq_iff_eq, eR, eT]; exact bundle_same (Rep.fit hRc) (Rep.fit hTc)
  have hFR := Rep.fit hRc
  clear eR eT
  generalize hAA : str R.exp = A at *
  generalize hBB : str T.exp = B at *
  generalize hLL : 8 + lenL (recsOf 0 0 R) = L at *
  have HA : Hid (str R.exp = A) := hAA
  have HB : Hid (str T.exp = B) := hBB
  have HL : Hid (8 + lenL (recsOf 0 0 R) = L) := hLL
  have HRC : Hid (R.chk = 0) := hRc
  have HTC : Hid (T.chk = 0) := hTc
  have HEQ : Hid (A.toList == B.toList ↔ Same R T) := heq
  clear hAA hBB hLL hRc hTc heq
  obtain ⟨x1, x2, x3⟩ := box3 i0.bR
  obtain ⟨y1, y2, y3⟩ := box3 i0.bT
  go_wp2_with fail
  refine (pcheck_any R a1 a2 a3 k1 k2 k3 _ i0.hR).mono ?_
  rintro e w3 ⟨rfl, hb3⟩
  have i1 := i0.step hb3
  rw [HRC.out]
  clear hb3 i0 x1 x2 x3 y1 y2 y3
  obtain ⟨x1, x2, x3⟩ := box3 i1.bR
  obtain ⟨y1, y2, y3⟩ := box3 i1.bT
  go_wp2_with fail
  refine (pcheck_any T b1 b2 b3 l1 l2 l3 _ i1.hT).mono ?_
  rintro e w4 ⟨rfl, hb3⟩
  have i0 := i1.step hb3
  rw [HTC.out]
  clear hb3 i1 x1 x2 x3 y1 y2 y3
  obtain ⟨x1, x2, x3⟩ := box3 i0.bR
  obtain ⟨y1, y2, y3⟩ := box3 i0.bT
  go_wp2_with fail
  refine (export_any R a1 a2 a3 k1 k2 k3 _ i0.hR).mono ?_
  rintro e w5 ⟨rfl, hb3⟩
  have i1 := i0.step hb3
  rw [HRC.out, HA.out]
  clear hb3 i0 x1 x2 x3 y1 y2 y3
  obtain ⟨x1, x2, x3⟩ := box3 i1.bR
  obtain ⟨y1, y2, y3⟩ := box3 i1.bT
  go_wp2_with fail
  refine (export_any T b1 b2 b3 l1 l2 l3 _ i1.hT).mono ?_
  rintro e w6 ⟨rfl, hb3⟩
  have i0 := i1.step hb3
  rw [HTC.out, HB.out]
  clear hb3 i1 x1 x2 x3 y1 y2 y3
  obtain ⟨x1, x2, x3⟩ := box3 i0.bR
  obtain ⟨y1, y2, y3⟩ := box3 i0.bT
  go_wp2_with fail
  refine (krecords_any R a1 a2 a3 k1 k2 k3 _ i0.hR hFR).mono ?_
  rintro e w7 ⟨ad, cap, N, ⟨rfl, -, -⟩, hb3⟩
  have i1 := i0.step hb3
  rw [HL.out]
  clear hb3 i0 x1 x2 x3 y1 y2 y3
  obtain ⟨x1, x2, x3⟩ := box3 i1.bR
  obtain ⟨y1, y2, y3⟩ := box3 i1.bT
  go_wp2_with fail
  refine (same_any R T a1 a2 a3 b1 b2 b3 k1 k2 k3 l1 l2 l3 _ i1.hR i1.hT).mono ?_
  rintro e w8 ⟨bb, ⟨rfl, hbb⟩, hb3⟩
  have i0 := i1.step hb3
  have hbe : (A.toList == B.toList) = bb := by
    rw [Bool.eq_iff_iff]; exact HEQ.out.trans hbb.symm
  clear hb3 i1 x1 x2 x3 y1 y2 y3 hbb HEQ
  go_wp2_with fail
  go_ret
  exact ⟨rfl, i0.old⟩
end Go.Proofs.Ytmafnghokmcijaa
