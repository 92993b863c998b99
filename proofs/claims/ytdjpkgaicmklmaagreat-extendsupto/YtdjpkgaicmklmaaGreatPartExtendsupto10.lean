/- Texts of the proof, one behind the other; what each holds is said at its head. -/
import Derived.Test.YtdjpkgaicmklmaaGreatPartExtendsupto9
import Derived.Test.YtdjpkgaicmklmaaGreatPartExtendsupto2
import Derived.Test.YtdjpkgaicmklmaaGreatPartExtendsupto8
import Derived.Test.YtdjpkgaicmklmaaGreatPartExtendsupto4
import Derived.Deep.DeepCutAuto
import Derived.Test.YtdjpkgaicmklmaaGreatPartExtendsupto0
import Derived.Lib.AppendStr
import Derived.Test.YtdjpkgaicmklmaaGreatPartExtendsupto1
import Derived.Deep.RegionLaw
import Derived.Test.YtdjpkgaicmklmaaGreatPartExtendsupto6
/- Extend of the program: walked. -/
namespace Go.Proofs.YtdjpkgaicmklmaaGreat
open Go.RowKit

theorem replay_sound {l : List (List UInt8)} (h : (replayRd l).err = 0) : (replayRd l).st.rep.chk = 0 := by
  by_cases h16 : 16 < l.length
  · rw [replay_many h16] at h; cases h
  · by_cases h4 : lkErr l = 0
    · cases h5 : firstOf (bad5 l) l.length with
      | some i => rw [replay_twice h16 h4 h5] at h; cases h
      | none =>
        by_cases h6 : l.length = 0 ∨ (firstOf (bad6 l) l.length).isSome = true
        · rw [replay_missing h16 h4 h5 h6] at h; cases h
        · cases h7 : firstOf (bad7 l) l.length with
          | some i => rw [replay_base h16 h4 h5 h6 h7] at h; cases h
          | none =>
            rw [replay_last h16 h4 h5 h6 h7] at h ⊢
            by_cases hc : (chainSt l (l.length - 1)).rep.chk = 0
            · rw [if_pos hc]; exact hc
            · rw [if_neg hc] at h; exact absurd h hc
    · rw [replay_read h16 h4] at h; exact absurd h h4
/-- What Extend answers. -/
abbrev XtV (x : Xt) : Value := .tuple #[.string (str x.b), .int .i64 x.err, .int .i64 x.place]

set_option maxRecDepth 100000 in
set_option maxHeartbeats 8000000 in
theorem cextend_any (l : List (List UInt8)) (R : Tri) (ad0 : Option Addr) (N cap0 : Nat) (b1 b2 b3 : Option Addr) (l1 l2 l3 : Nat) (w : World) (hL : Lies w ad0 N 1 (fun i => [.string (str (l.getD i []))])) (hN : N = l.length) (hl : ∀ v, v ∈ l → v.length ≤ 1048576) (hb : N ≤ 1048576) (hR : Has w R.rep b1 b2 b3) :
    Calls Tryz.prog 10 #[.slice ad0 N cap0, repV R.rep b1 b2 b3 l1 l2 l3] w fun e w' => e = .returned (XtV (extendRd l R)) ∧ Below w.heap.size w w' := by
  obtain ⟨hX, hW, hB⟩ := one_box w 27 (repC b1 R.rep.n1 l1 b2 R.rep.n2 l2 b3 R.rep.n3 l3).toArray
  have HX0 : Hid (Bx (w.alloc (.cells (repC b1 R.rep.n1 l1 b2 R.rep.n2 l2 b3 R.rep.n3 l3).toArray 27)) w.heap.size 27 (repC b1 R.rep.n1 l1 b2 R.rep.n2 l2 b3 R.rep.n3 l3) ∧ Below w.heap.size w (w.alloc (.cells (repC b1 R.rep.n1 l1 b2 R.rep.n2 l2 b3 R.rep.n3 l3).toArray 27))) := ⟨hX, hB⟩
  have HLI : Hid (Lies w ad0 N 1 (fun i => [.string (str (l.getD i []))])) := hL
  have HN : Hid (N = l.length) := hN
  have HL : Hid (∀ v, v ∈ l → v.length ≤ 1048576) := hl
  have HR : Hid (Has w R.rep b1 b2 b3) := hR
  clear hX hW hB hL hN hl hR
  go_enter Tryz.func10, Tryz.ntmps10
  go_wp2_with fail
  refine (chainOf_any l ad0 N cap0 _ (HLI.out.below HX0.out.2) HN.out HL.out hb).mono ?_
  rintro e w1 ⟨⟨a1, n1, c1, a2, n2, c2, a3, n3, c3, q, rfl, hL1, hq⟩, hb1⟩
  have hal : Below w1.heap.size w1 (w1.alloc (.cells (chC a1 n1 c1 a2 n2 c2 a3 n3 c3 q).toArray 53)) := (Below.refl _ _).alloc (Nat.le_refl _) _
  have hs := hb1.trans (hal.mono hb1.size)
  have HX1 : Hid (Bx (w1.alloc (.cells (chC a1 n1 c1 a2 n2 c2 a3 n3 c3 q).toArray 53)) w.heap.size 27 (repC b1 R.rep.n1 l1 b2 R.rep.n2 l2 b3 R.rep.n3 l3) ∧ Below w.heap.size w (w1.alloc (.cells (chC a1 n1 c1 a2 n2 c2 a3 n3 c3 q).toArray 53))) := ⟨HX0.out.1.below hs HX0.out.1.lt, HX0.out.2.trans (hs.mono HX0.out.2.size)⟩
  have HC1 : Hid (Bx (w1.alloc (.cells (chC a1 n1 c1 a2 n2 c2 a3 n3 c3 q).toArray 53)) w1.heap.size 53 (chC a1 n1 c1 a2 n2 c2 a3 n3 c3 q)) := Bx.new _ _ _
  have HL1 : Hid (Lists (w1.alloc (.cells (chC a1 n1 c1 a2 n2 c2 a3 n3 c3 q).toArray 53)) 0 (replayRd l).K (replayRd l).C (replayRd l).E a1 n1 c1 a2 n2 c2 a3 n3 c3) := (hL1.mono (Nat.zero_le _)).keep hal
  have HQ : Hid ((replayRd l).err = 0 → q = sealR (linkR l ((l.length - 1 : Nat) : Int))) := hq
  clear hL1 hq hb1 hal hs HX0
  by_cases he : (replayRd l).err = 0
  · have HE : Hid ((replayRd l).err = 0) := he
    have HSND : Hid ((replayRd l).st.rep.chk = 0) := replay_sound he
    rw [he]
    clear he
    by_cases h16 : 16 ≤ N
    · have E : Hid (extendRd l R = ⟨[], 1, 0⟩) := by show _ = _; unfold extendRd; rw [if_pos HE.out, if_pos (by rw [← HN.out]; exact h16)]
      go_wp2_with fail
      refine bodyPost_ret (v := .tuple #[.string (str []), .int .i64 1, .int .i64 0]) (by simp [results, Tryz.results10, go_sem]; rfl) rfl ⟨by rw [E.out], HX1.out.2⟩
    · have h16' : ¬ (16 : Int) ≤ (N : Int) := by omega
      have x0 := HX1.out.1.cell 0; have x1 := HX1.out.1.cell 1; have x2 := HX1.out.1.cell 2
      dsimp only [List.getElem?_cons_zero, List.getElem?_cons_succ] at x0 x1 x2
      have HPL : Hid ((replayRd l).place = (replayRd l).place) := rfl
      generalize (replayRd l).place = pl at *
      go_wp2_with fail
      generalize w1.alloc (.cells (chC a1 n1 c1 a2 n2 c2 a3 n3 c3 q).toArray 53) = X1 at *
      generalize w1.heap.size = gc at *
      clear w1 x0 x1 x2
      refine (check_any R.rep b1 b2 b3 l1 l2 l3 _ (HR.out.below HX1.out.2)).mono ?_
      rintro e w2 ⟨rfl, hb2⟩
      have HX2 : Hid (Bx w2 w.heap.size 27 (repC b1 R.rep.n1 l1 b2 R.rep.n2 l2 b3 R.rep.n3 l3) ∧ Below w.heap.size w w2) := ⟨HX1.out.1.below hb2 HX1.out.1.lt, HX1.out.2.trans (hb2.mono HX1.out.2.size)⟩
      have HC2 : Hid (Bx w2 gc 53 (chC a1 n1 c1 a2 n2 c2 a3 n3 c3 q)) := HC1.out.below hb2 HC1.out.lt
      have HL2 : Hid (Lists w2 0 (replayRd l).K (replayRd l).C (replayRd l).E a1 n1 c1 a2 n2 c2 a3 n3 c3) := HL1.out.keep hb2
      clear hb2 HX1 HC1 HL1
      by_cases hc : R.rep.chk = 0
      · have HCR : Hid (R.rep.chk = 0) := hc
        rw [hc]
        clear hc
        have x0 := HX2.out.1.cell 0; have x1 := HX2.out.1.cell 1; have x2 := HX2.out.1.cell 2
        have y0 := HC2.out.cell 0; have y1 := HC2.out.cell 1; have y2 := HC2.out.cell 2
        dsimp only [List.getElem?_cons_zero, List.getElem?_cons_succ] at x0 x1 x2 y0 y1 y2
        go_wp2_with fail
        clear x0 x1 x2 y0 y1 y2
        obtain ⟨f1, f2, f3⟩ := few_of HSND.out
        obtain ⟨g1, g2, g3⟩ := few_of HCR.out
        obtain ⟨hA, hAV⟩ := HL2.out.has (by have := HL2.out.e1; simp only [Ans.st] at f1; omega) (by have := HL2.out.e2; simp only [Ans.st] at f2; omega) (by have := HL2.out.e3; simp only [Ans.st] at f3; omega)
        have HA : Hid (Has w2 (replayRd l).st.rep a1 a2 a3) := hA
        have HAV : Hid (repV (replayRd l).st.rep a1 a2 a3 c1 c2 c3 = .agg #[.slice a1 n1 c1, .slice a2 n2 c2, .slice a3 n3 c3]) := hAV
        clear hA hAV
        rw [← HAV.out]
        refine (pfollows_any (replayRd l).st R a1 a2 a3 b1 b2 b3 c1 c2 c3 l1 l2 l3 _ HA.out (HR.out.below HX2.out.2) (counts_of HSND.out) ⟨by omega, by omega⟩ ⟨by omega, by omega⟩).mono ?_
        rintro e w3 ⟨rfl, hb3⟩
        have HX3 : Hid (Bx w3 w.heap.size 27 (repC b1 R.rep.n1 l1 b2 R.rep.n2 l2 b3 R.rep.n3 l3) ∧ Below w.heap.size w w3) := ⟨HX2.out.1.below hb3 HX2.out.1.lt, HX2.out.2.trans (hb3.mono HX2.out.2.size)⟩
        have HC3 : Hid (Bx w3 gc 53 (chC a1 n1 c1 a2 n2 c2 a3 n3 c3 q)) := HC2.out.below hb3 HC2.out.lt
        have HA3 : Hid (Has w3 (replayRd l).st.rep a1 a2 a3) := HA.out.below hb3
        rw [HAV.out]
        clear hb3 HX2 HC2 HL2 HA
        cases hf : followB (replayRd l).st R with
        | false =>
          have E : Hid (extendRd l R = ⟨[], 18, 0⟩) := by show _ = _; unfold extendRd; rw [if_pos HE.out, if_neg (by rw [← HN.out]; exact h16), if_pos HCR.out, if_neg (by rw [hf]; decide)]
          clear hf
          go_wp2_with fail
          refine bodyPost_ret (v := .tuple #[.string (str []), .int .i64 18, .int .i64 0]) (by simp [results, Tryz.results10, go_sem]; rfl) rfl ⟨by rw [E.out], HX3.out.2⟩
        | true =>
          have E : Hid (extendRd l R = ⟨nextB l.length (linkR l ((l.length - 1 : Nat) : Int)) (replayRd l).st R, 0, 0⟩) := by show _ = _; unfold extendRd; rw [if_pos HE.out, if_neg (by rw [← HN.out]; exact h16), if_pos HCR.out, if_pos hf]
          obtain ⟨d1, d2⟩ := diff_new (Tri.asc HCR.out) (counts_of HCR.out) hf
          have HD : Hid ((⟨newK (replayRd l).st.K R.K, newC (replayRd l).st.C R.C, R.E⟩ : Tri) = diffS (replayRd l).st R) := by show _ = _; rw [d1, d2]; rfl
          have HFIT : Hid (Fit (diffS (replayRd l).st R).rep) := diff_fit HCR.out
          have HQ2 : Hid (q = sealR (linkR l ((l.length - 1 : Nat) : Int))) := HQ.out HE.out
          have HNB : Hid (nextB l.length (linkR l ((l.length - 1 : Nat) : Int)) (replayRd l).st R = bundleB (recsOf (N : Int) q (diffS (replayRd l).st R).rep)) := by show _ = _; unfold nextB; rw [HQ2.out, HN.out]
          have HSB : Hid (0 ≤ q ∧ q ≤ 4294967295) := by rw [HQ2.out]; exact sealR_bound _
          clear hf d1 d2
          have x0 := HX3.out.1.cell 0; have x1 := HX3.out.1.cell 1; have x2 := HX3.out.1.cell 2
          have y0 := HC3.out.cell 0; have y1 := HC3.out.cell 1; have y2 := HC3.out.cell 2
          dsimp only [List.getElem?_cons_zero, List.getElem?_cons_succ] at x0 x1 x2 y0 y1 y2
          go_wp2_with fail
          clear x0 x1 x2 y0 y1 y2
          rw [← HAV.out]
          refine (newState_any (replayRd l).st R a1 a2 a3 b1 b2 b3 c1 c2 c3 l1 l2 l3 _ HA3.out (HR.out.below HX3.out.2) ⟨by omega, by omega⟩ ⟨by omega, by omega, by omega⟩).mono ?_
          rintro e w4 ⟨i1, m1, j1, i2, m2, j2, i3, m3, j3, rfl, hL4, hb4⟩
          have q1 := newK_len (replayRd l).st.K R.K
          have q2 := newC_len (replayRd l).st.C R.C
          obtain ⟨hD, hDV⟩ := hL4.has (by have := hL4.e1; omega) (by have := hL4.e2; omega) (by have := hL4.e3; omega)
          have HDH : Hid (Has w4 (diffS (replayRd l).st R).rep i1 i2 i3) := by rw [← HD.out]; exact hD
          have e1 : m1 = (diffS (replayRd l).st R).rep.n1 := by rw [← HD.out]; exact hL4.e1
          have e2 : m2 = (diffS (replayRd l).st R).rep.n2 := by rw [← HD.out]; exact hL4.e2
          have e3 : m3 = (diffS (replayRd l).st R).rep.n3 := by rw [← HD.out]; exact hL4.e3
          clear hD hDV hL4 q1 q2
          subst e1 e2 e3
          generalize (diffS (replayRd l).st R).rep = DR at *
          have hal : Below w4.heap.size w4 (w4.alloc (.cells #[.slice i1 DR.n1 j1, .slice i2 DR.n2 j2, .slice i3 DR.n3 j3] 27)) := (Below.refl _ _).alloc (Nat.le_refl _) _
          have hs4 := hb4.trans (hal.mono hb4.size)
          have hbw4 : Below w.heap.size w (w4.alloc (.cells #[.slice i1 DR.n1 j1, .slice i2 DR.n2 j2, .slice i3 DR.n3 j3] 27)) := HX3.out.2.trans (hs4.mono HX3.out.2.size)
          have HBW4 : Hid (Below w.heap.size w (w4.alloc (.cells #[.slice i1 DR.n1 j1, .slice i2 DR.n2 j2, .slice i3 DR.n3 j3] 27))) := hbw4
          have HC4 := HC3.out.below hs4 HC3.out.lt
          have HS4 := Bx.new w4 27 #[.slice i1 DR.n1 j1, .slice i2 DR.n2 j2, .slice i3 DR.n3 j3]
          have HD4 : Hid (Has (w4.alloc (.cells #[.slice i1 DR.n1 j1, .slice i2 DR.n2 j2, .slice i3 DR.n3 j3] 27)) DR i1 i2 i3) := HDH.out.below hal
          have y3 := HC4.cell 3
          have z0 := HS4.cell 0; have z1 := HS4.cell 1; have z2 := HS4.cell 2
          dsimp only [List.getElem?_cons_zero, List.getElem?_cons_succ] at y3 z0 z1 z2
          clear hb4 hal hs4 hbw4 HC4 HS4 HX3 HC3 HA3 HDH
          go_wp2_with fail
          refine (bundle_any (N : Int) q DR i1 i2 i3 j1 j2 j3 _ HD4.out HFIT.out ⟨by omega, by omega⟩ HSB.out.1 HSB.out.2).mono ?_
          rintro e w5 ⟨rfl, hb5⟩
          have HB5 : Hid (Below w.heap.size w w5) := HBW4.out.trans (hb5.mono HBW4.out.size)
          clear hb5 y3 z0 z1 z2
          go_wp2_with fail
          refine bodyPost_ret (v := .tuple #[.string (str (bundleB (recsOf (N : Int) q DR))), .int .i64 0, .int .i64 0]) (by simp [results, Tryz.results10, go_sem]) rfl ⟨by rw [E.out, HNB.out], HB5.out⟩
      · have E : Hid (extendRd l R = ⟨[], R.rep.chk, 0⟩) := by show _ = _; unfold extendRd; rw [if_pos HE.out, if_neg (by rw [← HN.out]; exact h16), if_neg hc]
        have hcb : (R.rep.chk != 0) = true := bne_iff_ne.mpr hc
        clear hc
        go_wp2_with fail
        refine bodyPost_ret (v := .tuple #[.string (str []), .int .i64 R.rep.chk, .int .i64 0]) (by simp [results, Tryz.results10, go_sem]; rfl) rfl ⟨by rw [E.out], HX2.out.2⟩
  · have E : Hid (extendRd l R = ⟨[], (replayRd l).err, (replayRd l).place⟩) := by show _ = _; unfold extendRd; rw [if_neg he]
    have hcb : ((replayRd l).err != 0) = true := bne_iff_ne.mpr he
    clear he
    go_wp2_with fail
    refine bodyPost_ret (v := .tuple #[.string (str []), .int .i64 (replayRd l).err, .int .i64 (replayRd l).place]) (by simp [results, Tryz.results10, go_sem]; rfl) rfl ⟨by rw [E.out], HX1.out.2⟩

set_option maxRecDepth 100000 in
set_option maxHeartbeats 4000000 in
theorem pextend_any (l : List (List UInt8)) (R : Tri) (ad0 : Option Addr) (N cap0 : Nat) (b1 b2 b3 : Option Addr) (l1 l2 l3 : Nat) (w : World) (hL : Lies w ad0 N 1 (fun i => [.string (str (l.getD i []))])) (hN : N = l.length) (hl : ∀ v, v ∈ l → v.length ≤ 1048576) (hb : N ≤ 1048576) (hR : Has w R.rep b1 b2 b3) :
    Calls Tryz.prog 6 #[.slice ad0 N cap0, repV R.rep b1 b2 b3 l1 l2 l3] w fun e w' => e = .returned (XtV (extendRd l R)) ∧ Below w.heap.size w w' := by
  obtain ⟨hX, hW, hB⟩ := one_box w 27 (repC b1 R.rep.n1 l1 b2 R.rep.n2 l2 b3 R.rep.n3 l3).toArray
  have HB : Hid (Below w.heap.size w (w.alloc (.cells (repC b1 R.rep.n1 l1 b2 R.rep.n2 l2 b3 R.rep.n3 l3).toArray 27))) := hB
  have x0 := hX.cell 0; have x1 := hX.cell 1; have x2 := hX.cell 2
  dsimp only [List.getElem?_cons_zero, List.getElem?_cons_succ] at x0 x1 x2
  have HLI : Hid (Lies w ad0 N 1 (fun i => [.string (str (l.getD i []))])) := hL
  have HN : Hid (N = l.length) := hN
  have HL : Hid (∀ v, v ∈ l → v.length ≤ 1048576) := hl
  have HR : Hid (Has w R.rep b1 b2 b3) := hR
  clear hX hW hB hL hN hl hR
  go_enter Tryz.func6, Tryz.ntmps6
  go_wp2_with fail
  refine (cextend_any l R ad0 N cap0 b1 b2 b3 l1 l2 l3 _ (HLI.out.below HB.out) HN.out HL.out hb (HR.out.below HB.out)).mono ?_
  rintro e w1 ⟨rfl, hb1⟩
  have HB1 : Hid (Below w.heap.size w w1) := HB.out.trans (hb1.mono HB.out.size)
  clear hb1 x0 x1 x2
  generalize hx : extendRd l R = x
  have HXX : Hid (extendRd l R = x) := hx
  clear hx
  go_wp2_with fail
  refine bodyPost_ret (v := XtV x) (by simp [results, Tryz.results6, go_sem]) rfl ⟨by rw [HXX.out], HB1.out⟩
end Go.Proofs.YtdjpkgaicmklmaaGreat

/- Plain: what the reference's Extend goes by is the document's: the last link's seal, the records that are new. -/
namespace Go.Proofs.YtdjpkgaicmklmaaGreat
open Go.RowKit

/-- What a chain that is replayed keeps. -/
structure Ok16 (l : List (List UInt8)) : Prop where
  few : l.length ≤ 16
  pos : 0 < l.length
  read : ∀ i, i < l.length → (readRd (l.getD i [])).err = 0
  once : ∀ i, i < l.length → bad5 l i = false
  all : ∀ i, i < l.length → bad6 l i = false
theorem replay_ok {l : List (List UInt8)} (h : (replayRd l).err = 0) : Ok16 l := by
  by_cases h16 : 16 < l.length
  · rw [replay_many h16] at h; cases h
  · by_cases h4 : lkErr l = 0
    · cases h5 : firstOf (bad5 l) l.length with
      | some i => rw [replay_twice h16 h4 h5] at h; cases h
      | none =>
        by_cases h6 : l.length = 0 ∨ (firstOf (bad6 l) l.length).isSome = true
        · rw [replay_missing h16 h4 h5 h6] at h; cases h
        · have h60 : ¬ l.length = 0 := fun e => h6 (Or.inl e)
          have h61 : firstOf (bad6 l) l.length = none := by
            cases hf : firstOf (bad6 l) l.length with
            | none => rfl
            | some i => exact absurd (Or.inr (by rw [hf]; rfl)) h6
          refine ⟨by omega, by omega, fun i hi => ?_, firstOf_none.mp h5, firstOf_none.mp h61⟩
          have := firstOf_none.mp (lk_none h4).1 i hi
          unfold bad4 at this
          simpa using this
    · rw [replay_read h16 h4] at h; exact absurd h h4
/-- Which seal Extend's first loop has found. -/
def baseTo (l : List (List UInt8)) : Nat → Int
  | 0 => 0
  | i + 1 => if (readRd (l.getD i [])).seq = (l.length : Int) - 1 then sealR (l.getD i []) else baseTo l i
theorem baseTo_at {l : List (List UInt8)} {q : Nat} (h : ∀ i, i < l.length → ((readRd (l.getD i [])).seq = (l.length : Int) - 1 ↔ i = q)) : ∀ i, i ≤ l.length → baseTo l i = if q < i then sealR (l.getD q []) else 0
  | 0, _ => by rw [if_neg (by omega)]; rfl
  | i + 1, hi => by
    have ih := baseTo_at h i (by omega)
    have hq := h i (by omega)
    unfold baseTo
    by_cases hs : (readRd (l.getD i [])).seq = (l.length : Int) - 1
    · have e := hq.mp hs
      rw [if_pos hs, if_pos (by omega), e]
    · have e : ¬ i = q := fun e => hs (hq.mpr e)
      rw [if_neg hs, ih]
      by_cases h1 : q < i
      · rw [if_pos h1, if_pos (by omega)]
      · rw [if_neg h1, if_neg (by omega)]
theorem baseTo_all {l : List (List UInt8)} (h : Ok16 l) : baseTo l l.length = sealR (linkR l ((l.length - 1 : Nat) : Int)) := by
  have hp := h.pos
  have h6 := h.all (l.length - 1) (by omega)
  have hcast : ((l.length - 1 : Nat) : Int) = (l.length : Int) - 1 := by omega
  unfold bad6 at h6
  have h7 : (l.any fun b => (readRd b).seq == ((l.length - 1 : Nat) : Int)) = true := by
    cases hx : (l.any fun b => (readRd b).seq == ((l.length - 1 : Nat) : Int)) with
    | true => rfl
    | false => rw [hx] at h6; cases h6
  have hq : seqIx l ((l.length - 1 : Nat) : Int) < l.length := by
    unfold seqIx
    rw [List.findIdx_lt_length]
    obtain ⟨b, hb, he⟩ := List.any_eq_true.1 h7
    exact ⟨b, hb, he⟩
  have hat : (readRd (l.getD (seqIx l ((l.length - 1 : Nat) : Int)) [])).seq = (l.length : Int) - 1 := by
    have := List.findIdx_getElem (p := fun b => (readRd b).seq == ((l.length - 1 : Nat) : Int)) (xs := l) (w := hq)
    have e : l.getD (seqIx l ((l.length - 1 : Nat) : Int)) [] = l[seqIx l ((l.length - 1 : Nat) : Int)] := by rw [List.getD_eq_getElem?_getD, List.getElem?_eq_getElem hq]; rfl
    rw [e, ← hcast]
    exact beq_iff_eq.1 this
  rw [baseTo_at (q := seqIx l ((l.length - 1 : Nat) : Int)) (fun i hi => ⟨fun hs => ?_, fun e => by rw [e]; exact hat⟩) l.length (Nat.le_refl _), if_pos hq]
  · rfl
  · rcases Nat.lt_trichotomy i (seqIx l ((l.length - 1 : Nat) : Int)) with h1 | h1 | h1
    · exfalso
      have := List.not_of_lt_findIdx (p := fun b => (readRd b).seq == ((l.length - 1 : Nat) : Int)) (xs := l) h1
      have e : l.getD i [] = l[i] := by rw [List.getD_eq_getElem?_getD, List.getElem?_eq_getElem hi]; rfl
      rw [← e, hs, hcast, beq_self_eq_true] at this
      cases this
    · exact h1
    · exfalso
      have h5 := h.once i hi
      unfold bad5 at h5
      rw [List.any_eq_false] at h5
      have hm : l.getD (seqIx l ((l.length - 1 : Nat) : Int)) [] ∈ l.take i := by
        rw [List.getD_eq_getElem?_getD, List.getElem?_eq_getElem hq]
        refine List.mem_iff_getElem.2 ⟨seqIx l ((l.length - 1 : Nat) : Int), by rw [List.length_take]; omega, ?_⟩
        rw [List.getElem_take]; rfl
      have := h5 _ hm
      rw [hat, hs, beq_self_eq_true] at this
      exact this rfl
/-- What is new, record by record. -/
theorem diff_clock {o : List Ck} {c : Ck} (hp : 1 ≤ c.count) : decide (look Ck.site o c.site ≠ some c) = (clkOf o c.site != c.count) := by
  unfold clkOf
  cases hl : look Ck.site o c.site with
  | none =>
    have h1 : ((0 : Int) != c.count) = true := by rw [bne_iff_ne]; omega
    simp only [h1]
    exact decide_eq_true (by intro h; cases h)
  | some d =>
    have hs : d.site = c.site := (look_mem Ck.site hl).2
    by_cases hc : d.count = c.count
    · have e : d = c := by cases d; cases c; simp at hs hc; rw [hs, hc]
      subst e
      simp
    · have h1 : (d.count != c.count) = true := by rw [bne_iff_ne]; exact hc
      simp only [h1]
      exact decide_eq_true (by intro h; simp at h; exact hc (by rw [h]))
theorem diff_card (o : List Cd) (c : Cd) : decide (look Cd.id o c.id ≠ some c) = (if cardIx o c.id < o.length then decide (o.getD (cardIx o c.id) cd0 ≠ c) else true) := by
  rw [cardIx_look]
  split
  · rename_i h
    by_cases he : o.getD (cardIx o c.id) cd0 = c
    · rw [he]; simp
    · rw [decide_eq_true (show o.getD (cardIx o c.id) cd0 ≠ c from he), decide_eq_true (by intro h2; exact he (Option.some.inj h2))]
  · exact decide_eq_true (by intro h; cases h)
def nK (o r : Tri) (i : Nat) : List Ck := (r.K.take i).filter (fun c => decide (look Ck.site o.K c.site ≠ some c))
def nC (o r : Tri) (i : Nat) : List Cd := (r.C.take i).filter (fun c => decide (look Cd.id o.C c.id ≠ some c))
theorem filter_snoc {α : Type} (p : α → Bool) (l : List α) (x : α) : (l ++ [x]).filter p = if p x = true then l.filter p ++ [x] else l.filter p := by
  rw [List.filter_append]
  by_cases h : p x = true
  · rw [if_pos h]; simp [h]
  · rw [if_neg h]; simp [h]
theorem nK_step {o r : Tri} {i : Nat} (hi : i < r.K.length) : nK o r (i + 1) = if decide (look Ck.site o.K (r.K.getD i ck0).site ≠ some (r.K.getD i ck0)) = true then nK o r i ++ [r.K.getD i ck0] else nK o r i := by
  unfold nK
  rw [take_clock r.K i hi, filter_snoc]
theorem nC_step {o r : Tri} {i : Nat} (hi : i < r.C.length) : nC o r (i + 1) = if decide (look Cd.id o.C (r.C.getD i cd0).id ≠ some (r.C.getD i cd0)) = true then nC o r i ++ [r.C.getD i cd0] else nC o r i := by
  unfold nC
  rw [take_card r.C i hi, filter_snoc]
theorem nK_len (o r : Tri) (i : Nat) : (nK o r i).length ≤ r.K.length := by
  unfold nK
  exact Nat.le_trans (List.length_filter_le _ _) (by rw [List.length_take]; omega)
theorem nC_len (o r : Tri) (i : Nat) : (nC o r i).length ≤ r.C.length := by
  unfold nC
  exact Nat.le_trans (List.length_filter_le _ _) (by rw [List.length_take]; omega)
theorem n_all (o r : Tri) : (⟨nK o r r.K.length, nC o r r.C.length, r.E⟩ : Tri) = diffS o r := by
  unfold nK nC diffS
  rw [List.take_length, List.take_length]
end Go.Proofs.YtdjpkgaicmklmaaGreat

/- parcelref.Extend: walked. -/
namespace Go.Proofs.YtdjpkgaicmklmaaGreat
open Go.RowKit

theorem wrapI (i : Int) (h : -9223372036854775808 ≤ i) (h2 : i ≤ 9223372036854775807) : IntKind.i64.wrap i = i := by
  have e : (2 : Int) ^ IntKind.i64.bits = 18446744073709551616 := by decide
  have s : IntKind.i64.signed = true := rfl
  have e2 : (2 : Int) ^ (IntKind.i64.bits - 1) = 9223372036854775808 := by decide
  simp [IntKind.wrap, e, e2, s]; omega
/-- What lies there behind Follows: the replica that came in and the old one, in variables. -/
structure Xw (w : World) (O R : Tri) (l : List (List UInt8)) (ad0 : Option Addr) (N : Nat) (a1 a2 a3 b1 b2 b3 : Option Addr) (c1 c2 c3 l1 l2 l3 gc : Nat) (X : World) : Prop where
  r : Bx X w.heap.size 27 (repC b1 R.rep.n1 l1 b2 R.rep.n2 l2 b3 R.rep.n3 l3)
  o : Bx X gc 27 (repC a1 O.rep.n1 c1 a2 O.rep.n2 c2 a3 O.rep.n3 c3)
  hr : Has X R.rep b1 b2 b3
  ho : Has X O.rep a1 a2 a3
  li : Lies X ad0 N 1 (fun i => [.string (str (l.getD i []))])
  old : Below w.heap.size w X
theorem Xw.step {w : World} {O R : Tri} {l : List (List UInt8)} {ad0 : Option Addr} {N : Nat} {a1 a2 a3 b1 b2 b3 : Option Addr} {c1 c2 c3 l1 l2 l3 gc : Nat} {X Y : World} (h : Xw w O R l ad0 N a1 a2 a3 b1 b2 b3 c1 c2 c3 l1 l2 l3 gc X) (hb : Below X.heap.size X Y) : Xw w O R l ad0 N a1 a2 a3 b1 b2 b3 c1 c2 c3 l1 l2 l3 gc Y :=
  ⟨h.r.below hb h.r.lt, h.o.below hb h.o.lt, h.hr.below hb, h.ho.below hb, h.li.below hb, h.old.trans (hb.mono h.old.size)⟩
/-- The link that is made. -/
structure Xe (W : World) (g B2 B3 : Nat) (n q : Int) (adK : Option Addr) (capK : Nat) (K : List Ck) (adC : Option Addr) (capC : Nat) (C : List Cd) (wx : World) : Prop where
  old : Below W.heap.size W wx
  o : Bx wx g 46 (lnkC n q adK K.length capK adC C.length capC none 0 0)
  k : Vec wx B2 37 2 adK K.length capK (kcells K)
  c : Vec wx B3 39 5 adC C.length capC (ccells C)
  lt : W.heap.size ≤ g
theorem Xe.step {W : World} {g B2 B3 : Nat} {n q : Int} {adK : Option Addr} {capK : Nat} {K : List Ck} {adC : Option Addr} {capC : Nat} {C : List Cd} {wx X : World} (h : Xe W g B2 B3 n q adK capK K adC capC C wx) (hb : Below wx.heap.size wx X) : Xe W g B2 B3 n q adK capK K adC capC C X :=
  ⟨h.old.trans (hb.mono h.old.size), h.o.below hb h.o.lt, h.k.keep hb, h.c.keep hb, h.lt⟩
theorem Xe.base {W : World} {g B2 B3 : Nat} {n q : Int} {adK : Option Addr} {capK : Nat} {K : List Ck} {adC : Option Addr} {capC : Nat} {C : List Cd} {wx : World} (h : Xe W g B2 B3 n q adK capK K adC capC C wx) (p : Int) : Xe W g B2 B3 n p adK capK K adC capC C (wx.setCell ⟨g, 1, none⟩ (.int .i64 p)) := by
  have hu : Upd g wx (wx.setCell ⟨g, 1, none⟩ (.int .i64 p)) := (Upd.refl g wx).setCell _ rfl _
  exact ⟨hu.below h.old h.lt, h.o.setCell 1 _, h.k.oth h.o hu (by decide), h.c.oth h.o hu (by decide), h.lt⟩
theorem Xe.pushK {W : World} {g B2 B3 : Nat} {n q : Int} {adK : Option Addr} {capK : Nat} {K : List Ck} {w7 w8 : World} (h : Xe W g B2 B3 n q adK capK K none 0 [] w7) (hb : Below B2 w7 w8) (hB : W.heap.size ≤ B2) (lg : g < B2) {x : Ck} {ad' : Option Addr} {cap' : Nat} (hv : Vec w8 B2 37 2 ad' (K.length + 1) cap' (kcells K ++ x.cells)) :
    Xe W g B2 B3 n q ad' cap' (K ++ [x]) none 0 [] (w8.setCell ⟨g, 2, none⟩ (.slice ad' (K.length + 1) cap')) := by
  have ho := h.o.below hb lg
  have hu : Upd g w8 (w8.setCell ⟨g, 2, none⟩ (.slice ad' (K.length + 1) cap')) := (Upd.refl g w8).setCell _ rfl _
  have hl : (K ++ [x]).length = K.length + 1 := by simp
  have hk : kcells (K ++ [x]) = kcells K ++ x.cells := by simp [kcells]
  refine ⟨hu.below (h.old.trans (hb.mono hB)) h.lt, ?_, ?_, Vec.nil _ _ _ _, h.lt⟩
  · rw [hl]; exact ho.setCell 2 _
  · rw [hl, hk]; exact hv.oth ho hu (by decide)
theorem Xe.pushC {W : World} {g B2 B3 : Nat} {n q : Int} {adK : Option Addr} {capK : Nat} {K : List Ck} {adC : Option Addr} {capC : Nat} {C : List Cd} {w7 w8 : World} (h : Xe W g B2 B3 n q adK capK K adC capC C w7) (hb : Below B3 w7 w8) (hB : W.heap.size ≤ B3) (lg : g < B3) (lk : ∀ b, adK = some b → b.block < B3) {x : Cd} {ad' : Option Addr} {cap' : Nat} (hv : Vec w8 B3 39 5 ad' (C.length + 1) cap' (ccells C ++ x.cells)) :
    Xe W g B2 B3 n q adK capK K ad' cap' (C ++ [x]) (w8.setCell ⟨g, 3, none⟩ (.slice ad' (C.length + 1) cap')) := by
  have ho := h.o.below hb lg
  have hk := h.k.low lk hb
  have hu : Upd g w8 (w8.setCell ⟨g, 3, none⟩ (.slice ad' (C.length + 1) cap')) := (Upd.refl g w8).setCell _ rfl _
  have hl : (C ++ [x]).length = C.length + 1 := by simp
  have hc : ccells (C ++ [x]) = ccells C ++ x.cells := by simp [ccells]
  refine ⟨hu.below (h.old.trans (hb.mono hB)) h.lt, ?_, hk.oth ho hu (by decide), ?_, h.lt⟩
  · rw [hl]; exact ho.setCell 3 _
  · rw [hl, hc]; exact hv.oth ho hu (by decide)

set_option maxRecDepth 100000 in
set_option maxHeartbeats 16000000 in
theorem rextend_any (l : List (List UInt8)) (R : Tri) (ad0 : Option Addr) (N cap0 : Nat) (b1 b2 b3 : Option Addr) (l1 l2 l3 : Nat) (w : World) (hL : Lies w ad0 N 1 (fun i => [.string (str (l.getD i []))])) (hN : N = l.length) (hl : ∀ v, v ∈ l → v.length ≤ 1048576) (hb : N ≤ 1048576) (hR : Has w R.rep b1 b2 b3) :
    Calls Tryz.prog 7 #[.slice ad0 N cap0, repV R.rep b1 b2 b3 l1 l2 l3] w fun e w' => e = .returned (XtV (extendRd l R)) ∧ Below w.heap.size w w' := by
  obtain ⟨hX, hW, hB⟩ := one_box w 27 (repC b1 R.rep.n1 l1 b2 R.rep.n2 l2 b3 R.rep.n3 l3).toArray
  have HX0 : Hid (Bx (w.alloc (.cells (repC b1 R.rep.n1 l1 b2 R.rep.n2 l2 b3 R.rep.n3 l3).toArray 27)) w.heap.size 27 (repC b1 R.rep.n1 l1 b2 R.rep.n2 l2 b3 R.rep.n3 l3) ∧ Below w.heap.size w (w.alloc (.cells (repC b1 R.rep.n1 l1 b2 R.rep.n2 l2 b3 R.rep.n3 l3).toArray 27))) := ⟨hX, hB⟩
  have HLI : Hid (Lies w ad0 N 1 (fun i => [.string (str (l.getD i []))])) := hL
  have HN : Hid (N = l.length) := hN
  have HL : Hid (∀ v, v ∈ l → v.length ≤ 1048576) := hl
  have HR : Hid (Has w R.rep b1 b2 b3) := hR
  clear hX hW hB hL hN hl hR
  go_enter Tryz.func7, Tryz.ntmps7
  go_wp2_with fail
  refine (rreplay_any l ad0 N cap0 _ (HLI.out.below HX0.out.2) HN.out HL.out hb).mono ?_
  rintro e w1 ⟨⟨a1, n1, c1, a2, n2, c2, a3, n3, c3, rfl, hL1⟩, hb1⟩
  have hal : Below w1.heap.size w1 (w1.alloc (.cells (repC a1 n1 c1 a2 n2 c2 a3 n3 c3).toArray 27)) := (Below.refl _ _).alloc (Nat.le_refl _) _
  have hs := hb1.trans (hal.mono hb1.size)
  have HX1 : Hid (Bx (w1.alloc (.cells (repC a1 n1 c1 a2 n2 c2 a3 n3 c3).toArray 27)) w.heap.size 27 (repC b1 R.rep.n1 l1 b2 R.rep.n2 l2 b3 R.rep.n3 l3) ∧ Below w.heap.size w (w1.alloc (.cells (repC a1 n1 c1 a2 n2 c2 a3 n3 c3).toArray 27))) := ⟨HX0.out.1.below hs HX0.out.1.lt, HX0.out.2.trans (hs.mono HX0.out.2.size)⟩
  have HC1 : Hid (Bx (w1.alloc (.cells (repC a1 n1 c1 a2 n2 c2 a3 n3 c3).toArray 27)) w1.heap.size 27 (repC a1 n1 c1 a2 n2 c2 a3 n3 c3)) := Bx.new _ _ _
  have HL1 : Hid (Lists (w1.alloc (.cells (repC a1 n1 c1 a2 n2 c2 a3 n3 c3).toArray 27)) 0 (replayRd l).K (replayRd l).C (replayRd l).E a1 n1 c1 a2 n2 c2 a3 n3 c3) := (hL1.mono (Nat.zero_le _)).keep hal
  clear hL1 hb1 hal hs HX0
  by_cases he : (replayRd l).err = 0
  · have HE : Hid ((replayRd l).err = 0) := he
    have HSND : Hid ((replayRd l).st.rep.chk = 0) := replay_sound he
    have HOK : Hid (Ok16 l) := replay_ok he
    rw [he]
    clear he
    by_cases h16 : 16 ≤ N
    · have E : Hid (extendRd l R = ⟨[], 1, 0⟩) := by show _ = _; unfold extendRd; rw [if_pos HE.out, if_pos (by rw [← HN.out]; exact h16)]
      go_wp2_with fail
      refine bodyPost_ret (v := .tuple #[.string (str []), .int .i64 1, .int .i64 0]) (by simp [results, Tryz.results7, go_sem]; rfl) rfl ⟨by rw [E.out], HX1.out.2⟩
    · have h16' : ¬ (16 : Int) ≤ (N : Int) := by omega
      have x0 := HX1.out.1.cell 0; have x1 := HX1.out.1.cell 1; have x2 := HX1.out.1.cell 2
      dsimp only [List.getElem?_cons_zero, List.getElem?_cons_succ] at x0 x1 x2
      generalize (replayRd l).place = pl at *
      go_wp2_with fail
      generalize w1.alloc (.cells (repC a1 n1 c1 a2 n2 c2 a3 n3 c3).toArray 27) = X1 at *
      generalize w1.heap.size = gc at *
      clear w1 x0 x1 x2
      refine (rcheck_any R.rep b1 b2 b3 l1 l2 l3 _ (HR.out.below HX1.out.2)).mono ?_
      rintro e w2 ⟨rfl, hb2⟩
      have HX2 : Hid (Bx w2 w.heap.size 27 (repC b1 R.rep.n1 l1 b2 R.rep.n2 l2 b3 R.rep.n3 l3) ∧ Below w.heap.size w w2) := ⟨HX1.out.1.below hb2 HX1.out.1.lt, HX1.out.2.trans (hb2.mono HX1.out.2.size)⟩
      have HC2 : Hid (Bx w2 gc 27 (repC a1 n1 c1 a2 n2 c2 a3 n3 c3)) := HC1.out.below hb2 HC1.out.lt
      have HL2 : Hid (Lists w2 0 (replayRd l).K (replayRd l).C (replayRd l).E a1 n1 c1 a2 n2 c2 a3 n3 c3) := HL1.out.keep hb2
      clear hb2 HX1 HC1 HL1
      by_cases hc : R.rep.chk = 0
      · have HCR : Hid (R.rep.chk = 0) := hc
        rw [hc]
        clear hc
        have x0 := HX2.out.1.cell 0; have x1 := HX2.out.1.cell 1; have x2 := HX2.out.1.cell 2
        have y0 := HC2.out.cell 0; have y1 := HC2.out.cell 1; have y2 := HC2.out.cell 2
        dsimp only [List.getElem?_cons_zero, List.getElem?_cons_succ] at x0 x1 x2 y0 y1 y2
        go_wp2_with fail
        clear x0 x1 x2 y0 y1 y2
        obtain ⟨f1, f2, f3⟩ := few_of HSND.out
        obtain ⟨g1, g2, g3⟩ := few_of HCR.out
        obtain ⟨hA, hAV⟩ := HL2.out.has (by have := HL2.out.e1; simp only [Ans.st] at f1; omega) (by have := HL2.out.e2; simp only [Ans.st] at f2; omega) (by have := HL2.out.e3; simp only [Ans.st] at f3; omega)
        have HA : Hid (Has w2 (replayRd l).st.rep a1 a2 a3) := hA
        have HAV : Hid (repV (replayRd l).st.rep a1 a2 a3 c1 c2 c3 = .agg #[.slice a1 n1 c1, .slice a2 n2 c2, .slice a3 n3 c3]) := hAV
        clear hA hAV
        have e1 : n1 = (replayRd l).st.rep.n1 := HL2.out.e1
        have e2 : n2 = (replayRd l).st.rep.n2 := HL2.out.e2
        have e3 : n3 = (replayRd l).st.rep.n3 := HL2.out.e3
        subst e1 e2 e3
        clear HL2 HAV
        refine (rfollows_any (replayRd l).st R a1 a2 a3 b1 b2 b3 c1 c2 c3 l1 l2 l3 _ HA.out (HR.out.below HX2.out.2) (counts_of HSND.out) ⟨by omega, by omega⟩ ⟨by omega, by omega⟩).mono ?_
        rintro e w3 ⟨rfl, hb3⟩
        have HXW : Hid (Xw w (replayRd l).st R l ad0 N a1 a2 a3 b1 b2 b3 c1 c2 c3 l1 l2 l3 gc w3) := ⟨HX2.out.1.below hb3 HX2.out.1.lt, HC2.out.below hb3 HC2.out.lt, (HR.out.below HX2.out.2).below hb3, HA.out.below hb3, (HLI.out.below HX2.out.2).below hb3, HX2.out.2.trans (hb3.mono HX2.out.2.size)⟩
        clear hb3 HX2 HC2 HA
        cases hf : followB (replayRd l).st R with
        | false =>
          have E : Hid (extendRd l R = ⟨[], 18, 0⟩) := by show _ = _; unfold extendRd; rw [if_pos HE.out, if_neg (by rw [← HN.out]; exact h16), if_pos HCR.out, if_neg (by rw [hf]; decide)]
          clear hf
          go_wp2_with fail
          refine bodyPost_ret (v := .tuple #[.string (str []), .int .i64 18, .int .i64 0]) (by simp [results, Tryz.results7, go_sem]; rfl) rfl ⟨by rw [E.out], HXW.out.old⟩
        | true =>
          have E : Hid (extendRd l R = ⟨bundleB (recsOf (N : Int) (baseTo l N) (diffS (replayRd l).st R).rep), 0, 0⟩) := by
            show _ = _; unfold extendRd; rw [if_pos HE.out, if_neg (by rw [← HN.out]; exact h16), if_pos HCR.out, if_pos hf]
            unfold nextB; rw [HN.out, baseTo_all HOK.out]
          have HFIT : Hid (Fit (diffS (replayRd l).st R).rep) := diff_fit HCR.out
          have HCP : Hid (∀ x ∈ R.K, 1 ≤ x.count) := counts_of HCR.out
          have HSB : Hid (0 ≤ baseTo l N ∧ baseTo l N ≤ 4294967295) := by show _ ∧ _; rw [HN.out, baseTo_all HOK.out]; exact sealR_bound _
          have y1 : R.rep.n1 ≤ 8 := g1
          have y2 : R.rep.n2 ≤ 40 := g2
          clear hf HSND HE HCR HR HLI f1 f2 f3 g1 g2 g3
          generalize (replayRd l).st = O at *
          have HX0 : Hid (Xe w3 w3.heap.size 0 0 (N : Int) (baseTo l 0) none 0 [] none 0 [] (w3.alloc (.cells (lnkC (N : Int) 0 none 0 0 none 0 0 none 0 0).toArray 46))) := ⟨(Below.refl _ _).alloc (Nat.le_refl _) _, Bx.new _ _ _, Vec.nil _ _ _ _, Vec.nil _ _ _ _, Nat.le_refl _⟩
          go_wp2_with fail
          generalize w3.alloc (.cells (lnkC (N : Int) 0 none 0 0 none 0 0 none 0 0).toArray 46) = X4 at *
          generalize w3.heap.size = g at *
          generalize w3 = W at *
          go_loopw [12, 13, 14, 15] (fun u _ _ _ wr => ∃ i : Nat, i ≤ N ∧ u = .int .i64 i ∧ Xe W g 0 0 (N : Int) (baseTo l i) none 0 [] none 0 [] wr) (fun u _ _ _ _ => N - (intOf u).toNat)
          case atStart => exact ⟨0, Nat.zero_le _, rfl, HX0.out⟩
          case round =>
            clear HX0
            obtain ⟨i, hi, rfl, hE⟩ := hrel
            have HXE : Hid (Xe W g 0 0 (N : Int) (baseTo l i) none 0 [] none 0 [] wr) := hE
            have HXV : Hid (Xw w O R l ad0 N a1 a2 a3 b1 b2 b3 c1 c2 c3 l1 l2 l3 gc wr) := HXW.out.step hE.old
            clear hE
            by_cases hlt : i < N
            · obtain ⟨b, o, hbl, hix, hc⟩ := HXV.out.li.at cap0 (P := Tryz.prog) (t := 22) (by kernel_rfl) (by kernel_rfl) hlt
              have d0 : wr.cell? ⟨b, o, none⟩ = some (.string (str (l.getD i []))) := hc 0 _ (by omega) rfl
              have hil : i < l.length := by rw [← HN.out]; exact hlt
              have H8 : Hid (8 ≤ (l.getD i []).length) := read_long (HOK.out.read i hil)
              have HSH : Hid ((l.getD i []).length ≤ 1048576) := HL.out _ (volAt_mem hil)
              have HB1 : Hid ((readRd (l.getD i [])).seq = (N : Int) - 1 → baseTo l (i + 1) = sealR (l.getD i [])) := fun h => by
                show (if _ then _ else _) = _; rw [if_pos (by rw [← HN.out]; exact h)]
              have HB2 : Hid (¬ (readRd (l.getD i [])).seq = (N : Int) - 1 → baseTo l (i + 1) = baseTo l i) := fun h => by
                show (if _ then _ else _) = _; rw [if_neg (by rw [← HN.out]; exact h)]
              clear hc hil
              generalize l.getD i [] = s at *
              go_wp2_with fail
              refine (rread_any s _ (by have := HSH.out; omega)).mono ?_
              rintro e w1 ⟨⟨i1, m1, j1, i2, m2, j2, i3, m3, j3, rfl, -⟩, hb1⟩
              have hal1 : Below w1.heap.size w1 (w1.alloc (.cells (lnkC (readRd s).seq (readRd s).base i1 m1 j1 i2 m2 j2 i3 m3 j3).toArray 46)) := (Below.refl _ _).alloc (Nat.le_refl _) _
              have hs1 := hb1.trans (hal1.mono hb1.size)
              have hX1 := Bx.new w1 46 (lnkC (readRd s).seq (readRd s).base i1 m1 j1 i2 m2 j2 i3 m3 j3).toArray
              have z0 := hX1.cell 0
              dsimp only [List.getElem?_cons_zero, List.getElem?_cons_succ] at z0
              have d1 := (hs1.cell (p := ⟨b, o, none⟩) hbl).trans d0
              have HXE1 : Hid (Xe W g 0 0 (N : Int) (baseTo l i) none 0 [] none 0 [] (w1.alloc (.cells (lnkC (readRd s).seq (readRd s).base i1 m1 j1 i2 m2 j2 i3 m3 j3).toArray 46))) := HXE.out.step hs1
              clear hb1 hal1 hs1 hX1 d0 HXE HXV hbl
              have hsl := HSH.out
              cases hq : ((readRd s).seq == (N : Int) - 1) with
              | false =>
                have E1 : Hid (baseTo l (i + 1) = baseTo l i) := HB2.out (by simpa using hq)
                clear HB1 HB2 d1
                go_wp2_with fail
                go_roundw
                case rel => exact ⟨i + 1, by omega, by go_num, by rw [E1.out]; exact HXE1.out⟩
                case measure => simp [intOf]; omega
              | true =>
                have E1 : Hid (baseTo l (i + 1) = sealR s) := HB1.out (by simpa using hq)
                clear HB1 HB2
                go_wp2_with fail
                generalize w1.alloc (.cells (lnkC (readRd s).seq (readRd s).base i1 m1 j1 i2 m2 j2 i3 m3 j3).toArray 46) = X at *
                generalize w1.heap.size = gx at *
                clear w1 z0 hq
                have hz := str_size s
                obtain ⟨m, hm⟩ : ∃ m, (str s).size = m + 4 := ⟨(str s).size - 4, by have := H8.out; omega⟩
                have hx2 : (str s).extract m (m + 4) = str (s.drop m) := by rw [str_extract, List.take_of_length_le (by simp; omega)]
                have hsub : ((m : Int) + 4 - 4) = (m : Int) := by omega
                have hle2 : (m : Int) ≤ (m : Int) + 4 := by omega
                have HS : Hid (sealR s = fourRd (s.drop m)) := by show _ = _; unfold sealR; rw [show s.length - 4 = m by omega]
                have HD : Hid ((s.drop m).length = 4) := by show _ = _; simp; omega
                have hnb : m ≤ 1048576 := by have := HSH.out; omega
                have hd0 : ¬ (m : Int) < 0 := by omega
                have hw0 : IntKind.i64.wrap (m : Int) = (m : Int) := wrapI _ (by omega) (by omega)
                have hm0 : (0 : Int) ≤ (m : Int) := by omega
                have KF : Hid (∀ Y, Below X.heap.size X Y → Calls Tryz.prog 15 #[.string (str (s.drop m))] Y fun e w' => e = .returned (.int .i64 (sealR s)) ∧ Below X.heap.size X w') := fun Y hY => (rfour_rd (s.drop m) Y HD.out).mono fun e w' ⟨h1, n, h2⟩ => ⟨by rw [h1, HS.out], by rw [h2]; exact below_drewN hY n⟩
                have o1 := HXE1.out.o.cell 1
                dsimp only [List.getElem?_cons_zero, List.getElem?_cons_succ] at o1
                clear hz hsl
                generalize sealR s = sl at *
                apply merge
                · intro KEY
                  go_region_law (go_simp; go_at_call 15; refine (KF.out _ (by (repeat (first | exact Below.refl _ _ | refine Below.drew ?_)))).mono ?_; rintro e w2 ⟨rfl, hb2⟩; have ob := HXE1.out.o.below hb2 HXE1.out.o.lt; have ob1 := ob.cell 1; dsimp only [List.getElem?_cons_zero, List.getElem?_cons_succ] at ob1; have of1 := ob.frozen 1; dsimp only)
                  all_goals
                    have hN := (HXE1.out.step hb2).base sl
                    generalize w2.setCell ⟨g, 1, none⟩ (.int .i64 sl) = W1 at hN ⊢
                    clear hb2 ob ob1 of1
                    clear w2
                    revert W1
                    exact KEY.out
                intro W1 hN
                clear o1 d1 hix hx2 hsub hle2 HS HD hd0 hw0 hm0 KF HXE1 hm
                go_wp2_with fail
                go_roundw
                case rel => exact ⟨i + 1, by omega, by go_num, by rw [E1.out]; exact hN⟩
                case measure => simp [intOf]; omega
            · obtain rfl : N = i := by omega
              clear hi hlt HL HOK HN
              generalize baseTo l N = q at *
              have x0 := HXV.out.r.cell 0
              dsimp only [List.getElem?_cons_zero, List.getElem?_cons_succ] at x0
              have HB2 : Hid (W.heap.size ≤ wr.heap.size ∧ g < wr.heap.size) := ⟨HXE.out.old.size, HXE.out.o.lt⟩
              have HX2 : Hid (Xe W g wr.heap.size 0 (N : Int) q none 0 (nK O R 0) none 0 [] wr) := ⟨HXE.out.old, HXE.out.o, Vec.nil _ _ _ _, Vec.nil _ _ _ _, HXE.out.lt⟩
              clear HXE HXV
              go_wp2_with fail
              clear x0
              generalize hB2 : wr.heap.size = B2 at *
              have HZ2 : Hid (B2 ≤ wr.heap.size) := Nat.le_of_eq hB2.symm
              clear hB2
              generalize wr = Z2 at *
              go_loopw [16, 17] (fun u _ wr => ∃ (i : Nat) (adK : Option Addr) (capK : Nat), i ≤ R.rep.n1 ∧ u = .int .i64 i ∧ Xe W g B2 0 (N : Int) q adK capK (nK O R i) none 0 [] wr ∧ B2 ≤ wr.heap.size) (fun u _ _ => R.rep.n1 - (intOf u).toNat)
              case atStart => exact ⟨0, none, 0, Nat.zero_le _, rfl, HX2.out, by exact HZ2.out⟩
              case round =>
                clear HX2 HZ2
                obtain ⟨i, adK, capK, hi, rfl, hE, hzB⟩ := hrel
                have HXE : Hid (Xe W g B2 0 (N : Int) q adK capK (nK O R i) none 0 [] wr) := hE
                have HXV : Hid (Xw w O R l ad0 N a1 a2 a3 b1 b2 b3 c1 c2 c3 l1 l2 l3 gc wr) := HXW.out.step hE.old
                have HZB : Hid (B2 ≤ wr.heap.size) := hzB
                clear hE hzB
                have x0 := HXV.out.r.cell 0; have x1 := HXV.out.r.cell 1; have x2 := HXV.out.r.cell 2
                have v0 := HXV.out.o.cell 0; have v1 := HXV.out.o.cell 1; have v2 := HXV.out.o.cell 2
                dsimp only [List.getElem?_cons_zero, List.getElem?_cons_succ] at x0 x1 x2 v0 v1 v2
                by_cases hlt : i < R.rep.n1
                · obtain ⟨b, o, hbl, hix, d0, d1⟩ := Lies.clock (c := fun i => R.K.getD i ck0) HXV.out.hr.l1 l1 hlt
                  have hkl : (nK O R i).length ≤ 8 := Nat.le_trans (nK_len O R i) y1
                  have HCT : Hid (1 ≤ (R.K.getD i ck0).count) := HCP.out _ (getD_mem hlt)
                  have HNK : Hid (nK O R (i + 1) = if decide (look Ck.site O.K (R.K.getD i ck0).site ≠ some (R.K.getD i ck0)) = true then nK O R i ++ [R.K.getD i ck0] else nK O R i) := nK_step hlt
                  generalize R.K.getD i ck0 = c at *
                  have HDC : Hid (decide (look Ck.site O.K c.site ≠ some c) = (clkOf O.K c.site != c.count)) := diff_clock HCT.out
                  have KQ : Hid (∀ X, Below wr.heap.size wr X → Calls Tryz.prog 16 #[.agg #[.slice a1 O.rep.n1 c1, .slice a2 O.rep.n2 c2, .slice a3 O.rep.n3 c3], .int .i64 c.site] X fun e w' => e = .returned (.int .i64 (clkOf O.K c.site)) ∧ Below wr.heap.size wr w') := fun X hX => (clocked_any O.rep a1 a2 a3 c1 c2 c3 c.site X (HXV.out.step hX).ho).mono fun e w' ⟨h1, h2⟩ => ⟨by rw [h1, rep_clk], hX.trans (h2.mono hX.size)⟩
                  clear HCT
                  go_wp2_with fail
                  apply merge
                  · intro KEY
                    go_region_law (go_simp; go_at_call 16; refine (KQ.out _ (by (repeat (first | exact Below.refl _ _ | refine Below.drew ?_)))).mono ?_; rintro e w1 ⟨rfl, hb1⟩; dsimp only)
                    all_goals
                      revert w1
                      exact KEY.out
                  intro w1 hb1
                  have e0 := (hb1.cell (p := ⟨b, o, none⟩) hbl).trans d0
                  have e1 := (hb1.cell (p := ⟨b, o + 1, none⟩) hbl).trans d1
                  have HXE1 : Hid (Xe W g B2 0 (N : Int) q adK capK (nK O R i) none 0 [] w1) := HXE.out.step hb1
                  have hw1 := (HXV.out.step hb1).r.cell 0
                  dsimp only [List.getElem?_cons_zero, List.getElem?_cons_succ] at hw1
                  have HZ1 : Hid (B2 ≤ w1.heap.size) := Nat.le_trans HZB.out hb1.size
                  clear KQ hb1 d0 d1 x0 x1 x2 v0 v1 v2 HXE HXV HZB hbl
                  cases hq : (clkOf O.K c.site != c.count) with
                  | false =>
                    have E1 : Hid (nK O R (i + 1) = nK O R i) := by show _ = _; rw [HNK.out, HDC.out, hq]; rfl
                    clear HNK HDC
                    generalize clkOf O.K c.site = y at *
                    go_wp2_with fail
                    go_roundw
                    case rel => exact ⟨i + 1, adK, capK, by omega, by go_num, by rw [E1.out]; exact HXE1.out, HZ1.out⟩
                    case measure => simp [intOf]; omega
                  | true =>
                    have E1 : Hid (nK O R (i + 1) = nK O R i ++ [c]) := by show _ = _; rw [HNK.out, HDC.out, hq]; rfl
                    clear HNK HDC
                    generalize clkOf O.K c.site = y at *
                    generalize nK O R i = Ki at *
                    have o1 := HXE1.out.o.cell 2
                    dsimp only [List.getElem?_cons_zero, List.getElem?_cons_succ] at o1
                    have of1 := HXE1.out.o.frozen 2
                    have o1a : ∀ o, (w1.alloc o).cell? ⟨g, 2, none⟩ = some (.slice adK Ki.length capK) := fun o => (HXE1.out.step ((Below.refl _ _).alloc (Nat.le_refl _) o)).o.cell 2
                    have HVC : Hid (∀ wX, Below w1.heap.size w1 wX → Vec wX B2 37 2 adK Ki.length capK (kcells Ki)) := fun wX h => HXE1.out.k.keep h
                    go_wp2_with fail
                    have hz1 := HZ1.out
                    apply merge
                    · intro KEY
                      go_region_law (refine step_push (by rfl) _ _ 23 (by rfl) B2 37 2 16 (.agg #[.int .i64 0, .int .i64 0]) Tryz.underlying23 (by kernel_rfl) rfl (by decide) adK Ki.length capK _ (by rfl) (HVC.out _ ?_) _ _ c.cells (by rfl) rfl ?_ ?_ ?_ ?_ ?_ ?_; (repeat (first | exact Below.refl _ _ | refine Below.drew ?_ | refine Below.alloc ?_ (by simp) _)); (exact new_atA (heap_newA _ _)); (exact ones1 c); (omega); (omega); (simp; omega); intro ad' cap' w8 hv8 hb8' hs8; have hb8 : Below B2 w1 w8 := Below.trans (by repeat (first | exact Below.refl _ _ | refine Below.drew ?_ | refine Below.alloc ?_ (by first | omega | (simp; omega)) _)) hb8'; have ho8 := HXE1.out.o.below hb8 HB2.out.2; have hr8 := ho8.cell 2; dsimp only [List.getElem?_cons_zero, List.getElem?_cons_succ] at hr8; have hf8 := ho8.frozen 2)
                      all_goals
                        have hN := HXE1.out.pushK hb8 HB2.out.1 HB2.out.2 hv8
                        have hzn : B2 ≤ (w8.setCell ⟨g, 2, none⟩ (.slice ad' (Ki.length + 1) cap')).heap.size := by have := hb8.size; simp; omega
                        generalize (w8.setCell ⟨g, 2, none⟩ (.slice ad' (Ki.length + 1) cap')) = W1 at hN hzn ⊢
                        clear hv8 hb8 hb8' hs8 ho8 hr8 hf8
                        clear w8
                        revert ad' cap' W1
                        exact KEY.out
                    intro ad' cap' W1 hN hzn
                    clear e0 e1 hw1 hix o1 of1 o1a HVC HXE1 HZ1 hz1
                    go_wp2_with fail
                    go_roundw
                    case rel => exact ⟨i + 1, ad', cap', by omega, by go_num, by rw [E1.out]; exact hN, hzn⟩
                    case measure => simp [intOf]; omega
                · obtain rfl : R.rep.n1 = i := by omega
                  clear hi hlt
                  have HB3 : Hid (W.heap.size ≤ wr.heap.size ∧ g < wr.heap.size) := ⟨HXE.out.old.size, HXE.out.o.lt⟩
                  have HLK : Hid (∀ b, adK = some b → b.block < wr.heap.size) := vec_low HXE.out.k
                  have HX3 : Hid (Xe W g B2 wr.heap.size (N : Int) q adK capK (nK O R R.rep.n1) none 0 (nC O R 0) wr) := ⟨HXE.out.old, HXE.out.o, HXE.out.k, Vec.nil _ _ _ _, HXE.out.lt⟩
                  clear HXE HXV HZB v0 v1 v2 HB2
                  go_wp2_with fail
                  clear x0 x1 x2
                  generalize hB3 : wr.heap.size = B3 at *
                  have HZ3 : Hid (B3 ≤ wr.heap.size) := Nat.le_of_eq hB3.symm
                  clear hB3
                  generalize wr = Z3 at *
                  go_loopw [18, 19] (fun u _ wr => ∃ (i : Nat) (adC : Option Addr) (capC : Nat), i ≤ R.rep.n2 ∧ u = .int .i64 i ∧ Xe W g B2 B3 (N : Int) q adK capK (nK O R R.rep.n1) adC capC (nC O R i) wr ∧ B3 ≤ wr.heap.size) (fun u _ _ => R.rep.n2 - (intOf u).toNat)
                  case atStart => exact ⟨0, none, 0, Nat.zero_le _, rfl, HX3.out, by exact HZ3.out⟩
                  case round =>
                    clear HX3 HZ3
                    obtain ⟨i, adC, capC, hi, rfl, hE, hzB⟩ := hrel
                    have HXE : Hid (Xe W g B2 B3 (N : Int) q adK capK (nK O R R.rep.n1) adC capC (nC O R i) wr) := hE
                    have HXV : Hid (Xw w O R l ad0 N a1 a2 a3 b1 b2 b3 c1 c2 c3 l1 l2 l3 gc wr) := HXW.out.step hE.old
                    have HZB : Hid (B3 ≤ wr.heap.size) := hzB
                    clear hE hzB
                    have x0 := HXV.out.r.cell 0; have x1 := HXV.out.r.cell 1; have x2 := HXV.out.r.cell 2
                    have v0 := HXV.out.o.cell 0; have v1 := HXV.out.o.cell 1; have v2 := HXV.out.o.cell 2
                    dsimp only [List.getElem?_cons_zero, List.getElem?_cons_succ] at x0 x1 x2 v0 v1 v2
                    by_cases hlt : i < R.rep.n2
                    · obtain ⟨b, o, hbl, hix, d0, d1, d2, d3, d4⟩ := Lies.card (c := fun i => R.C.getD i cd0) HXV.out.hr.l2 l2 hlt
                      have hkl : (nC O R i).length ≤ 40 := Nat.le_trans (nC_len O R i) y2
                      have HNC : Hid (nC O R (i + 1) = if decide (look Cd.id O.C (R.C.getD i cd0).id ≠ some (R.C.getD i cd0)) = true then nC O R i ++ [R.C.getD i cd0] else nC O R i) := nC_step hlt
                      generalize R.C.getD i cd0 = c at *
                      have HDC : Hid (decide (look Cd.id O.C c.id ≠ some c) = (if cardIx O.C c.id < O.C.length then decide (O.C.getD (cardIx O.C c.id) cd0 ≠ c) else true)) := diff_card O.C c
                      have KQ : Hid (∀ X, Below wr.heap.size wr X → Calls Tryz.prog 17 #[.agg #[.slice a1 O.rep.n1 c1, .slice a2 O.rep.n2 c2, .slice a3 O.rep.n3 c3], .int .i64 c.id] X fun e w' => e = .returned (.int .i64 (findI O.rep c.id)) ∧ Below wr.heap.size wr w') := fun X hX => (find_any O.rep a1 a2 a3 c1 c2 c3 c.id X (HXV.out.step hX).ho).mono fun e w' ⟨h1, h2⟩ => ⟨h1, hX.trans (h2.mono hX.size)⟩
                      go_wp2_with fail
                      apply merge
                      · intro KEY
                        go_region_law (go_simp; go_at_call 17; refine (KQ.out _ (by (repeat (first | exact Below.refl _ _ | refine Below.drew ?_)))).mono ?_; rintro e w1 ⟨rfl, hb1⟩; dsimp only)
                        all_goals
                          revert w1
                          exact KEY.out
                      intro w1 hb1
                      go_simp
                      have HXE1 : Hid (Xe W g B2 B3 (N : Int) q adK capK (nK O R R.rep.n1) adC capC (nC O R i) w1) := HXE.out.step hb1
                      have HXV1 : Hid (Xw w O R l ad0 N a1 a2 a3 b1 b2 b3 c1 c2 c3 l1 l2 l3 gc w1) := HXV.out.step hb1
                      have HZ1 : Hid (B3 ≤ w1.heap.size) := Nat.le_trans HZB.out hb1.size
                      have HCC : Hid (∀ X, Below w1.heap.size w1 X → (X.cell? ⟨b, o, none⟩ = some (.int .i64 c.id) ∧ X.cell? ⟨b, o + 1, none⟩ = some (.int .i64 c.site) ∧ X.cell? ⟨b, o + 2, none⟩ = some (.int .i64 c.count) ∧ X.cell? ⟨b, o + 3, none⟩ = some (.bool c.gone) ∧ X.cell? ⟨b, o + 4, none⟩ = some (.string c.text))) := fun X hX =>
                        have h := hb1.trans (hX.mono hb1.size)
                        ⟨(h.cell (p := ⟨b, o, none⟩) hbl).trans d0, (h.cell (p := ⟨b, o + 1, none⟩) hbl).trans d1, (h.cell (p := ⟨b, o + 2, none⟩) hbl).trans d2, (h.cell (p := ⟨b, o + 3, none⟩) hbl).trans d3, (h.cell (p := ⟨b, o + 4, none⟩) hbl).trans d4⟩
                      clear KQ hb1 d0 d1 d2 d3 d4 x0 x1 x2 v0 v1 v2 HXE HXV HZB hbl
                      obtain ⟨e0, e1, e2, e3, e4⟩ := HCC.out w1 (Below.refl _ _)
                      have x1 := HXV1.out.r.cell 1
                      have v1 := HXV1.out.o.cell 1
                      dsimp only [List.getElem?_cons_zero, List.getElem?_cons_succ] at x1 v1
                      by_cases hq : cardIx O.C c.id < O.rep.n2
                      · obtain ⟨bo, oo, hblo, hixo, s0, s1, s2, s3, s4⟩ := Lies.card (c := fun i => O.C.getD i cd0) HXV1.out.ho.l2 c2 hq
                        have HFI : Hid (findI O.rep c.id = (cardIx O.C c.id : Int)) := find_in hq
                        have HD2 : Hid (decide (look Cd.id O.C c.id ≠ some c) = decide (O.C.getD (cardIx O.C c.id) cd0 ≠ c)) := by show _ = _; rw [HDC.out]; exact if_pos hq
                        rw [HFI.out]
                        generalize O.C.getD (cardIx O.C c.id) cd0 = d at *
                        generalize cardIx O.C c.id = qx at *
                        have hd0 : decide ((qx : Int) < 0) = false := decide_eq_false (by omega)
                        clear HFI HDC
                        by_cases he : d = c
                        · have E1 : Hid (nC O R (i + 1) = nC O R i) := by show _ = _; rw [HNC.out, HD2.out, decide_eq_false (fun h => h he)]; rfl
                          clear HNC HD2
                          subst he
                          have hs0 : (d.text == d.text) = true := ba_self _
                          have hs1 : (d.text.toList == d.text.toList) = true := by simp
                          have HQ : Hid (∀ n, Xe W g B2 B3 (N : Int) q adK capK (nK O R R.rep.n1) adC capC (nC O R i) (w1.drewN n) ∧ B3 ≤ (w1.drewN n).heap.size) := fun n => ⟨HXE1.out.step (below_drewN (Below.refl _ _) n), HZ1.out⟩
                          go_wp2_with fail
                          go_quiet (fail)
                          generalize hwq : w1.drewN _ = wq
                          have hb9 : Xe W g B2 B3 (N : Int) q adK capK (nK O R R.rep.n1) adC capC (nC O R i) wq ∧ B3 ≤ wq.heap.size := by rw [← hwq]; exact HQ.out _
                          clear hwq HQ e0 e1 e2 e3 e4 s0 s1 s2 s3 s4
                          go_wp2_with fail
                          go_roundw
                          case rel => exact ⟨i + 1, adC, capC, by omega, by go_num, by rw [E1.out]; exact hb9.1, hb9.2⟩
                          case measure => simp [intOf]; omega
                        · have E1 : Hid (nC O R (i + 1) = nC O R i ++ [c]) := by show _ = _; rw [HNC.out, HD2.out, decide_eq_true he]; rfl
                          have HNEQ : Hid (¬ d = c) := he
                          clear HNC HD2 he
                          have HQ : Hid (∀ n, Below w1.heap.size w1 (w1.drewN n)) := fun n => below_drewN (Below.refl _ _) n
                          go_wp2_with fail
                          apply merge
                          · intro KEY
                            rcases cd_ne HNEQ.out with hne | ⟨r1, hne⟩ | ⟨r1, r2, hne⟩ | ⟨r1, r2, r3, hne⟩ | ⟨r1, r2, r3, r4, hne⟩
                            · have qi : (d.id == c.id) = false := by rw [beq_eq_false_iff_ne]; exact hne
                              clear hne
                              go_quiet (fail)
                              generalize hwq : w1.drewN _ = wq
                              have hbq : Below w1.heap.size w1 wq := by rw [← hwq]; exact HQ.out _
                              clear hwq
                              revert wq
                              exact KEY.out
                            · have qi : (d.id == c.id) = true := by simp [r1]
                              have qs : (d.site == c.site) = false := by rw [beq_eq_false_iff_ne]; exact hne
                              clear hne r1
                              go_quiet (fail)
                              generalize hwq : w1.drewN _ = wq
                              have hbq : Below w1.heap.size w1 wq := by rw [← hwq]; exact HQ.out _
                              clear hwq
                              revert wq
                              exact KEY.out
                            · have qi : (d.id == c.id) = true := by simp [r1]
                              have qs : (d.site == c.site) = true := by simp [r2]
                              have qc : (d.count == c.count) = false := by rw [beq_eq_false_iff_ne]; exact hne
                              clear hne r1 r2
                              go_quiet (fail)
                              generalize hwq : w1.drewN _ = wq
                              have hbq : Below w1.heap.size w1 wq := by rw [← hwq]; exact HQ.out _
                              clear hwq
                              revert wq
                              exact KEY.out
                            · have qi : (d.id == c.id) = true := by simp [r1]
                              have qs : (d.site == c.site) = true := by simp [r2]
                              have qc : (d.count == c.count) = true := by simp [r3]
                              have qg : (d.gone == c.gone) = false := by rw [beq_eq_false_iff_ne]; exact hne
                              clear hne r1 r2 r3
                              go_quiet (fail)
                              generalize hwq : w1.drewN _ = wq
                              have hbq : Below w1.heap.size w1 wq := by rw [← hwq]; exact HQ.out _
                              clear hwq
                              revert wq
                              exact KEY.out
                            · have qi : (d.id == c.id) = true := by simp [r1]
                              have qs : (d.site == c.site) = true := by simp [r2]
                              have qc : (d.count == c.count) = true := by simp [r3]
                              have qg : (d.gone == c.gone) = true := by simp [r4]
                              have hnb := ba_beq hne
                              have hnl := bl_beq hne
                              clear hne r1 r2 r3 r4
                              go_quiet (fail)
                              generalize hwq : w1.drewN _ = wq
                              have hbq : Below w1.heap.size w1 wq := by rw [← hwq]; exact HQ.out _
                              clear hwq
                              revert wq
                              exact KEY.out
                          clear e0 e1 e2 e3 e4 s0 s1 s2 s3 s4 hd0 HQ HNEQ
                          intro wq hbq
                          have HXE2 : Hid (Xe W g B2 B3 (N : Int) q adK capK (nK O R R.rep.n1) adC capC (nC O R i) wq) := HXE1.out.step hbq
                          obtain ⟨e0, e1, e2, e3, e4⟩ := HCC.out wq hbq
                          have hw1 := (HXV1.out.step hbq).r.cell 1
                          dsimp only [List.getElem?_cons_zero, List.getElem?_cons_succ] at hw1
                          have hz1 : B3 ≤ wq.heap.size := Nat.le_trans HZ1.out hbq.size
                          clear hbq HXE1 HZ1 HXV1 HCC x1 v1
                          generalize nC O R i = Ci at *
                          have o1 := HXE2.out.o.cell 3
                          dsimp only [List.getElem?_cons_zero, List.getElem?_cons_succ] at o1
                          have of1 := HXE2.out.o.frozen 3
                          have o1a : ∀ o, (wq.alloc o).cell? ⟨g, 3, none⟩ = some (.slice adC Ci.length capC) := fun o => (HXE2.out.step ((Below.refl _ _).alloc (Nat.le_refl _) o)).o.cell 3
                          have HVC : Hid (∀ wX, Below wq.heap.size wq wX → Vec wX B3 39 5 adC Ci.length capC (ccells Ci)) := fun wX h => HXE2.out.c.keep h
                          go_wp2_with fail
                          apply merge
                          · intro KEY
                            go_region_law (refine step_push (by rfl) _ _ 24 (by rfl) B3 39 5 48 (.agg #[.int .i64 0, .int .i64 0, .int .i64 0, .bool false, .string ⟨#[]⟩]) Tryz.underlying24 (by kernel_rfl) rfl (by decide) adC Ci.length capC _ (by rfl) (HVC.out _ ?_) _ _ c.cells (by rfl) rfl ?_ ?_ ?_ ?_ ?_ ?_; (repeat (first | exact Below.refl _ _ | refine Below.drew ?_ | refine Below.alloc ?_ (by simp) _)); (exact new_atA (heap_newA _ _)); (exact ones2 c); (omega); (omega); (simp; omega); intro ad' cap' w8 hv8 hb8' hs8; have hb8 : Below B3 wq w8 := Below.trans (by repeat (first | exact Below.refl _ _ | refine Below.drew ?_ | refine Below.alloc ?_ (by first | omega | (simp; omega)) _)) hb8'; have ho8 := HXE2.out.o.below hb8 HB3.out.2; have hr8 := ho8.cell 3; dsimp only [List.getElem?_cons_zero, List.getElem?_cons_succ] at hr8; have hf8 := ho8.frozen 3)
                            all_goals
                              have hN := HXE2.out.pushC hb8 HB3.out.1 HB3.out.2 HLK.out hv8
                              have hzn : B3 ≤ (w8.setCell ⟨g, 3, none⟩ (.slice ad' (Ci.length + 1) cap')).heap.size := by have := hb8.size; simp; omega
                              generalize (w8.setCell ⟨g, 3, none⟩ (.slice ad' (Ci.length + 1) cap')) = W1 at hN hzn ⊢
                              clear hv8 hb8 hb8' hs8 ho8 hr8 hf8
                              clear w8
                              revert ad' cap' W1
                              exact KEY.out
                          intro ad' cap' W1 hN hzn
                          clear e0 e1 e2 e3 e4 hw1 o1 of1 o1a HVC HXE2 hz1
                          go_wp2_with fail
                          go_roundw
                          case rel => exact ⟨i + 1, ad', cap', by omega, by go_num, by rw [E1.out]; exact hN, hzn⟩
                          case measure => simp [intOf]; omega
                      · have HFI : Hid (findI O.rep c.id = -1) := find_out hq
                        have E1 : Hid (nC O R (i + 1) = nC O R i ++ [c]) := by
                          show _ = _; rw [HNC.out, HDC.out, show (if cardIx O.C c.id < O.C.length then decide (O.C.getD (cardIx O.C c.id) cd0 ≠ c) else true) = true from if_neg hq]; rfl
                        obtain ⟨kz, hkz⟩ : ∃ kz : Int, findI O.rep c.id = kz := ⟨_, rfl⟩
                        have hd0 : decide (kz < 0) = true := by rw [← hkz, HFI.out]; decide
                        rw [hkz]
                        clear HFI HDC HNC hq hkz
                        have HQ : Hid (∀ n, Below w1.heap.size w1 (w1.drewN n)) := fun n => below_drewN (Below.refl _ _) n
                        go_wp2_with fail
                        go_quiet (fail)
                        generalize hwq : w1.drewN _ = wq
                        have hbq : Below w1.heap.size w1 wq := by rw [← hwq]; exact HQ.out _
                        clear hwq HQ e0 e1 e2 e3 e4
                        have HXE2 : Hid (Xe W g B2 B3 (N : Int) q adK capK (nK O R R.rep.n1) adC capC (nC O R i) wq) := HXE1.out.step hbq
                        obtain ⟨e0, e1, e2, e3, e4⟩ := HCC.out wq hbq
                        have hw1 := (HXV1.out.step hbq).r.cell 1
                        dsimp only [List.getElem?_cons_zero, List.getElem?_cons_succ] at hw1
                        have hz1 : B3 ≤ wq.heap.size := Nat.le_trans HZ1.out hbq.size
                        clear hbq HXE1 HZ1 HXV1 HCC x1 v1
                        generalize nC O R i = Ci at *
                        have o1 := HXE2.out.o.cell 3
                        dsimp only [List.getElem?_cons_zero, List.getElem?_cons_succ] at o1
                        have of1 := HXE2.out.o.frozen 3
                        have o1a : ∀ o, (wq.alloc o).cell? ⟨g, 3, none⟩ = some (.slice adC Ci.length capC) := fun o => (HXE2.out.step ((Below.refl _ _).alloc (Nat.le_refl _) o)).o.cell 3
                        have HVC : Hid (∀ wX, Below wq.heap.size wq wX → Vec wX B3 39 5 adC Ci.length capC (ccells Ci)) := fun wX h => HXE2.out.c.keep h
                        go_wp2_with fail
                        apply merge
                        · intro KEY
                          go_region_law (refine step_push (by rfl) _ _ 24 (by rfl) B3 39 5 48 (.agg #[.int .i64 0, .int .i64 0, .int .i64 0, .bool false, .string ⟨#[]⟩]) Tryz.underlying24 (by kernel_rfl) rfl (by decide) adC Ci.length capC _ (by rfl) (HVC.out _ ?_) _ _ c.cells (by rfl) rfl ?_ ?_ ?_ ?_ ?_ ?_; (repeat (first | exact Below.refl _ _ | refine Below.drew ?_ | refine Below.alloc ?_ (by simp) _)); (exact new_atA (heap_newA _ _)); (exact ones2 c); (omega); (omega); (simp; omega); intro ad' cap' w8 hv8 hb8' hs8; have hb8 : Below B3 wq w8 := Below.trans (by repeat (first | exact Below.refl _ _ | refine Below.drew ?_ | refine Below.alloc ?_ (by first | omega | (simp; omega)) _)) hb8'; have ho8 := HXE2.out.o.below hb8 HB3.out.2; have hr8 := ho8.cell 3; dsimp only [List.getElem?_cons_zero, List.getElem?_cons_succ] at hr8; have hf8 := ho8.frozen 3)
                          all_goals
                            have hN := HXE2.out.pushC hb8 HB3.out.1 HB3.out.2 HLK.out hv8
                            have hzn : B3 ≤ (w8.setCell ⟨g, 3, none⟩ (.slice ad' (Ci.length + 1) cap')).heap.size := by have := hb8.size; simp; omega
                            generalize (w8.setCell ⟨g, 3, none⟩ (.slice ad' (Ci.length + 1) cap')) = W1 at hN hzn ⊢
                            clear hv8 hb8 hb8' hs8 ho8 hr8 hf8
                            clear w8
                            revert ad' cap' W1
                            exact KEY.out
                        intro ad' cap' W1 hN hzn
                        clear e0 e1 e2 e3 e4 hw1 o1 of1 o1a HVC HXE2 hz1
                        go_wp2_with fail
                        go_roundw
                        case rel => exact ⟨i + 1, ad', cap', by omega, by go_num, by rw [E1.out]; exact hN, hzn⟩
                        case measure => simp [intOf]; omega
                    · obtain rfl : R.rep.n2 = i := by omega
                      have HDR : Hid ((⟨nK O R R.rep.n1, nC O R R.rep.n2, R.E⟩ : Tri) = diffS O R) := n_all O R
                      have hkl : (nK O R R.rep.n1).length ≤ 8 := Nat.le_trans (nK_len O R _) y1
                      have hcl : (nC O R R.rep.n2).length ≤ 40 := Nat.le_trans (nC_len O R _) y2
                      have hC := HXE.out.o
                      have HRES : Hid (∀ X, Upd g wr X → Has X (diffS O R).rep adK adC b3 ∧ Below w.heap.size w X) := fun X hu => by
                        have hk := HXE.out.k.oth HXE.out.o hu (by decide)
                        have hc := HXE.out.c.oth HXE.out.o hu (by decide)
                        have hbx : Below W.heap.size W X := hu.below HXE.out.old HXE.out.lt
                        have hv := HXW.out.step hbx
                        rw [← HDR.out]
                        exact ⟨⟨kvec_lies hk rfl, cvec_lies hc rfl, hv.hr.l3, by show (nK O R R.rep.n1).length ≤ _; omega, by show (nC O R R.rep.n2).length ≤ _; omega, hv.hr.b3, by show 16 * (nK O R R.rep.n1).length ≤ _; omega, by show 48 * (nC O R R.rep.n2).length ≤ _; omega, hv.hr.y3⟩, hv.old⟩
                      have e1 : (nK O R R.rep.n1).length = (diffS O R).rep.n1 := by rw [← HDR.out]; rfl
                      have e2 : (nC O R R.rep.n2).length = (diffS O R).rep.n2 := by rw [← HDR.out]; rfl
                      have e3 : R.rep.n3 = (diffS O R).rep.n3 := rfl
                      rw [e1, e2] at hC
                      rw [e3] at x2
                      clear hi hlt HXE HXV HZB v0 v1 v2 HDR hkl hcl e1 e2 e3 HB3 HLK
                      generalize (diffS O R).rep = DR at *
                      go_wp2_with (first
                        | (refine wpList_bput (by rfl) _ _ 25 (by rfl) g 46 4 (by rfl) _ (.slice _ _ _) (by rfl) hC (by kernel_rfl) (by simp) (by rfl) (by rfl) ?_; intro w9 hC9 hU9)
                        | (refine wpList_bload (by rfl) _ _ (by rfl) g 46 (by rfl) _ hC9 _ Tryz.underlying46 (by rfl) 5 (by rfl) (by kernel_rfl) ?_))
                      refine (rbundle_any (N : Int) q DR adK adC b3 capK capC l3 _ (HRES.out _ hU9).1 HFIT.out ⟨by omega, by omega⟩ HSB.out.1 HSB.out.2).mono ?_
                      rintro e w5 ⟨rfl, hb5⟩
                      have HB5 : Hid (Below w.heap.size w w5) := (HRES.out _ hU9).2.trans (hb5.mono (HRES.out _ hU9).2.size)
                      clear hb5 x0 x1 x2
                      go_wp2_with fail
                      refine bodyPost_ret (v := .tuple #[.string (str (bundleB (recsOf (N : Int) q DR))), .int .i64 0, .int .i64 0]) (by simp [results, Tryz.results7, go_sem]) rfl ⟨by rw [E.out], HB5.out⟩
      · have E : Hid (extendRd l R = ⟨[], R.rep.chk, 0⟩) := by show _ = _; unfold extendRd; rw [if_pos HE.out, if_neg (by rw [← HN.out]; exact h16), if_neg hc]
        have hcb : (R.rep.chk != 0) = true := bne_iff_ne.mpr hc
        clear hc
        go_wp2_with fail
        refine bodyPost_ret (v := .tuple #[.string (str []), .int .i64 R.rep.chk, .int .i64 0]) (by simp [results, Tryz.results7, go_sem]; rfl) rfl ⟨by rw [E.out], HX2.out.2⟩
  · have E : Hid (extendRd l R = ⟨[], (replayRd l).err, (replayRd l).place⟩) := by show _ = _; unfold extendRd; rw [if_neg he]
    have hcb : ((replayRd l).err != 0) = true := bne_iff_ne.mpr he
    clear he
    go_wp2_with fail
    refine bodyPost_ret (v := .tuple #[.string (str []), .int .i64 (replayRd l).err, .int .i64 (replayRd l).place]) (by simp [results, Tryz.results7, go_sem]; rfl) rfl ⟨by rw [E.out], HX1.out.2⟩
end Go.Proofs.YtdjpkgaicmklmaaGreat

/- Strings appended to lists of bytes of the call's own; bytes as a string; lists of strings. -/
namespace Go.Proofs.YtdjpkgaicmklmaaGreat
open Go.RowKit

/-- Bytes as cells. -/
abbrev u8s (l : List UInt8) : List Value := l.map fun b => Value.int .u8 (b.toNat : Int)
theorem u8s_ints (l : List UInt8) : u8s l = (l.map fun b => (b.toNat : Int)).map (Value.int .u8) := by simp [u8s]
theorem byt_of_nat (b : UInt8) : byt (b.toNat : Int) = b := by simp [byt]
theorem bytes_ints (l : List UInt8) : (l.map fun b => (b.toNat : Int)).map byt = l := by
  rw [List.map_map]; conv => rhs; rw [← List.map_id l]
  exact List.map_congr_left (fun b _ => byt_of_nat b)
theorem strCells_str (c : List UInt8) : Lib.strCells (str c) = u8s c := by simp [Lib.strCells, str, u8s]

/-- Strings as cells. -/
abbrev strs (l : List (List UInt8)) : List Value := l.map fun s => Value.string (str s)
theorem strs_flat (l : List (List UInt8)) : (l.map fun s => [Value.string (str s)]).flatten = strs l := by
  induction l with
  | nil => rfl
  | cons a l ih => simp [strs] at ih ⊢; exact ih
theorem strs_lies {w : World} {B e : Nat} {ad : Option Addr} {n cap : Nat} {L : List (List UInt8)} (h : Vec w B e 1 ad n cap (strs L)) (hn : n = L.length) : Lies w ad n 1 (fun i => [.string (str (L.getD i []))]) := by
  rw [← strs_flat] at h
  refine Vec.lies (rows := L.map fun s => [Value.string (str s)]) h ?_ (by simp [hn]) _ ?_
  · intro r hr; obtain ⟨f, _, rfl⟩ := List.mem_map.1 hr; rfl
  · intro i hi; subst hn; simp [List.getD, hi]

theorem new_cellsD (w : World) (cs : List Value) (t : TypeId) : ∀ j u, cs[j]? = some u → (w.alloc (.cells cs.toArray t)).drew.cell? ((⟨w.heap.size, 0, none⟩ : Addr).add j) = some u := new_cells w cs t
theorem cells_below {X w' : World} (hb : Below X.heap.size X w') {b o : Nat} {cs : List Value} (h : ∀ j u, cs[j]? = some u → X.cell? ((⟨b, o, none⟩ : Addr).add j) = some u) (hl : b < X.heap.size) : ∀ j u, cs[j]? = some u → w'.cell? ((⟨b, o, none⟩ : Addr).add j) = some u := by
  intro j u hu
  rw [← h j u hu, addr_add]
  exact hb.cell (p := ⟨b, o + j, none⟩) hl
theorem wrap_u8 (i : Nat) (h : i < 256) : IntKind.u8.wrap (i : Int) = (i : Int) := by
  have e : (2 : Int) ^ IntKind.u8.bits = 256 := by decide
  have s : IntKind.u8.signed = false := rfl
  simp [IntKind.wrap, e, s]; omega

section
variable {P : Program} {w : World} {ops : Array Oper} {rest : List Oper} {o : Oper} {a : Act} {Q : Exit → Act → World → Prop}

/-- 'b = append(b, s...)', s a string. -/
theorem wpList_pushStr (hgd : o.guard = none) (s x : Operand) (t u : TypeId) (ho : o.op = .call { callee := .builtin .append, args := #[s, x], argTypes := #[t, u] })
    (B e : Nat) (ht : P.underlying t = some (.slice e)) (hu : P.underlying u = some .string) (hinfo : (P.info? e).map (fun i => (i.zero, i.size, i.bytes)) = some (some (.int .u8 0), 1, 1))
    (ad : Option Addr) (n cap : Nat) (ns c : List UInt8) (hs : a.eval s = .slice ad n cap) (hown : Vec w B e 1 ad n cap (u8s ns)) (hx : a.eval x = .string (str c))
    (hb : n + c.length ≤ 140737488355328) (hB : B ≤ w.heap.size) (N : Nat) (hN : n + c.length = N)
    (h : ∀ ad' cap' w', Vec w' B e 1 ad' N cap' (u8s (ns ++ c)) → Below B w w' → w.heap.size ≤ w'.heap.size → wpList P ops Q rest (a.put o.dst (.slice ad' N cap')) w') : wpList P ops Q (o :: rest) a w := by
  subst hN
  obtain ⟨i, hi, hzz⟩ := Option.map_eq_some_iff.1 hinfo
  simp only [Prod.mk.injEq] at hzz
  obtain ⟨hz, hsz, hby⟩ := hzz
  refine Lib.wpList_append_own_string w hgd s x t u ho B e i ht hu hi hz hsz hby (.slice ad n cap) n (u8s ns) hs hown (str c) hx (by rw [str_size]; unfold maxLen; omega) (by rw [str_size]; omega) hB ?_
  intro v' w' ho' hgr _
  have hbw : Below B w w' := (Below.refl _ _).grown hgr hB (fun k hk => (World.ownsRow.lt hown k hk).1)
  rw [str_size, strCells_str, ← List.map_append] at ho'
  rcases ho'.2 with ⟨hh, hz0⟩ | ⟨g, cap', cur, hh, hrest⟩
  · have hv : v' = .slice none (n + c.length) 0 := by rw [hh, hz0]
    rw [hv] at ho' ⊢
    exact h none 0 w' ho' hbw hgr.size
  · rw [hh] at ho' ⊢
    exact h _ cap' w' ho' hbw hgr.size

/-- 'string(b)' at a step of a region that draws its order. -/
theorem step_toString {K : Act → World → Prop} {E : Prop} (hgd : o.guard = none) (src dst e : TypeId) (x : Operand) (ho : o.op = .convert src dst x) (hs : P.underlying src = some (.slice e)) (he : P.underlying e = some (.int .u8)) (hd : P.underlying dst = some .string)
    (ad : Addr) (len cap : Nat) (hx : a.eval x = .slice (some ad) len cap) (ns : List Int) (hl : ns.length = len) (hc : ∀ j v, (ns.map (Value.int .u8))[j]? = some v → w.cell? (ad.add j) = some v)
    (h : K (a.put o.dst (.string (str (ns.map byt)))) w) : if Region.wanted o (yielded ops a.tmps) = true then Oper.wp P o a w K Q else E := by
  have hw : Region.wanted o (yielded ops a.tmps) = true := by simp [Region.wanted, hgd]
  rw [if_pos hw]
  have hrun := run_toString (P := P) w src dst e ad len cap ns hs he hd hl hc
  unfold Oper.wp
  simp [execOp, ho, hx, hrun, Result.andThen]
  exact h

/-- 'string(b)' of a list of bytes of the call's own, be it empty. -/
theorem wpList_toStr (hgd : o.guard = none) (src dst e : TypeId) (x : Operand) (ho : o.op = .convert src dst x) (hs : P.underlying src = some (.slice e)) (he : P.underlying e = some (.int .u8)) (hd : P.underlying dst = some .string)
    (B n cap : Nat) (ad : Option Addr) (hx : a.eval x = .slice ad n cap) (ns : List UInt8) (hown : Vec w B e 1 ad n cap (u8s ns))
    (h : wpList P ops Q rest (a.put o.dst (.string (str ns))) w) : wpList P ops Q (o :: rest) a w := by
  rw [u8s_ints] at hown
  rcases hown.2 with ⟨h2, hn⟩ | ⟨g, c, cur, hv, hB, hg, hnc, r⟩
  · simp at h2
    obtain ⟨rfl, rfl, rfl⟩ := h2
    have hl := hown.length
    have : ns = [] := List.eq_nil_of_length_eq_zero (by simpa using hl)
    subst this
    refine wpList_plain hgd fun K hK => ?_
    have hrun : (convert src dst (.slice none 0 0)).run P w = .ok (.string (str [])) w := by
      rw [run_convert_bytes_string w src dst e _ _ _ hs he hd]
      unfold Conv.bytesToString
      simp only [Sem.run_pure]
      rfl
    unfold Oper.wp
    simp [execOp, ho, hx, hrun, Result.andThen]
    exact hK _ _ h
  · simp at hv
    obtain ⟨rfl, rfl⟩ := hv
    refine wpList_toString hgd src dst e x ho hs he hd ⟨g, 0, none⟩ n cap hx (ns.map fun b => (b.toNat : Int)) (by have := hown.length; simpa using this) (World.ownsRow.cells hown rfl) ?_
    rw [bytes_ints]; exact h
end
end Go.Proofs.YtdjpkgaicmklmaaGreat

/- The program's Split and what it calls, walked. -/
namespace Go.Proofs.YtdjpkgaicmklmaaGreat
open Go.RowKit
attribute [local go_sem] str_size str_append mk_append_str str_append_mk

def strLen : Value → Nat
  | .string s => s.size
  | _ => 0
theorem cnt_is {m k i : Nat} (hm : 0 < m) (h1 : i = 0 ∨ i * m < k) (h2 : k ≤ (i + 1) * m) : cntB m k = i + 1 := by
  unfold cntB
  rw [Nat.add_mul] at h2
  by_cases hk : k ≤ m
  · rw [if_pos hk]
    rcases h1 with rfl | h1
    · rfl
    · rcases Nat.eq_zero_or_pos i with rfl | hi
      · rfl
      · have := Nat.mul_le_mul_right m hi; omega
  · rw [if_neg hk]
    have e1 : (i + 1) * m = i * m + m := by rw [Nat.add_mul, Nat.one_mul]
    have e2 : (i + 1 + 1) * m = i * m + m + m := by rw [Nat.add_mul, e1, Nat.one_mul]
    exact Nat.div_eq_of_lt_le (by rw [e1]; rcases h1 with rfl | h1 <;> omega) (by rw [e2]; omega)
theorem part_last {m i : Nat} {b : List UInt8} (h : b.length ≤ (i + 1) * m) : partB m i b = b.drop (i * m) := by
  unfold partB; rw [Nat.add_mul] at h; exact List.take_of_length_le (by simp; omega)

/-- The parts. -/
def partsB (m : Nat) (b : List UInt8) : List (List UInt8) := (List.range (cntB m b.length)).map fun i => partB m i b

/-- A volume's struct. -/
abbrev volS (i n : Int) (s p : List UInt8) : List Value := [.int .u8 i, .int .u8 n, .string (str s), .string (str p)]

/-- What Split answers. -/
def splitOk (b : List UInt8) (size : Int) : Prop := 40 ≤ size ∧ size ≤ 4000 ∧ b.length ≤ 6000
instance (b : List UInt8) (size : Int) : Decidable (splitOk b size) := by unfold splitOk; infer_instance
def splitL (b : List UInt8) (size : Int) : List (List UInt8) := if splitOk b size then volsB (size - 14).toNat b else []
def splitE (b : List UInt8) (size : Int) : Int := if splitOk b size then 0 else 12
theorem vols_take (m : Nat) (b : List UInt8) (i : Nat) (h : i < cntB m b.length) : (volsB m b).take (i + 1) = (volsB m b).take i ++ [volB i (cntB m b.length) (crc pSum b) (partB m i b)] := by
  rw [List.take_succ_eq_append_getElem (by rw [vols_len]; exact h)]
  congr 2
  have := vols_get m b i h
  rw [List.getD_eq_getElem?_getD, List.getElem?_eq_getElem (by rw [vols_len]; exact h)] at this
  exact this

end Go.Proofs.YtdjpkgaicmklmaaGreat

/- The reference's Split, walked. -/
namespace Go.Proofs.YtdjpkgaicmklmaaGreat
open Go.RowKit
attribute [local go_sem] str_size str_append mk_append_str str_append_mk

end Go.Proofs.YtdjpkgaicmklmaaGreat

/- Is it a volume? volumes.volumeOf and parcelref.volume, walked. -/
namespace Go.Proofs.YtdjpkgaicmklmaaGreat
open Go.RowKit

/-- A volume's struct, by its bytes; the empty one. -/
abbrev voC (s : List UInt8) : List Value := volS (numV s) (cntV s) (sumV s) (bodyV s)
abbrev vo0 : List Value := [.int .u8 0, .int .u8 0, .string ⟨#[]⟩, .string ⟨#[]⟩]
def voOf (s : List UInt8) : List Value := if volOk s then voC s else vo0
theorem voOf_ok {s : List UInt8} (h : volOk s = true) : voOf s = voC s := by simp [voOf, h]
theorem voOf_no {s : List UInt8} (h : volOk s = false) : voOf s = vo0 := by simp [voOf, h]
theorem volOk_short {s : List UInt8} (h : s.length < 14) : volOk s = false := by simp [volOk]; intro h2; omega
theorem volOk_magic {s : List UInt8} (h : s.take 4 ≠ [86, 79, 76, 49]) : volOk s = false := by
  have : (s.take 4 == [86, 79, 76, 49]) = false := by rw [beq_eq_false_iff_ne]; exact h
  simp [volOk, this]
theorem volOk_num {s : List UInt8} (h : cntV s ≤ numV s) : volOk s = false := by
  have : decide (numV s < cntV s) = false := by rw [decide_eq_false_iff_not]; omega
  simp [volOk, this]
theorem volOk_sum {s : List UInt8} (h1 : 14 ≤ s.length) (h2 : s.take 4 = [86, 79, 76, 49]) (h3 : numV s < cntV s) : volOk s = (fourI (crc pSum (s.take (s.length - 4))) == s.drop (s.length - 4)) := by
  simp [volOk, h1, h2, h3]
theorem at_num {s : List UInt8} (h : 4 < (str s).size) : ((str s)[4]'h).toNat = numV s := by
  have : 4 < s.length := by rw [str_size] at h; exact h
  unfold numV; rw [List.getD_eq_getElem?_getD, List.getElem?_eq_getElem this]; rfl
theorem at_cnt {s : List UInt8} (h : 5 < (str s).size) : ((str s)[5]'h).toNat = cntV s := by
  have : 5 < s.length := by rw [str_size] at h; exact h
  unfold cntV; rw [List.getD_eq_getElem?_getD, List.getElem?_eq_getElem this]; rfl
theorem numV_lt (s : List UInt8) : numV s < 256 := UInt8.toNat_lt _
theorem cntV_lt (s : List UInt8) : cntV s < 256 := UInt8.toNat_lt _

end Go.Proofs.YtdjpkgaicmklmaaGreat

/- The program's Join: the list of volumes, walked. -/
namespace Go.Proofs.YtdjpkgaicmklmaaGreat
open Go.RowKit

/-- Volumes as cells. -/
abbrev vcells (l : List (List UInt8)) : List Value := (l.map voC).flatten
theorem vcells_snoc (l : List (List UInt8)) (s : List UInt8) : vcells (l ++ [s]) = vcells l ++ voC s := by simp [vcells]
theorem vcells_lies {w : World} {B e : Nat} {ad : Option Addr} {n cap : Nat} {L : List (List UInt8)} (h : Vec w B e 4 ad n cap (vcells L)) (hn : n = L.length) : Lies w ad n 4 (fun i => voC (L.getD i [])) := by
  refine Vec.lies (rows := L.map voC) h ?_ (by simp [hn]) _ ?_
  · intro r hr; obtain ⟨f, _, rfl⟩ := List.mem_map.1 hr; rfl
  · intro i hi; subst hn; simp [List.getD, hi]
theorem take_snoc (l : List (List UInt8)) (i : Nat) (h : i < l.length) : l.take (i + 1) = l.take i ++ [l.getD i []] := by
  rw [List.take_succ_eq_append_getElem h, List.getD_eq_getElem?_getD, List.getElem?_eq_getElem h]; rfl
/-- How many there are up to the first string that is none. -/
def voN (l : List (List UInt8)) : Nat := (firstOf (bad1 l) l.length).getD l.length
theorem voN_at {l : List (List UInt8)} {i : Nat} (hi : i < l.length) (h : ∀ j, j < i → bad1 l j = false) (hb : bad1 l i = true) : voN l = i := by
  unfold voN; rw [firstOf_some.mpr ⟨hb, hi, h⟩]; rfl
theorem voN_all {l : List (List UInt8)} (h : ∀ j, j < l.length → bad1 l j = false) : voN l = l.length := by
  unfold voN; rw [firstOf_none.mpr h]; rfl

theorem idV_eq (v u : List UInt8) (hv : 14 ≤ v.length) (hu : 14 ≤ u.length) : idV v = idV u ↔ cntV v = cntV u ∧ sumV v = sumV u := by
  have e : ∀ v : List UInt8, 14 ≤ v.length → idV v = v.getD 5 0 :: sumV v := by
    intro v hv
    unfold idV sumV
    have : v.drop 5 = v.getD 5 0 :: v.drop 6 := by
      rw [List.drop_eq_getElem_cons (by omega), List.getD_eq_getElem?_getD, List.getElem?_eq_getElem (by omega)]; rfl
    rw [this, List.take_succ_cons]
  rw [e v hv, e u hu]
  unfold cntV
  simp only [List.cons.injEq]
  constructor
  · rintro ⟨h1, h2⟩; exact ⟨by rw [h1], h2⟩
  · rintro ⟨h1, h2⟩; exact ⟨UInt8.toNat_inj.1 h1, h2⟩
theorem volOk_len {v : List UInt8} (h : volOk v = true) : 14 ≤ v.length := by
  simp only [volOk, Bool.and_eq_true, decide_eq_true_eq] at h; exact h.1.1.1
/-- The place of the first, or the end. -/
def firstEnd (f : Nat → Bool) (n : Nat) : Nat := (firstOf f n).getD n
theorem firstEnd_at {f : Nat → Bool} {n i : Nat} (hi : i < n) (h : ∀ j, j < i → f j = false) (hb : f i = true) : firstEnd f n = i := by
  unfold firstEnd; rw [firstOf_some.mpr ⟨hb, hi, h⟩]; rfl
theorem firstEnd_none {f : Nat → Bool} {n : Nat} (h : ∀ j, j < n → f j = false) : firstEnd f n = n := by
  unfold firstEnd; rw [firstOf_none.mpr h]; rfl

end Go.Proofs.YtdjpkgaicmklmaaGreat

/- Arrays as variables of the call's own; the program's Join: a number that is there twice, the parts laid in order: walked. -/
namespace Go.Proofs.YtdjpkgaicmklmaaGreat
open Go.RowKit

section
variable {P : Program} {w : World} {ops : Array Oper} {rest : List Oper} {o : Oper} {a : Act} {Q : Exit → Act → World → Prop}

/-- 'T{}', T an array. -/
theorem wpList_bzero (hgd : o.guard = none) (t e n : Nat) (ho : o.op = .build t #[]) (hu : P.underlying t = some (.array n e)) (cs : List Value) (he : (P.info? e).isSome) (hz : (P.info? t).map (·.zero) = some (some (.agg cs.toArray)))
    (h : wpList P ops Q rest (a.put o.dst (.agg cs.toArray)) w) : wpList P ops Q (o :: rest) a w := by
  obtain ⟨i, hi, hzz⟩ := Option.map_eq_some_iff.1 hz
  obtain ⟨j, hj⟩ := Option.isSome_iff_exists.1 he
  refine wpList_plain hgd fun K hK => ?_
  have hrun : (Instr.build t #[]).run P w = .ok (.agg cs.toArray) w := by
    simp [Instr.build, zeroValue, typeInfo, hi, hzz, run_underlying hu, sizeOf, hj, Instr.fill, Value.cells]
  unfold Oper.wp
  simp [execOp, ho, hrun, Result.andThen]
  exact hK _ _ h

/-- 'var x T', T an array. -/
theorem wpList_bvar (hgd : o.guard = none) (t : Nat) (ho : o.op = .alloc t) (cs : List Value) (hz : (P.info? t).map (·.zero) = some (some (.agg cs.toArray)))
    (h : ∀ g w', g = w.heap.size → w'.heap.size = g + 1 → Bx w' g t cs → Below w.heap.size w w' → wpList P ops Q rest (a.put o.dst (.pointer (some ⟨g, 0, none⟩))) w') : wpList P ops Q (o :: rest) a w := by
  obtain ⟨i, hi, hzz⟩ := Option.map_eq_some_iff.1 hz
  refine wpList_bnew hgd t cs (fun w => ?_) h
  simp [execOp, ho, Instr.alloc, zeroValue, typeInfo, hi, hzz, newVar, newRow, Value.cells, Result.andThen]
end

/-- An element of such a variable. -/
theorem arr_idx {P : Program} {t e n : Nat} (hu : P.underlying t = some (.array n e)) (hs : (P.info? e).map (·.size) = some 1) (K : IntKind) (g k : Nat) (hk : k < n) (w : World) : (Instr.indexAt t (.pointer (some ⟨g, 0, none⟩)) (.int K (k : Int))).run P w = .ok (.pointer (some ⟨g, k, none⟩)) w := by
  cases hq : P.info? e with
  | none => simp [hq] at hs
  | some i =>
    have hi : i.size = 1 := by simpa [hq] using hs
    simp [Instr.indexAt, asIntOf, run_underlying hu, Instr.sureAddr, sizeOf, typeInfo, hq, hi, addr_add, hk]

/-- Which numbers there are, as cells. -/
abbrev seenC (l : List (List UInt8)) : List Value := (List.range 256).map fun k => .bool (l.any fun v => numV v == k)
set_option maxRecDepth 100000 in
theorem seenC_nil : List.replicate 256 (Value.bool false) = seenC [] := by rfl
theorem seenC_at (l : List (List UInt8)) (k : Nat) (h : k < 256) : (seenC l)[k]? = some (.bool (l.any fun v => numV v == k)) := by
  rw [List.getElem?_map, List.getElem?_range h]; rfl
theorem seenC_snoc (l : List (List UInt8)) (s : List UInt8) : (seenC l).set (numV s) (.bool true) = seenC (l ++ [s]) := by
  apply List.ext_getElem?
  intro k
  rw [List.getElem?_set]
  by_cases hk : k < 256
  · rw [seenC_at _ k hk, seenC_at _ k hk]
    by_cases e : numV s = k
    · simp [e, hk]
    · simp [e]
  · rw [List.getElem?_eq_none (by simp; omega), List.getElem?_eq_none (by simp; omega)]
    have := numV_lt s
    rw [if_neg (by omega)]

/-- The part of the volume with this number. -/
def bodyAt (l : List (List UInt8)) (k : Nat) : List UInt8 := bodyV (l.getD (atV l k) [])
theorem bodyAt_none {l : List (List UInt8)} {k : Nat} (h : ∀ v, v ∈ l → numV v ≠ k) : bodyAt l k = [] := by
  unfold bodyAt atV
  rw [List.findIdx_eq_length_of_false (by intro x hx; simpa using h x hx)]
  simp [bodyV]
theorem bodyAt_snoc {l : List (List UInt8)} {s : List UInt8} (h : ∀ v, v ∈ l → numV v ≠ numV s) (k : Nat) : bodyAt (l ++ [s]) k = if k = numV s then bodyV s else bodyAt l k := by
  unfold bodyAt atV
  rw [List.findIdx_append]
  by_cases hf : l.findIdx (fun v => numV v == k) < l.length
  · rw [if_pos hf]
    have hm := List.findIdx_getElem (w := hf) (p := fun v => numV v == k)
    have hne : k ≠ numV s := by
      intro e
      have h2 := h _ (List.getElem_mem hf)
      simp only [beq_iff_eq] at hm
      exact h2 (by rw [hm]; exact e)
    rw [if_neg hne, List.getD_eq_getElem?_getD, List.getElem?_append_left hf, ← List.getD_eq_getElem?_getD]
  · rw [if_neg hf]
    have hl : l.findIdx (fun v => numV v == k) = l.length := by have := List.findIdx_le_length (p := fun v => numV v == k) (xs := l); omega
    by_cases e : k = numV s
    · rw [if_pos e]; simp [e, List.findIdx_cons]
    · rw [if_neg e, hl]
      have : (numV s == k) = false := by rw [beq_eq_false_iff_ne]; exact fun h => e h.symm
      have e1 : (l ++ [s]).getD (List.findIdx (fun v => numV v == k) [s] + l.length) [] = [] := by
        rw [List.getD_eq_getElem?_getD, List.getElem?_eq_none (by simp [List.findIdx_cons, this]; omega)]; rfl
      have e2 : l.getD l.length [] = [] := by simp
      rw [e1, e2]
theorem bodyAt_len (l : List (List UInt8)) (k n : Nat) (h : ∀ v, v ∈ l → v.length ≤ n) : (bodyAt l k).length ≤ n := by
  unfold bodyAt
  by_cases hf : atV l k < l.length
  · have := h _ (volAt_mem hf); unfold bodyV; rw [List.length_take]; omega
  · rw [List.getD_eq_getElem?_getD, List.getElem?_eq_none (by omega)]; simp [bodyV]
abbrev partC (l : List (List UInt8)) : List Value := (List.range 256).map fun k => .string (str (bodyAt l k))
set_option maxRecDepth 100000 in
theorem partC_nil : List.replicate 256 (Value.string ⟨#[]⟩) = partC [] := by
  have e : partC [] = (List.range 256).map fun _ => Value.string ⟨#[]⟩ := by
    apply List.map_congr_left; intro k _; rw [bodyAt_none (by intro v hv; cases hv)]; rfl
  rw [e]; rfl
theorem partC_at (l : List (List UInt8)) (k : Nat) (h : k < 256) : (partC l)[k]? = some (.string (str (bodyAt l k))) := by
  rw [List.getElem?_map, List.getElem?_range h]; rfl
theorem partC_snoc {l : List (List UInt8)} {s : List UInt8} (h : ∀ v, v ∈ l → numV v ≠ numV s) : (partC l).set (numV s) (.string (str (bodyV s))) = partC (l ++ [s]) := by
  apply List.ext_getElem?
  intro k
  rw [List.getElem?_set]
  by_cases hk : k < 256
  · rw [partC_at _ k hk, partC_at _ k hk, bodyAt_snoc h]
    by_cases e : numV s = k
    · rw [if_pos e, if_pos (by simp; omega), if_pos e.symm]
    · rw [if_neg e, if_neg (fun h => e h.symm)]
  · rw [List.getElem?_eq_none (by simp; omega), List.getElem?_eq_none (by simp; omega)]
    have := numV_lt s
    rw [if_neg (by omega)]
theorem allV_eq (l : List (List UInt8)) (k : Nat) : allV l k = (List.range k).flatMap (bodyAt l) := rfl
theorem allV_succ (l : List (List UInt8)) (k : Nat) : allV l (k + 1) = allV l k ++ bodyAt l k := by
  rw [allV_eq, allV_eq, List.range_succ, List.flatMap_append]; simp
theorem allV_len (l : List (List UInt8)) (n : Nat) (h : ∀ v, v ∈ l → v.length ≤ n) : ∀ k, (allV l k).length ≤ k * n
  | 0 => by simp [allV]
  | k + 1 => by
    rw [allV_succ, List.length_append, Nat.add_mul]
    have := allV_len l n h k
    have := bodyAt_len l k n h
    omega
theorem allV_more {l : List (List UInt8)} {n : Nat} (h : ∀ v, v ∈ l → numV v < n) : ∀ k, allV l (n + k) = allV l n
  | 0 => rfl
  | k + 1 => by
    rw [show n + (k + 1) = (n + k) + 1 by omega, allV_succ, allV_more h k, bodyAt_none (by intro v hv; have := h v hv; omega), List.append_nil]

end Go.Proofs.YtdjpkgaicmklmaaGreat

/- The program's Join, walked. -/
namespace Go.Proofs.YtdjpkgaicmklmaaGreat
open Go.RowKit

/-- What Join answers, as values. -/
abbrev jnV (j : Jn) : Value := .tuple #[.string (str j.b), .int .i64 j.err, .int .i64 (j.at_ : Int)]
theorem joinRd_bad1 {l : List (List UInt8)} {i : Nat} (h : firstOf (bad1 l) l.length = some i) : joinRd l = ⟨[], 13, i⟩ := by unfold joinRd; rw [h]
theorem joinRd_bad2 {l : List (List UInt8)} {i : Nat} (h1 : firstOf (bad1 l) l.length = none) (h : firstOf (bad2 l) l.length = some i) : joinRd l = ⟨[], 14, i⟩ := by unfold joinRd; rw [h1, h]
theorem joinRd_bad3 {l : List (List UInt8)} {i : Nat} (h1 : firstOf (bad1 l) l.length = none) (h2 : firstOf (bad2 l) l.length = none) (h : firstOf (bad3 l) l.length = some i) : joinRd l = ⟨[], 15, i⟩ := by unfold joinRd; rw [h1, h2, h]
theorem joinRd_miss {l : List (List UInt8)} (h1 : firstOf (bad1 l) l.length = none) (h2 : firstOf (bad2 l) l.length = none) (h3 : firstOf (bad3 l) l.length = none) (h : l.length = 0 ∨ l.length ≠ cntV (l.getD 0 [])) : joinRd l = ⟨[], 16, 0⟩ := by
  unfold joinRd; rw [h1, h2, h3]; simp only; rw [if_pos h]
theorem joinRd_sum {l : List (List UInt8)} (h1 : firstOf (bad1 l) l.length = none) (h2 : firstOf (bad2 l) l.length = none) (h3 : firstOf (bad3 l) l.length = none) (h : ¬ (l.length = 0 ∨ l.length ≠ cntV (l.getD 0 [])))
    (hs : fourI (crc pSum (allV l l.length)) ≠ sumV (l.getD 0 [])) : joinRd l = ⟨[], 8, 0⟩ := by
  unfold joinRd; rw [h1, h2, h3]; simp only; rw [if_neg h, if_pos hs]
theorem joinRd_ok {l : List (List UInt8)} (h1 : firstOf (bad1 l) l.length = none) (h2 : firstOf (bad2 l) l.length = none) (h3 : firstOf (bad3 l) l.length = none) (h : ¬ (l.length = 0 ∨ l.length ≠ cntV (l.getD 0 [])))
    (hs : fourI (crc pSum (allV l l.length)) = sumV (l.getD 0 [])) : joinRd l = ⟨allV l l.length, 0, 0⟩ := by
  unfold joinRd; rw [h1, h2, h3]; simp only; rw [if_neg h, if_neg (by simp [hs])]
theorem firstEnd_lt {f : Nat → Bool} {n i : Nat} (h : firstOf f n = some i) : firstEnd f n = i ∧ i < n := ⟨by unfold firstEnd; rw [h]; rfl, (firstOf_some.mp h).2.1⟩
theorem firstEnd_eq {f : Nat → Bool} {n : Nat} (h : firstOf f n = none) : firstEnd f n = n := by unfold firstEnd; rw [h]; rfl
theorem ok_of_none {l : List (List UInt8)} (h : firstOf (bad1 l) l.length = none) (i : Nat) (hi : i < l.length) : volOk (l.getD i []) = true := by
  have := firstOf_none.mp h i hi
  simpa [bad1] using this
theorem cnt_all {l : List (List UInt8)} (h1 : firstOf (bad1 l) l.length = none) (h2 : firstOf (bad2 l) l.length = none) (hc : l.length = cntV (l.getD 0 [])) : ∀ v, v ∈ l → numV v < l.length := by
  intro v hv
  obtain ⟨i, hi, rfl⟩ := List.mem_iff_getElem.mp hv
  have a := ok_of_none h1 i hi
  have b := firstOf_none.mp h2 i hi
  simp only [bad2, bne_eq_false_iff_eq] at b
  have hz : ∀ v : List UInt8, cntV v = ((idV v).getD 0 0).toNat := by intro v; unfold cntV idV; simp [List.getElem?_drop]
  have c : cntV (l.getD i []) = cntV (l.getD 0 []) := by rw [hz, hz, b]
  have e : l.getD i [] = l[i] := by rw [List.getD_eq_getElem?_getD, List.getElem?_eq_getElem hi]; rfl
  rw [e] at a c
  simp only [volOk, Bool.and_eq_true, decide_eq_true_eq] at a
  omega

theorem below_drew1 {w w' : World} (hb : Below w.drew.heap.size w.drew w') : Below w.heap.size w w' := (Below.drew (Below.refl w.heap.size w)).trans hb

end Go.Proofs.YtdjpkgaicmklmaaGreat

/- parcel.Join of the program, walked. -/
namespace Go.Proofs.YtdjpkgaicmklmaaGreat
open Go.RowKit

end Go.Proofs.YtdjpkgaicmklmaaGreat

/- The reference's Join, walked. -/
namespace Go.Proofs.YtdjpkgaicmklmaaGreat
open Go.RowKit
attribute [local go_sem] str_append

theorem atV_le (l : List (List UInt8)) (n : Nat) : atV l n ≤ l.length := List.findIdx_le_length
theorem atV_is {l : List (List UInt8)} {n i : Nat} (hi : i < l.length) (h : numV (l.getD i []) = n) (hb : ∀ j, j < i → numV (l.getD j []) ≠ n) : atV l n = i := by
  have e : l.getD i [] = l[i] := by rw [List.getD_eq_getElem?_getD, List.getElem?_eq_getElem hi]; rfl
  unfold atV
  rw [List.findIdx_eq hi]
  refine ⟨by rw [e] at h; simp [h], fun j hj => ?_⟩
  have := hb j hj
  rw [List.getD_eq_getElem?_getD, List.getElem?_eq_getElem (by omega)] at this
  simpa using this
theorem atV_none {l : List (List UInt8)} {n : Nat} (hb : ∀ j, j < l.length → numV (l.getD j []) ≠ n) : atV l n = l.length := by
  unfold atV
  refine List.findIdx_eq_length_of_false fun x hx => ?_
  obtain ⟨j, hj, rfl⟩ := List.mem_iff_getElem.mp hx
  have := hb j hj
  rw [List.getD_eq_getElem?_getD, List.getElem?_eq_getElem hj] at this
  simpa using this
def atI (l : List (List UInt8)) (n : Nat) : Int := if atV l n < l.length then (atV l n : Int) else -1

theorem bad3_at {l : List (List UInt8)} {i : Nat} (hi : i < l.length) : atV l (numV (l.getD i [])) < l.length ∧ (bad3 l i = true ↔ atV l (numV (l.getD i [])) < i) := by
  have e : l.getD i [] = l[i] := by rw [List.getD_eq_getElem?_getD, List.getElem?_eq_getElem hi]; rfl
  have h1 : atV l (numV (l.getD i [])) < l.length := by
    unfold atV; rw [List.findIdx_lt_length]; exact ⟨l[i], List.getElem_mem hi, by rw [e]; simp⟩
  refine ⟨h1, ?_⟩
  simp only [bad3, List.any_eq_true, beq_iff_eq]
  constructor
  · rintro ⟨v, hv, hn⟩
    rw [List.mem_take_iff_getElem] at hv
    obtain ⟨j, hj, rfl⟩ := hv
    refine Nat.lt_of_le_of_lt ?_ (show j < i by omega)
    refine Nat.le_of_not_lt fun hlt => ?_
    have := List.not_of_lt_findIdx (p := fun v => numV v == numV (l.getD i [])) (xs := l) (i := j) hlt
    simp [hn] at this
  · intro h
    refine ⟨l[atV l (numV (l.getD i []))], ?_, ?_⟩
    · rw [List.mem_take_iff_getElem]; exact ⟨atV l (numV (l.getD i [])), by omega, rfl⟩
    · have := List.findIdx_getElem (w := h1) (p := fun v => numV v == numV (l.getD i []))
      exact of_decide_eq_true (p := numV (l[l.findIdx (fun v => numV v == numV (l.getD i []))]'h1) = numV (l.getD i [])) (by simpa using this)

end Go.Proofs.YtdjpkgaicmklmaaGreat

/- Rows of strings of the call's own. -/
namespace Go.Proofs.YtdjpkgaicmklmaaGreat
open Go.RowKit

/-- A row of strings. -/
abbrev srows (l : List (List UInt8)) : List (List Value) := l.map fun s => [Value.string (str s)]
theorem srows_flat (l : List (List UInt8)) : (srows l).flatten = strs l := strs_flat l
theorem srows_at {w : World} {g : Nat} {e : TypeId} {l : List (List UInt8)} (h : Own w g e 1 (srows l)) (k : Nat) (hk : k < l.length) : w.cell? ⟨g, k, none⟩ = some (.string (str (l.getD k []))) ∧ w.frozen? ⟨g, k, none⟩ = false := by
  constructor
  · have := h.cell k 0 (by simpa using hk) (by omega)
    rw [Nat.add_zero, Nat.mul_one] at this
    rw [this]
    simp [List.getD, hk]
  · simp [World.frozen?, h.block]
theorem srows_set {w : World} {g : Nat} {e : TypeId} {l : List (List UInt8)} (h : Own w g e 1 (srows l)) (k : Nat) (x : List UInt8) : Own (w.setCell ⟨g, k, none⟩ (.string (str x))) g e 1 (srows (l.set k x)) := by
  refine ⟨by intro r hr; obtain ⟨y, _, rfl⟩ := List.mem_map.1 hr; rfl, ?_⟩
  rw [heap_setCell_same w g k _ e _ h.block]
  congr 2
  rw [srows_flat, srows_flat, strs, strs, List.map_set]
  simp
theorem srows_lies {w : World} {g : Nat} {e : TypeId} {L l : List (List UInt8)} {ad : Option Addr} {N : Nat} (h : Own w g e 1 (srows L)) (had : ad = some ⟨g, 0, none⟩) (hN : N ≤ L.length) (hf : ∀ i, i < N → L.getD i [] = l.getD i []) : Lies w ad N 1 (fun i => [.string (str (l.getD i []))]) := by
  refine Or.inr ⟨g, 0, had, (Array.getElem?_eq_some_iff.1 h.block).1, fun i hi j v hj hv => ?_⟩
  obtain rfl : j = 0 := by omega
  rw [show 0 + i * 1 + 0 = i by omega, (srows_at h i (by omega)).1, hf i hi]
  simpa using hv
theorem srows_bx {w : World} {g : Nat} {e : TypeId} {l : List (List UInt8)} (h : Own w g e 1 (srows l)) : Bx w g e (strs l) := ⟨by have := h.block; rw [srows_flat] at this; exact this⟩
theorem bx_srows {w : World} {g : Nat} {e : TypeId} {l : List (List UInt8)} (h : Bx w g e (strs l)) : Own w g e 1 (srows l) :=
  ⟨by intro r hr; obtain ⟨y, _, rfl⟩ := List.mem_map.1 hr; rfl, by rw [srows_flat]; exact h.h⟩
theorem strs_at {l : List (List UInt8)} {k : Nat} (h : k < l.length) : (strs l)[k]? = some (.string (str (l.getD k []))) := by simp [strs, List.getD, h]
theorem strs_set (l : List (List UInt8)) (k : Nat) (x : List UInt8) : (strs l).set k (.string (str x)) = strs (l.set k x) := by rw [strs, strs, List.map_set]
theorem Vec.cell1 {w : World} {B e : Nat} {ad : Option Addr} {n cap : Nat} {xs : List Value} (h : Vec w B e 1 ad n cap xs) {P : Program} {t : TypeId}
    (ht : P.underlying t = some (.slice (P.elem t))) (hs : (P.info? (P.elem t)).map (·.size) = some 1) {i : Nat} (hi : i < n) (N : Int) (hN : N = (i : Int)) :
    ∃ g, ad = some ⟨g, 0, none⟩ ∧ B ≤ g ∧ g < w.heap.size ∧ (∀ w', (Instr.indexAt t (.slice ad n cap) (.int .i64 N)).run P w' = .ok (.pointer (some ⟨g, i, none⟩)) w') ∧
      w.cell? ⟨g, i, none⟩ = xs[i]? ∧ w.frozen? ⟨g, i, none⟩ = false ∧ (∀ u, Vec (w.setCell ⟨g, i, none⟩ u) B e 1 ad n cap (xs.set i u)) := by
  obtain ⟨g, rfl, hB, hl⟩ := h.form (by omega)
  refine ⟨g, rfl, hB, hl, fun w' => ?_, ?_, World.ownsRow.frozenAt h _, fun u => (World.ownsRow.stored h i u).1⟩
  · have := Own.idx (P := P) (t := t) (m := 1) (had := rfl) n cap ht hs hi N hN w' (g := g)
    rw [Nat.mul_one] at this; exact this
  · exact World.ownsRow.cellAt h i (by omega)
end Go.Proofs.YtdjpkgaicmklmaaGreat

