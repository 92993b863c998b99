/- parcelkeep.Chained: called with any writes and numbers it answers true. -/
import Derived.Test.YtdjpkgaicmklmabPartChained10
namespace Go.Proofs.Ytdjpkgaicmklmab
open Go.RowKit

theorem str_nonempty {b : List UInt8} (h : b ≠ []) : (str b).toList.isEmpty = false := by rw [str_toList]; cases b; (exact absurd rfl h); rfl
theorem str_nonempty2 {b : List UInt8} (h : b ≠ []) : (str b == (⟨#[]⟩ : ByteArray)) = false := ba_beq (fun e => h (by have := congrArg ByteArray.toList e; rw [str_toList] at this; rw [this]; exact str_toList []))
/-- What Extend of the program makes of a chain in any order. -/
theorem tri_few {S : Seen} {i : Nat} (hi : i ≤ 40) {D : List Ed} (h : D.length ≤ 16) : (triS S i D).K.length ≤ 1000 ∧ (triS S i D).C.length ≤ 1000 ∧ (triS S i D).E.length ≤ 1000 := by
  have h1 := clocksTo_length (runS S i).1 8
  have h2 := runS_cards S i
  refine ⟨?_, ?_, ?_⟩
  · show (clocksTo (runS S i).1 8).length ≤ _; omega
  · show (runS S i).2.length ≤ _; omega
  · show D.length ≤ _; omega

set_option maxRecDepth 100000 in
set_option maxHeartbeats 16000000 in
theorem chained_any (nw ns nx no : Nat) (fw fx : Nat → Wr) (fs fo : Nat → Int) (aw as_ ax ao : Option Addr) (cw cs cx co : Nat) (w : World)
    (hW : Ws w aw nw fw) (hS : Ns w as_ ns fs) (hX : Ws w ax nx fx) (hO : Ns w ao no fo) (kw : nw ≤ cw) :
    Calls Try.prog 7 #[.slice aw nw cw, .slice as_ ns cs, .slice ax nx cx, .slice ao no co] w fun e w' => e = .returned (.bool true) ∧ Below w.heap.size w w' := by
  have q1 : (editsTo fx (min nx 8)).length ≤ 8 := by simp [editsTo]; omega
  have HSL : Hid (Lies w as_ ns 1 (iCells fs) ∧ ∀ i, i < ns → I64 (fs i)) := ⟨hS.lies, hS.ok⟩
  have HOL : Hid (Lies w ao no 1 (iCells fo) ∧ (∀ i, i < no → I64 (fo i)) ∧ no ≤ 140737488355328) := ⟨hO.lies, hO.ok, hO.few⟩
  have K0 : Hid (∀ X g ad, ad = some ⟨g, 0, none⟩ → Below w.heap.size w X → Bx X g 3 (ints (List.replicate 8 0)) → Calls Try.prog 9 #[.slice aw nw cw, .slice ad 8 8, .slice none 0 0] X fun e w' => ∃ T a1 a2 a3 k1 k2 k3, T = triS (cntS nw fw (List.replicate 8 0)) (min nw 40) [] ∧ e = .returned (.agg #[.slice a1 T.K.length k1, .slice a2 T.C.length k2, .slice a3 T.E.length k3]) ∧ LT w' X.heap.size T a1 a2 a3 k1 k2 k3 ∧ Below X.heap.size X w') := fun X g ad had h hn => by
    subst had
    exact (state_tri (S := cntS nw fw (List.replicate 8 0)) (ef := fun _ => fw 0) (hW.below h) (ints_ns hn cnt_zero) (Ws.nil X _) kw).mono fun e w' ⟨a1, a2, a3, k1, k2, k3, h1, _, h3, h4⟩ => ⟨_, a1, a2, a3, k1, k2, k3, rfl, h1, h3, h4⟩
  have KS : Hid (∀ X g ad c, ad = some ⟨g, 0, none⟩ → CntOk c → Below w.heap.size w X → Bx X g 3 (ints c) → Calls Try.prog 9 #[.slice aw nw cw, .slice ad 8 8, .slice ax nx cx] X fun e w' => ∃ T a1 a2 a3 k1 k2 k3, T = triS (cntS nw fw c) (min nw 40) (editsTo fx (min nx 8)) ∧ e = .returned (.agg #[.slice a1 T.K.length k1, .slice a2 T.C.length k2, .slice a3 T.E.length k3]) ∧ LT w' X.heap.size T a1 a2 a3 k1 k2 k3 ∧ Below X.heap.size X w') := fun X g ad c had hc h hn => by
    subst had
    exact (state_tri (S := cntS nw fw c) (hW.below h) (ints_ns hn hc) (hX.below h) kw).mono fun e w' ⟨a1, a2, a3, k1, k2, k3, h1, _, h3, h4⟩ => ⟨_, a1, a2, a3, k1, k2, k3, rfl, h1, h3, h4⟩
  have HEX : Hid ((editsTo fx (min nx 8)).length ≤ 8 ∧ EdOk (editsTo fx (min nx 8)) ∧ min nw 40 ≤ 40) := ⟨q1, edits_ok fx (min nx 8), by omega⟩
  clear hW hS hX hO q1
  generalize editsTo fx (min nx 8) = EX at *
  generalize min nw 40 = ii at *
  go_enter Try.func7, Try.ntmps7
  go_wp2_with (at_make; refine wpList_make_ones (by rfl) _ _ 23 (by rfl) 3 (.int .i64 0) 8 Try.underlying23 (by kernel_rfl) rfl 8 8 rfl (by rfl) (by rfl) ?_ ?_ ?_; (omega); (omega); intro gn an w1 ead hg hgl oc hbc)
  have HAD : Hid (an = some ⟨gn, 0, none⟩) := ead
  have HN1 : Hid (Bx w1 gn 3 (ints (List.replicate 8 0))) := irows_bx oc
  have HB1 : Hid (Below w.heap.size w w1) := hbc
  have HG : Hid (w.heap.size ≤ gn) := hg
  clear ead oc hbc hg hgl
  refine (K0.out w1 gn an HAD.out HB1.out HN1.out).mono ?_
  rintro e w2 ⟨T0, a1, a2, a3, k1, k2, k3, hT0, rfl, hL, hb⟩
  have hal : Below w2.heap.size w2 (w2.alloc (.cells #[.slice a1 T0.K.length k1, .slice a2 T0.C.length k2, .slice a3 T0.E.length k3] 28)) := (Below.refl _ _).alloc (Nat.le_refl _) _
  have hs := hb.trans (hal.mono hb.size)
  have hfew : T0.K.length ≤ 1000 ∧ T0.C.length ≤ 1000 ∧ T0.E.length ≤ 1000 := by rw [hT0]; exact tri_few HEX.out.2.2 (by simp)
  have HT0 : Hid (T0 = triS (cntS nw fw (List.replicate 8 0)) ii []) := hT0
  have HFEW : Hid (T0.K.length ≤ 1000 ∧ T0.C.length ≤ 1000 ∧ T0.E.length ≤ 1000) := hfew
  have HO2 : Hid ((⟨w2.heap.size, T0, a1, a2, a3, k1, k2, k3⟩ : Rv).Ok (w2.alloc (.cells #[.slice a1 T0.K.length k1, .slice a2 T0.C.length k2, .slice a3 T0.E.length k3] 28)) w.heap.size) := Rv.Ok.new (hL.mono HB1.out.size) hfew (Nat.le_trans HB1.out.size hb.size)
  have HN2 : Hid (Bx (w2.alloc (.cells #[.slice a1 T0.K.length k1, .slice a2 T0.C.length k2, .slice a3 T0.E.length k3] 28)) gn 3 (ints (List.replicate 8 0))) := HN1.out.below hs HN1.out.lt
  have HB2 : Hid (Below w.heap.size w (w2.alloc (.cells #[.slice a1 T0.K.length k1, .slice a2 T0.C.length k2, .slice a3 T0.E.length k3] 28))) := HB1.out.trans (hs.mono HB1.out.size)
  clear hT0 hfew hL hb hal hs HN1 HB1
  obtain ⟨x0, x1, x2⟩ := HO2.out.c
  dsimp only at x0 x1 x2
  go_wp2_with fail
  generalize w2.alloc (.cells #[.slice a1 T0.K.length k1, .slice a2 T0.C.length k2, .slice a3 T0.E.length k3] 28) = X2 at *
  generalize w2.heap.size = go at *
  clear w2 x0 x1 x2
  obtain ⟨A, hA⟩ : ∃ A, A = bundleB (recsOf 0 0 T0.rep) := ⟨_, rfl⟩
  have HGR : Hid (Grown nw fw ii (List.replicate 8 0) [A] T0) := by show Grown _ _ _ _ _ _; rw [hA, HT0.out]; exact grown_one HEX.out.2.2 cnt_zero (by simp) (by intro x hx; cases hx)
  have HEA : Hid (T0.rep.exp = A ∧ T0.rep.chk = 0) := ⟨by unfold Rep.exp; rw [if_pos HGR.out.chk, hA], HGR.out.chk⟩
  have hne : A ≠ [] := by rw [hA]; exact bundle_ne _ _
  have hp1 := str_nonempty hne
  have hp2 := str_nonempty2 hne
  clear hA hne
  refine (export_any T0.rep a1 a2 a3 k1 k2 k3 _ HO2.out.h).mono ?_
  rintro e w3 ⟨rfl, hb3⟩
  rw [HEA.out.1, HEA.out.2]
  have HO3 : Hid ((⟨go, T0, a1, a2, a3, k1, k2, k3⟩ : Rv).Ok w3 w.heap.size) := HO2.out.step hb3
  have HN3 : Hid (Bx w3 gn 3 (ints (List.replicate 8 0))) := HN2.out.below hb3 HN2.out.lt
  have HB3 : Hid (Below w.heap.size w w3) := HB2.out.trans (hb3.mono HB2.out.size)
  clear hb3 HO2 HN2 HB2
  have hal3 : Below w3.heap.size w3 (w3.alloc (.cells #[.string (str A)] 9)) := (Below.refl _ _).alloc (Nat.le_refl _) _
  have hal4 : Below (w3.alloc (.cells #[.string (str A)] 9)).heap.size (w3.alloc (.cells #[.string (str A)] 9)) ((w3.alloc (.cells #[.string (str A)] 9)).alloc (.cells #[.slice a1 T0.K.length k1, .slice a2 T0.C.length k2, .slice a3 T0.E.length k3] 28)) := (Below.refl _ _).alloc (Nat.le_refl _) _
  have hO4 := HO3.out.step hal3
  have hs4 := hal3.trans (hal4.mono hal3.size)
  have hz4 : (w3.alloc (.cells #[.string (str A)] 9)).heap.size = w3.heap.size + 1 := by simp
  have hR4 := Rv.Ok.new (w := w3.alloc (.cells #[.string (str A)] 9)) (B := w.heap.size) (T := T0) (a1 := a1) (a2 := a2) (a3 := a3) (k1 := k1) (k2 := k2) (k3 := k3) (HO3.out.l.keep hal3) HFEW.out (Nat.le_trans HB3.out.size hal3.size)
  have hV4 : Vec (w3.alloc (.cells #[.string (str A)] 9)) w.heap.size 9 1 (some ⟨w3.heap.size, 0, none⟩) 1 1 (strs [A]) := Vec.lit w3 w.heap.size 9 1 1 (strs [A]) HB3.out.size (by omega) (by simp)
  have HCH : Hid (Ch w ((w3.alloc (.cells #[.string (str A)] 9)).alloc (.cells #[.slice a1 T0.K.length k1, .slice a2 T0.C.length k2, .slice a3 T0.E.length k3] 28)) gn (List.replicate 8 0) ⟨go, T0, a1, a2, a3, k1, k2, k3⟩ ⟨w3.heap.size + 1, T0, a1, a2, a3, k1, k2, k3⟩ (some ⟨w3.heap.size, 0, none⟩) 1 1 [A]) := by
    refine ⟨HN3.out.below hs4 HN3.out.lt, HO3.out.step hs4, by rw [hz4] at hR4; exact hR4, hV4.keep hal4, HB3.out.trans (hs4.mono HB3.out.size), HG.out, ?_⟩
    have := HO3.out.b.lt; simp only at this; show go ≠ w3.heap.size + 1; omega
  obtain ⟨x0, x1, x2⟩ := hO4.c
  dsimp only at x0 x1 x2
  clear hal3 hal4 hO4 hs4 hz4 hR4 hV4 HO3 HN3 HB3
  go_wp2_with fail
  generalize (w3.alloc (.cells #[.string (str A)] 9)).alloc (.cells #[.slice a1 T0.K.length k1, .slice a2 T0.C.length k2, .slice a3 T0.E.length k3] 28) = X4 at *
  generalize w3.heap.size + 1 = gr at *
  generalize w3.heap.size = gl at *
  clear x0 x1 x2 hp1 hp2 HFEW
  clear w3
  go_loopw [11, 12, 13, 15, 16, 17] (fun _ _ ul ui _ _ wr => ∃ (i : Nat) (c : List Int) (T : Tri) (r1 r2 r3 : Option Addr) (m1 m2 m3 : Nat) (ad : Option Addr) (N cap : Nat) (bs : List (List UInt8)), (i ≤ ns ∧ i ≤ 15) ∧ ui = .int .i64 i ∧ ul = .slice ad N cap ∧ N = i + 1 ∧ N = bs.length ∧ Grown nw fw ii c bs T ∧ Ch w wr gn c ⟨go, T0, a1, a2, a3, k1, k2, k3⟩ ⟨gr, T, r1, r2, r3, m1, m2, m3⟩ ad N cap bs) (fun _ _ _ ui _ _ _ => ns - (intOf ui).toNat)
  case atStart => exact ⟨0, List.replicate 8 0, T0, a1, a2, a3, k1, k2, k3, some ⟨gl, 0, none⟩, 1, 1, [A], ⟨by omega, by omega⟩, rfl, rfl, rfl, rfl, HGR.out, HCH.out⟩
  case round =>
    clear HGR HCH
    obtain ⟨i, c, T, r1, r2, r3, m1, m2, m3, ad, N, cap, bs, ⟨hi, hi15⟩, rfl, rfl, hNi, hNb, hG, hC⟩ := hrel
    have HNI : Hid (N = i + 1) := hNi
    have HNB : Hid (N = bs.length) := hNb
    have HGW : Hid (Grown nw fw ii c bs T) := hG
    have HC : Hid (Ch w wr gn c ⟨go, T0, a1, a2, a3, k1, k2, k3⟩ ⟨gr, T, r1, r2, r3, m1, m2, m3⟩ ad N cap bs) := hC
    have hN16 : N ≤ 16 := by omega
    clear hNi hNb hG hC
    by_cases hlt : i < ns
    · by_cases h15 : i < 15
      · obtain ⟨b, o, hbl, hix, hcc⟩ := (HSL.out.1.below HC.out.old).at cs (P := Try.prog) (t := 23) (by kernel_rfl) (by kernel_rfl) hlt
        have c0 : wr.cell? ⟨b, o, none⟩ = some (.int .i64 (fs i)) := hcc 0 _ (by omega) rfl
        have HFI : Hid (I64 (fs i)) := HSL.out.2 i hlt
        clear hcc
        obtain ⟨p1, p2⟩ := pickI_lt (fs i) 1073741824 (by omega)
        obtain ⟨V, hV⟩ : ∃ V : Nat, pickI (fs i) 1073741824 = (V : Int) := ⟨(pickI (fs i) 1073741824).toNat, by omega⟩
        have hV2 : V < 1073741824 := by omega
        have HPV : Hid (pickI (fs i) 1073741824 = (V : Int)) := hV
        clear p1 p2 hV
        go_wp2_with fail
        refine (pick_any (fs i) 1073741824 _ HFI.out (by omega) (by omega)).mono ?_
        rintro e wz ⟨rfl, hwz⟩
        obtain rfl : wr = wz := hwz.symm
        clear hwz
        rw [HPV.out]
        obtain ⟨k, hk⟩ : ∃ k, k = V % 8 := ⟨_, rfl⟩
        obtain ⟨q, hq⟩ : ∃ q, q = V / 8 % 4 := ⟨_, rfl⟩
        have hk8 : k < 8 := by omega
        have hq4 : q < 4 := by omega
        have hm1 : (V : Int) % 8 = (k : Int) := by omega
        have hm2 : Int.tmod (V : Int) 8 = (k : Int) := by rw [hk]; exact Int.ofNat_tmod V 8
        have hd2 : Int.tdiv (Int.ofNat V) 8 = ((V / 8 : Nat) : Int) := rfl
        have hq2 : Int.tmod (Int.tdiv (V : Int) 8) 4 = (q : Int) := by rw [hq]; show Int.tmod (Int.ofNat (V / 8)) 4 = _; exact Int.ofNat_tmod (V / 8) 4
        have hq1 : (V : Int) / 8 % 4 = (q : Int) := by omega
        clear hk hq hd2
        have hn := HC.out.n
        have hkl : k < c.length := by rw [HGW.out.cnt.len]; exact hk8
        have cn0 := (hn.cell k).trans (ints_at hkl)
        have hixn : ∀ w', (Instr.indexAt 23 (.slice an 8 8) (.int .i64 (k : Int))).run Try.prog w' = .ok (.pointer (some ⟨gn, k, none⟩)) w' := fun w' => by
          have := Own.idx HAD (P := Try.prog) (t := 23) (m := 1) 8 8 (by kernel_rfl) (by kernel_rfl) hk8 (k : Int) rfl w'
          rw [Nat.mul_one] at this; exact this
        have hc0 := HGW.out.cnt.lo k
        have hc1 := HGW.out.cnt.hi k
        have hlc : k < (ints c).length := by simpa [ints] using hkl
        have HCK : Hid (CntOk c) := HGW.out.cnt
        generalize hcv : c.getD k 0 = x at *
        have HCV : Hid (c.getD k 0 = x) := hcv
        clear hcv hkl
        by_cases h50 : x < 50
        · go_wp2_with (refine wpList_bput (by rfl) _ _ 3 (by rfl) gn 3 k (by rfl) _ (.int .i64 _) (by rfl) hn (by kernel_rfl) hlc (by rfl) (by rfl) ?_; intro w5 hn5 hu5)
          rw [ints_set] at hn5
          have HC5 : Hid (Ch w w5 gn (c.set k (x + (q : Int))) ⟨go, T0, a1, a2, a3, k1, k2, k3⟩ ⟨gr, T, r1, r2, r3, m1, m2, m3⟩ ad N cap bs) := HC.out.count hn5 hu5
          have HCK5 : Hid (CntOk (c.set k (x + (q : Int))) ∧ CntLe c (c.set k (x + (q : Int)))) := ⟨HCK.out.set hk8 (by omega) (by omega), CntLe.set HCK.out hk8 (by rw [HCV.out]; omega)⟩
          clear hn5 hu5
          generalize c.set k (x + (q : Int)) = d at *
          clear HC HCK HCV hn hlc cn0 hixn hc0 hc1 hm1 hm2 hq1 hq2 hk8 hq4 c0 hix hbl HFI HPV
          refine (KS.out _ gn an d HAD.out HCK5.out.1 HC5.out.old HC5.out.n).mono ?_
          rintro e w6 ⟨T1, b1, b2, b3, l1, l2, l3, hT1, rfl, hL, hb6⟩
          have HT1 : Hid (T1 = triS (cntS nw fw d) ii EX) := hT1
          have HF1 : Hid (T1.K.length ≤ 1000 ∧ T1.C.length ≤ 1000 ∧ T1.E.length ≤ 1000) := by show _ ∧ _; rw [hT1]; exact tri_few HEX.out.2.2 (by have := HEX.out.1; omega)
          have HC6 : Hid (Ch w w6 gn d ⟨go, T0, a1, a2, a3, k1, k2, k3⟩ ⟨gr, T, r1, r2, r3, m1, m2, m3⟩ ad N cap bs) := HC5.out.step hb6
          have HL6 : Hid (LT w6 w.heap.size T1 b1 b2 b3 l1 l2 l3) := hL.mono HC5.out.old.size
          have hr6 := HC6.out.r.b
          dsimp only at hr6
          clear hT1 hL hb6 HC5
          by_cases hod : i % 2 = 1
          · have ho1 : (i : Int) % 2 = 1 := by omega
            have ho2 : Int.tmod (i : Int) 2 = 1 := by rw [show Int.tmod (i : Int) 2 = ((i % 2 : Nat) : Int) from Int.ofNat_tmod i 2]; omega
            clear hod
            go_upto_region 18 with (first | (refine wpList_bstore (by rfl) _ _ _ (by rfl) gr 28 (by rfl) _ _ (by rfl) hr6 3 (by rfl) (by kernel_rfl) (by rfl) (by intro x hx; simp at hx; rcases hx with rfl | rfl | rfl <;> rfl) ?_; intro w7 hr7 hu7) | (refine wpList_bput (by rfl) _ _ 26 (by rfl) gr 28 2 (by rfl) _ (.slice _ _ _) (by rfl) hr7 (by kernel_rfl) (by simp) (by rfl) (by rfl) ?_; intro w8 hr8 hu8; dsimp only [List.set] at hr8))
            have hc7 := HC6.out.last ⟨gr, T1, b1, b2, b3, l1, l2, l3⟩ rfl hr7 HL6.out HF1.out hu7
            have hl7 : Lists w7 w.heap.size T1.K T1.C [] b1 T1.K.length l1 b2 T1.C.length l2 none 0 0 := ⟨hc7.r.l.v1, hc7.r.l.v2, Vec.nil _ _ _ _, rfl, rfl, rfl⟩
            have HC8 : Hid (Ch w w8 gn d ⟨go, T0, a1, a2, a3, k1, k2, k3⟩ ⟨gr, ⟨T1.K, T1.C, []⟩, b1, b2, none, l1, l2, 0⟩ ad N cap bs) := hc7.last ⟨gr, ⟨T1.K, T1.C, []⟩, b1, b2, none, l1, l2, 0⟩ rfl hr8 hl7 ⟨HF1.out.1, HF1.out.2.1, by simp⟩ hu8
            have HT2 : Hid ((⟨T1.K, T1.C, []⟩ : Tri) = triS (cntS nw fw d) ii []) := by show _ = _; rw [HT1.out]; rfl
            obtain ⟨bb, hbb, hext, hgw⟩ := HGW.out.next HEX.out.2.2 (by have := HNI.out; have := HNB.out; omega) HCK5.out.1 HCK5.out.2 (D := []) (by simp) (by intro x hx; cases hx)
            rw [← HT2.out] at hext hgw
            clear hr7 hu7 hr8 hu8 hc7 hl7 ho1 ho2 HT2
            have HGX : Hid (Grown nw fw ii d (bs ++ [bb]) ⟨T1.K, T1.C, []⟩) := hgw
            have HNE : Hid (bb ≠ []) := hbb
            have HSM : Hid (∀ v, v ∈ shufR fo bs no → v.length ≤ 1048576) := short_of HGW.out (shufR_perm fo bs no)
            have HXT : Hid (extendRd (shufR fo bs no) (⟨T1.K, T1.C, []⟩ : Tri) = ⟨bb, 0, 0⟩) := hext _ (shufR_perm fo bs no)
            have KSH : Hid (∀ X, Below w8.heap.size w8 X → Calls Try.prog 14 #[.slice ad N cap, .slice ao no co] X fun e w' => ∃ ad9, e = .returned (.slice ad9 N N) ∧ Lies w' ad9 N 1 (fun i => [.string (str ((shufR fo bs no).getD i []))]) ∧ Below w8.heap.size w8 w') := fun X hX =>
              (shuffled_any bs ad N cap no fo ao co X (strs_lies (HC8.out.step hX).l HNB.out) HNB.out (by omega) (HOL.out.1.below (HC8.out.step hX).old) HOL.out.2.2 HOL.out.2.1).mono fun e w' ⟨g, ad9, h1, h2, h3, h4⟩ => ⟨ad9, h1, srows_lies h3 h2 (by have := (shufR_perm fo bs no).length_eq; have := HNB.out; omega) (fun _ _ => rfl), hX.trans (h4.mono hX.size)⟩
            have KEX : Hid (∀ X ad9, Below w8.heap.size w8 X → Lies X ad9 N 1 (fun i => [.string (str ((shufR fo bs no).getD i []))]) → Calls Try.prog 23 #[.slice ad9 N N, .agg #[.slice b1 T1.K.length l1, .slice b2 T1.C.length l2, .slice none 0 0]] X fun e w' => e = .returned (.tuple #[.string (str bb), .int .i64 0, .int .i64 0]) ∧ Below w8.heap.size w8 w') := fun X ad9 hX hL =>
              (pextend_any (shufR fo bs no) (⟨T1.K, T1.C, []⟩ : Tri) ad9 N N b1 b2 none l1 l2 0 X hL (by have := (shufR_perm fo bs no).length_eq; have := HNB.out; omega) HSM.out (by omega) (HC8.out.step hX).r.h).mono fun e w' ⟨h1, h2⟩ => ⟨by rw [h1, HXT.out], hX.trans (h2.mono hX.size)⟩
            have HX9 : Hid (∀ X, Below w8.heap.size w8 X → X.cell? ⟨gr, 0, none⟩ = some (.slice b1 T1.K.length l1) ∧ X.cell? ⟨gr, 1, none⟩ = some (.slice b2 T1.C.length l2) ∧ X.cell? ⟨gr, 2, none⟩ = some (.slice none 0 0)) := fun X hX => (HC8.out.step hX).r.c
            clear hext hgw hbb HSM HXT HC6 HL6 hr6
            clear w7
            clear w6
            obtain ⟨x0, x1, x2⟩ := HX9.out _ (Below.refl _ _)
            apply merge
            · intro KEY
              go_region_law (go_simp; first | (go_at_call 14; refine (KSH.out _ (by (repeat (first | exact Below.refl _ _ | refine Below.drew ?_)))).mono ?_; rintro e w9 ⟨ad9, rfl, hl9, hb9⟩; obtain ⟨y0, y1, y2⟩ := HX9.out _ hb9; dsimp only) | (go_at_call 23; refine (KEX.out _ ad9 (by (repeat (first | exact hb9 | refine Below.drew ?_))) (hl9.below (by (repeat (first | exact Below.refl _ _ | refine Below.drew ?_))))).mono ?_; rintro e w10 ⟨rfl, hb10⟩; dsimp only))
              all_goals
                clear hl9 hb9 y0 y1 y2
                clear w9
                revert ad9 w10
                exact KEY.out
            intro ad9 w10 hb10
            have HC10 : Hid (Ch w w10 gn d ⟨go, T0, a1, a2, a3, k1, k2, k3⟩ ⟨gr, ⟨T1.K, T1.C, []⟩, b1, b2, none, l1, l2, 0⟩ ad N cap bs) := HC8.out.step hb10
            clear hb10 HC8 KSH KEX HX9 x0 x1 x2
            clear w8
            have hp1 := str_nonempty HNE.out
            have hp2 := str_nonempty2 HNE.out
            have HV := HC10.out.l
            have HAL : Hid (∀ o, Below w10.heap.size w10 (w10.alloc o)) := fun o => (Below.refl _ _).alloc (Nat.le_refl _) o
            have HSZ : Hid (∀ o, w.heap.size ≤ (w10.alloc o).heap.size) := fun o => Nat.le_trans HC10.out.old.size (HAL.out o).size
            go_wp2_with (at_builtin; refine wpList_pushg (by rfl) _ _ 33 (by rfl) w.heap.size 9 1 16 (.string ⟨#[]⟩) Try.underlying33 (by kernel_rfl) rfl (by decide) ad N cap _ (by rfl) (HV.keep (HAL.out _)) _ _ [.string (str bb)] (by rfl) rfl ?_ ?_ ?_ ?_ ?_ ?_; exact new_cells _ _ _; (intro u hu; simp at hu; subst hu; rfl); (omega); (omega); (exact HSZ.out _); intro gz cz w11 hvv hgg hor)
            have hfin := (HC10.out.step (HAL.out _)).push (bs' := bs ++ [bb]) (by rw [show strs (bs ++ [bb]) = strs bs ++ [.string (str bb)] by simp [strs]]; exact hvv) hgg
            go_roundw
            case rel => exact ⟨i + 1, d, ⟨T1.K, T1.C, []⟩, b1, b2, none, l1, l2, 0, some ⟨gz, 0, none⟩, N + 1, cz, bs ++ [bb], ⟨by omega, by omega⟩, by go_num, rfl, by have := HNI.out; omega, by have := HNB.out; rw [List.length_append, List.length_singleton]; omega, HGX.out, hfin⟩
            case measure => simp [intOf]; omega
          · have ho1 : ((i : Int) % 2 == 1) = false := by rw [beq_eq_false_iff_ne]; omega
            have ho2 : (Int.tmod (i : Int) 2 == 1) = false := by rw [show Int.tmod (i : Int) 2 = ((i % 2 : Nat) : Int) from Int.ofNat_tmod i 2, beq_eq_false_iff_ne]; omega
            clear hod
            go_upto_region 18 with (refine wpList_bstore (by rfl) _ _ _ (by rfl) gr 28 (by rfl) _ _ (by rfl) hr6 3 (by rfl) (by kernel_rfl) (by rfl) (by intro x hx; simp at hx; rcases hx with rfl | rfl | rfl <;> rfl) ?_; intro w7 hr7 hu7)
            have HC8 : Hid (Ch w w7 gn d ⟨go, T0, a1, a2, a3, k1, k2, k3⟩ ⟨gr, T1, b1, b2, b3, l1, l2, l3⟩ ad N cap bs) := HC6.out.last ⟨gr, T1, b1, b2, b3, l1, l2, l3⟩ rfl hr7 HL6.out HF1.out hu7
            obtain ⟨bb, hbb, hext, hgw⟩ := HGW.out.next HEX.out.2.2 (by have := HNI.out; have := HNB.out; omega) HCK5.out.1 HCK5.out.2 HEX.out.1 HEX.out.2.1
            rw [← HT1.out] at hext hgw
            clear hr7 hu7 ho1 ho2
            have HGX : Hid (Grown nw fw ii d (bs ++ [bb]) T1) := hgw
            have HNE : Hid (bb ≠ []) := hbb
            have HSM : Hid (∀ v, v ∈ shufR fo bs no → v.length ≤ 1048576) := short_of HGW.out (shufR_perm fo bs no)
            have HXT : Hid (extendRd (shufR fo bs no) T1 = ⟨bb, 0, 0⟩) := hext _ (shufR_perm fo bs no)
            have KSH : Hid (∀ X, Below w7.heap.size w7 X → Calls Try.prog 14 #[.slice ad N cap, .slice ao no co] X fun e w' => ∃ ad9, e = .returned (.slice ad9 N N) ∧ Lies w' ad9 N 1 (fun i => [.string (str ((shufR fo bs no).getD i []))]) ∧ Below w7.heap.size w7 w') := fun X hX =>
              (shuffled_any bs ad N cap no fo ao co X (strs_lies (HC8.out.step hX).l HNB.out) HNB.out (by omega) (HOL.out.1.below (HC8.out.step hX).old) HOL.out.2.2 HOL.out.2.1).mono fun e w' ⟨g, ad9, h1, h2, h3, h4⟩ => ⟨ad9, h1, srows_lies h3 h2 (by have := (shufR_perm fo bs no).length_eq; have := HNB.out; omega) (fun _ _ => rfl), hX.trans (h4.mono hX.size)⟩
            have KEX : Hid (∀ X ad9, Below w7.heap.size w7 X → Lies X ad9 N 1 (fun i => [.string (str ((shufR fo bs no).getD i []))]) → Calls Try.prog 23 #[.slice ad9 N N, .agg #[.slice b1 T1.K.length l1, .slice b2 T1.C.length l2, .slice b3 T1.E.length l3]] X fun e w' => e = .returned (.tuple #[.string (str bb), .int .i64 0, .int .i64 0]) ∧ Below w7.heap.size w7 w') := fun X ad9 hX hL =>
              (pextend_any (shufR fo bs no) T1 ad9 N N b1 b2 b3 l1 l2 l3 X hL (by have := (shufR_perm fo bs no).length_eq; have := HNB.out; omega) HSM.out (by omega) (HC8.out.step hX).r.h).mono fun e w' ⟨h1, h2⟩ => ⟨by rw [h1, HXT.out], hX.trans (h2.mono hX.size)⟩
            have HX9 : Hid (∀ X, Below w7.heap.size w7 X → X.cell? ⟨gr, 0, none⟩ = some (.slice b1 T1.K.length l1) ∧ X.cell? ⟨gr, 1, none⟩ = some (.slice b2 T1.C.length l2) ∧ X.cell? ⟨gr, 2, none⟩ = some (.slice b3 T1.E.length l3)) := fun X hX => (HC8.out.step hX).r.c
            clear hext hgw hbb HSM HXT HC6 HL6 hr6
            clear w6
            obtain ⟨x0, x1, x2⟩ := HX9.out _ (Below.refl _ _)
            apply merge
            · intro KEY
              go_region_law (go_simp; first | (go_at_call 14; refine (KSH.out _ (by (repeat (first | exact Below.refl _ _ | refine Below.drew ?_)))).mono ?_; rintro e w9 ⟨ad9, rfl, hl9, hb9⟩; obtain ⟨y0, y1, y2⟩ := HX9.out _ hb9; dsimp only) | (go_at_call 23; refine (KEX.out _ ad9 (by (repeat (first | exact hb9 | refine Below.drew ?_))) (hl9.below (by (repeat (first | exact Below.refl _ _ | refine Below.drew ?_))))).mono ?_; rintro e w10 ⟨rfl, hb10⟩; dsimp only))
              all_goals
                clear hl9 hb9 y0 y1 y2
                clear w9
                revert ad9 w10
                exact KEY.out
            intro ad9 w10 hb10
            have HC10 : Hid (Ch w w10 gn d ⟨go, T0, a1, a2, a3, k1, k2, k3⟩ ⟨gr, T1, b1, b2, b3, l1, l2, l3⟩ ad N cap bs) := HC8.out.step hb10
            clear hb10 HC8 KSH KEX HX9 x0 x1 x2
            clear w7
            have hp1 := str_nonempty HNE.out
            have hp2 := str_nonempty2 HNE.out
            have HV := HC10.out.l
            have HAL : Hid (∀ o, Below w10.heap.size w10 (w10.alloc o)) := fun o => (Below.refl _ _).alloc (Nat.le_refl _) o
            have HSZ : Hid (∀ o, w.heap.size ≤ (w10.alloc o).heap.size) := fun o => Nat.le_trans HC10.out.old.size (HAL.out o).size
            go_wp2_with (at_builtin; refine wpList_pushg (by rfl) _ _ 33 (by rfl) w.heap.size 9 1 16 (.string ⟨#[]⟩) Try.underlying33 (by kernel_rfl) rfl (by decide) ad N cap _ (by rfl) (HV.keep (HAL.out _)) _ _ [.string (str bb)] (by rfl) rfl ?_ ?_ ?_ ?_ ?_ ?_; exact new_cells _ _ _; (intro u hu; simp at hu; subst hu; rfl); (omega); (omega); (exact HSZ.out _); intro gz cz w11 hvv hgg hor)
            have hfin := (HC10.out.step (HAL.out _)).push (bs' := bs ++ [bb]) (by rw [show strs (bs ++ [bb]) = strs bs ++ [.string (str bb)] by simp [strs]]; exact hvv) hgg
            go_roundw
            case rel => exact ⟨i + 1, d, T1, b1, b2, b3, l1, l2, l3, some ⟨gz, 0, none⟩, N + 1, cz, bs ++ [bb], ⟨by omega, by omega⟩, by go_num, rfl, by have := HNI.out; omega, by have := HNB.out; rw [List.length_append, List.length_singleton]; omega, HGX.out, hfin⟩
            case measure => simp [intOf]; omega
        · go_wp2_with fail
          have HC5 : Hid (Ch w wr gn c ⟨go, T0, a1, a2, a3, k1, k2, k3⟩ ⟨gr, T, r1, r2, r3, m1, m2, m3⟩ ad N cap bs) := HC.out
          have HCK5 : Hid (CntOk c ∧ CntLe c c) := ⟨HCK.out, fun _ _ => Int.le_refl _⟩
          obtain ⟨d, hd⟩ : ∃ d, d = c := ⟨_, rfl⟩
          have HC9 : Hid (Ch w wr gn d ⟨go, T0, a1, a2, a3, k1, k2, k3⟩ ⟨gr, T, r1, r2, r3, m1, m2, m3⟩ ad N cap bs) := by rw [hd]; exact HC5
          have HCK9 : Hid (CntOk d ∧ CntLe c d) := by rw [hd]; exact HCK5
          clear HC5 HCK5 hd
          have HC5 := HC9
          have HCK5 := HCK9
          clear HC9 HCK9
          clear HC HCK HCV hn hlc cn0 hixn hc0 hc1 hm1 hm2 hq1 hq2 hk8 hq4 c0 hix hbl HFI HPV
          refine (KS.out _ gn an d HAD.out HCK5.out.1 HC5.out.old HC5.out.n).mono ?_
          rintro e w6 ⟨T1, b1, b2, b3, l1, l2, l3, hT1, rfl, hL, hb6⟩
          have HT1 : Hid (T1 = triS (cntS nw fw d) ii EX) := hT1
          have HF1 : Hid (T1.K.length ≤ 1000 ∧ T1.C.length ≤ 1000 ∧ T1.E.length ≤ 1000) := by show _ ∧ _; rw [hT1]; exact tri_few HEX.out.2.2 (by have := HEX.out.1; omega)
          have HC6 : Hid (Ch w w6 gn d ⟨go, T0, a1, a2, a3, k1, k2, k3⟩ ⟨gr, T, r1, r2, r3, m1, m2, m3⟩ ad N cap bs) := HC5.out.step hb6
          have HL6 : Hid (LT w6 w.heap.size T1 b1 b2 b3 l1 l2 l3) := hL.mono HC5.out.old.size
          have hr6 := HC6.out.r.b
          dsimp only at hr6
          clear hT1 hL hb6 HC5
          by_cases hod : i % 2 = 1
          · have ho1 : (i : Int) % 2 = 1 := by omega
            have ho2 : Int.tmod (i : Int) 2 = 1 := by rw [show Int.tmod (i : Int) 2 = ((i % 2 : Nat) : Int) from Int.ofNat_tmod i 2]; omega
            clear hod
            go_upto_region 18 with (first | (refine wpList_bstore (by rfl) _ _ _ (by rfl) gr 28 (by rfl) _ _ (by rfl) hr6 3 (by rfl) (by kernel_rfl) (by rfl) (by intro x hx; simp at hx; rcases hx with rfl | rfl | rfl <;> rfl) ?_; intro w7 hr7 hu7) | (refine wpList_bput (by rfl) _ _ 26 (by rfl) gr 28 2 (by rfl) _ (.slice _ _ _) (by rfl) hr7 (by kernel_rfl) (by simp) (by rfl) (by rfl) ?_; intro w8 hr8 hu8; dsimp only [List.set] at hr8))
            have hc7 := HC6.out.last ⟨gr, T1, b1, b2, b3, l1, l2, l3⟩ rfl hr7 HL6.out HF1.out hu7
            have hl7 : Lists w7 w.heap.size T1.K T1.C [] b1 T1.K.length l1 b2 T1.C.length l2 none 0 0 := ⟨hc7.r.l.v1, hc7.r.l.v2, Vec.nil _ _ _ _, rfl, rfl, rfl⟩
            have HC8 : Hid (Ch w w8 gn d ⟨go, T0, a1, a2, a3, k1, k2, k3⟩ ⟨gr, ⟨T1.K, T1.C, []⟩, b1, b2, none, l1, l2, 0⟩ ad N cap bs) := hc7.last ⟨gr, ⟨T1.K, T1.C, []⟩, b1, b2, none, l1, l2, 0⟩ rfl hr8 hl7 ⟨HF1.out.1, HF1.out.2.1, by simp⟩ hu8
            have HT2 : Hid ((⟨T1.K, T1.C, []⟩ : Tri) = triS (cntS nw fw d) ii []) := by show _ = _; rw [HT1.out]; rfl
            obtain ⟨bb, hbb, hext, hgw⟩ := HGW.out.next HEX.out.2.2 (by have := HNI.out; have := HNB.out; omega) HCK5.out.1 HCK5.out.2 (D := []) (by simp) (by intro x hx; cases hx)
            rw [← HT2.out] at hext hgw
            clear hr7 hu7 hr8 hu8 hc7 hl7 ho1 ho2 HT2
            have HGX : Hid (Grown nw fw ii d (bs ++ [bb]) ⟨T1.K, T1.C, []⟩) := hgw
            have HNE : Hid (bb ≠ []) := hbb
            have HSM : Hid (∀ v, v ∈ shufR fo bs no → v.length ≤ 1048576) := short_of HGW.out (shufR_perm fo bs no)
            have HXT : Hid (extendRd (shufR fo bs no) (⟨T1.K, T1.C, []⟩ : Tri) = ⟨bb, 0, 0⟩) := hext _ (shufR_perm fo bs no)
            have KSH : Hid (∀ X, Below w8.heap.size w8 X → Calls Try.prog 14 #[.slice ad N cap, .slice ao no co] X fun e w' => ∃ ad9, e = .returned (.slice ad9 N N) ∧ Lies w' ad9 N 1 (fun i => [.string (str ((shufR fo bs no).getD i []))]) ∧ Below w8.heap.size w8 w') := fun X hX =>
              (shuffled_any bs ad N cap no fo ao co X (strs_lies (HC8.out.step hX).l HNB.out) HNB.out (by omega) (HOL.out.1.below (HC8.out.step hX).old) HOL.out.2.2 HOL.out.2.1).mono fun e w' ⟨g, ad9, h1, h2, h3, h4⟩ => ⟨ad9, h1, srows_lies h3 h2 (by have := (shufR_perm fo bs no).length_eq; have := HNB.out; omega) (fun _ _ => rfl), hX.trans (h4.mono hX.size)⟩
            have KEX : Hid (∀ X ad9, Below w8.heap.size w8 X → Lies X ad9 N 1 (fun i => [.string (str ((shufR fo bs no).getD i []))]) → Calls Try.prog 23 #[.slice ad9 N N, .agg #[.slice b1 T1.K.length l1, .slice b2 T1.C.length l2, .slice none 0 0]] X fun e w' => e = .returned (.tuple #[.string (str bb), .int .i64 0, .int .i64 0]) ∧ Below w8.heap.size w8 w') := fun X ad9 hX hL =>
              (pextend_any (shufR fo bs no) (⟨T1.K, T1.C, []⟩ : Tri) ad9 N N b1 b2 none l1 l2 0 X hL (by have := (shufR_perm fo bs no).length_eq; have := HNB.out; omega) HSM.out (by omega) (HC8.out.step hX).r.h).mono fun e w' ⟨h1, h2⟩ => ⟨by rw [h1, HXT.out], hX.trans (h2.mono hX.size)⟩
            have HX9 : Hid (∀ X, Below w8.heap.size w8 X → X.cell? ⟨gr, 0, none⟩ = some (.slice b1 T1.K.length l1) ∧ X.cell? ⟨gr, 1, none⟩ = some (.slice b2 T1.C.length l2) ∧ X.cell? ⟨gr, 2, none⟩ = some (.slice none 0 0)) := fun X hX => (HC8.out.step hX).r.c
            clear hext hgw hbb HSM HXT HC6 HL6 hr6
            clear w7
            clear w6
            obtain ⟨x0, x1, x2⟩ := HX9.out _ (Below.refl _ _)
            apply merge
            · intro KEY
              go_region_law (go_simp; first | (go_at_call 14; refine (KSH.out _ (by (repeat (first | exact Below.refl _ _ | refine Below.drew ?_)))).mono ?_; rintro e w9 ⟨ad9, rfl, hl9, hb9⟩; obtain ⟨y0, y1, y2⟩ := HX9.out _ hb9; dsimp only) | (go_at_call 23; refine (KEX.out _ ad9 (by (repeat (first | exact hb9 | refine Below.drew ?_))) (hl9.below (by (repeat (first | exact Below.refl _ _ | refine Below.drew ?_))))).mono ?_; rintro e w10 ⟨rfl, hb10⟩; dsimp only))
              all_goals
                clear hl9 hb9 y0 y1 y2
                clear w9
                revert ad9 w10
                exact KEY.out
            intro ad9 w10 hb10
            have HC10 : Hid (Ch w w10 gn d ⟨go, T0, a1, a2, a3, k1, k2, k3⟩ ⟨gr, ⟨T1.K, T1.C, []⟩, b1, b2, none, l1, l2, 0⟩ ad N cap bs) := HC8.out.step hb10
            clear hb10 HC8 KSH KEX HX9 x0 x1 x2
            clear w8
            have hp1 := str_nonempty HNE.out
            have hp2 := str_nonempty2 HNE.out
            have HV := HC10.out.l
            have HAL : Hid (∀ o, Below w10.heap.size w10 (w10.alloc o)) := fun o => (Below.refl _ _).alloc (Nat.le_refl _) o
            have HSZ : Hid (∀ o, w.heap.size ≤ (w10.alloc o).heap.size) := fun o => Nat.le_trans HC10.out.old.size (HAL.out o).size
            go_wp2_with (at_builtin; refine wpList_pushg (by rfl) _ _ 33 (by rfl) w.heap.size 9 1 16 (.string ⟨#[]⟩) Try.underlying33 (by kernel_rfl) rfl (by decide) ad N cap _ (by rfl) (HV.keep (HAL.out _)) _ _ [.string (str bb)] (by rfl) rfl ?_ ?_ ?_ ?_ ?_ ?_; exact new_cells _ _ _; (intro u hu; simp at hu; subst hu; rfl); (omega); (omega); (exact HSZ.out _); intro gz cz w11 hvv hgg hor)
            have hfin := (HC10.out.step (HAL.out _)).push (bs' := bs ++ [bb]) (by rw [show strs (bs ++ [bb]) = strs bs ++ [.string (str bb)] by simp [strs]]; exact hvv) hgg
            go_roundw
            case rel => exact ⟨i + 1, d, ⟨T1.K, T1.C, []⟩, b1, b2, none, l1, l2, 0, some ⟨gz, 0, none⟩, N + 1, cz, bs ++ [bb], ⟨by omega, by omega⟩, by go_num, rfl, by have := HNI.out; omega, by have := HNB.out; rw [List.length_append, List.length_singleton]; omega, HGX.out, hfin⟩
            case measure => simp [intOf]; omega
          · have ho1 : ((i : Int) % 2 == 1) = false := by rw [beq_eq_false_iff_ne]; omega
            have ho2 : (Int.tmod (i : Int) 2 == 1) = false := by rw [show Int.tmod (i : Int) 2 = ((i % 2 : Nat) : Int) from Int.ofNat_tmod i 2, beq_eq_false_iff_ne]; omega
            clear hod
            go_upto_region 18 with (refine wpList_bstore (by rfl) _ _ _ (by rfl) gr 28 (by rfl) _ _ (by rfl) hr6 3 (by rfl) (by kernel_rfl) (by rfl) (by intro x hx; simp at hx; rcases hx with rfl | rfl | rfl <;> rfl) ?_; intro w7 hr7 hu7)
            have HC8 : Hid (Ch w w7 gn d ⟨go, T0, a1, a2, a3, k1, k2, k3⟩ ⟨gr, T1, b1, b2, b3, l1, l2, l3⟩ ad N cap bs) := HC6.out.last ⟨gr, T1, b1, b2, b3, l1, l2, l3⟩ rfl hr7 HL6.out HF1.out hu7
            obtain ⟨bb, hbb, hext, hgw⟩ := HGW.out.next HEX.out.2.2 (by have := HNI.out; have := HNB.out; omega) HCK5.out.1 HCK5.out.2 HEX.out.1 HEX.out.2.1
            rw [← HT1.out] at hext hgw
            clear hr7 hu7 ho1 ho2
            have HGX : Hid (Grown nw fw ii d (bs ++ [bb]) T1) := hgw
            have HNE : Hid (bb ≠ []) := hbb
            have HSM : Hid (∀ v, v ∈ shufR fo bs no → v.length ≤ 1048576) := short_of HGW.out (shufR_perm fo bs no)
            have HXT : Hid (extendRd (shufR fo bs no) T1 = ⟨bb, 0, 0⟩) := hext _ (shufR_perm fo bs no)
            have KSH : Hid (∀ X, Below w7.heap.size w7 X → Calls Try.prog 14 #[.slice ad N cap, .slice ao no co] X fun e w' => ∃ ad9, e = .returned (.slice ad9 N N) ∧ Lies w' ad9 N 1 (fun i => [.string (str ((shufR fo bs no).getD i []))]) ∧ Below w7.heap.size w7 w') := fun X hX =>
              (shuffled_any bs ad N cap no fo ao co X (strs_lies (HC8.out.step hX).l HNB.out) HNB.out (by omega) (HOL.out.1.below (HC8.out.step hX).old) HOL.out.2.2 HOL.out.2.1).mono fun e w' ⟨g, ad9, h1, h2, h3, h4⟩ => ⟨ad9, h1, srows_lies h3 h2 (by have := (shufR_perm fo bs no).length_eq; have := HNB.out; omega) (fun _ _ => rfl), hX.trans (h4.mono hX.size)⟩
            have KEX : Hid (∀ X ad9, Below w7.heap.size w7 X → Lies X ad9 N 1 (fun i => [.string (str ((shufR fo bs no).getD i []))]) → Calls Try.prog 23 #[.slice ad9 N N, .agg #[.slice b1 T1.K.length l1, .slice b2 T1.C.length l2, .slice b3 T1.E.length l3]] X fun e w' => e = .returned (.tuple #[.string (str bb), .int .i64 0, .int .i64 0]) ∧ Below w7.heap.size w7 w') := fun X ad9 hX hL =>
              (pextend_any (shufR fo bs no) T1 ad9 N N b1 b2 b3 l1 l2 l3 X hL (by have := (shufR_perm fo bs no).length_eq; have := HNB.out; omega) HSM.out (by omega) (HC8.out.step hX).r.h).mono fun e w' ⟨h1, h2⟩ => ⟨by rw [h1, HXT.out], hX.trans (h2.mono hX.size)⟩
            have HX9 : Hid (∀ X, Below w7.heap.size w7 X → X.cell? ⟨gr, 0, none⟩ = some (.slice b1 T1.K.length l1) ∧ X.cell? ⟨gr, 1, none⟩ = some (.slice b2 T1.C.length l2) ∧ X.cell? ⟨gr, 2, none⟩ = some (.slice b3 T1.E.length l3)) := fun X hX => (HC8.out.step hX).r.c
            clear hext hgw hbb HSM HXT HC6 HL6 hr6
            clear w6
            obtain ⟨x0, x1, x2⟩ := HX9.out _ (Below.refl _ _)
            apply merge
            · intro KEY
              go_region_law (go_simp; first | (go_at_call 14; refine (KSH.out _ (by (repeat (first | exact Below.refl _ _ | refine Below.drew ?_)))).mono ?_; rintro e w9 ⟨ad9, rfl, hl9, hb9⟩; obtain ⟨y0, y1, y2⟩ := HX9.out _ hb9; dsimp only) | (go_at_call 23; refine (KEX.out _ ad9 (by (repeat (first | exact hb9 | refine Below.drew ?_))) (hl9.below (by (repeat (first | exact Below.refl _ _ | refine Below.drew ?_))))).mono ?_; rintro e w10 ⟨rfl, hb10⟩; dsimp only))
              all_goals
                clear hl9 hb9 y0 y1 y2
                clear w9
                revert ad9 w10
                exact KEY.out
            intro ad9 w10 hb10
            have HC10 : Hid (Ch w w10 gn d ⟨go, T0, a1, a2, a3, k1, k2, k3⟩ ⟨gr, T1, b1, b2, b3, l1, l2, l3⟩ ad N cap bs) := HC8.out.step hb10
            clear hb10 HC8 KSH KEX HX9 x0 x1 x2
            clear w7
            have hp1 := str_nonempty HNE.out
            have hp2 := str_nonempty2 HNE.out
            have HV := HC10.out.l
            have HAL : Hid (∀ o, Below w10.heap.size w10 (w10.alloc o)) := fun o => (Below.refl _ _).alloc (Nat.le_refl _) o
            have HSZ : Hid (∀ o, w.heap.size ≤ (w10.alloc o).heap.size) := fun o => Nat.le_trans HC10.out.old.size (HAL.out o).size
            go_wp2_with (at_builtin; refine wpList_pushg (by rfl) _ _ 33 (by rfl) w.heap.size 9 1 16 (.string ⟨#[]⟩) Try.underlying33 (by kernel_rfl) rfl (by decide) ad N cap _ (by rfl) (HV.keep (HAL.out _)) _ _ [.string (str bb)] (by rfl) rfl ?_ ?_ ?_ ?_ ?_ ?_; exact new_cells _ _ _; (intro u hu; simp at hu; subst hu; rfl); (omega); (omega); (exact HSZ.out _); intro gz cz w11 hvv hgg hor)
            have hfin := (HC10.out.step (HAL.out _)).push (bs' := bs ++ [bb]) (by rw [show strs (bs ++ [bb]) = strs bs ++ [.string (str bb)] by simp [strs]]; exact hvv) hgg
            go_roundw
            case rel => exact ⟨i + 1, d, T1, b1, b2, b3, l1, l2, l3, some ⟨gz, 0, none⟩, N + 1, cz, bs ++ [bb], ⟨by omega, by omega⟩, by go_num, rfl, by have := HNI.out; omega, by have := HNB.out; rw [List.length_append, List.length_singleton]; omega, HGX.out, hfin⟩
            case measure => simp [intOf]; omega
      · go_wp2_with fail
        refine (shuffled_any bs ad N cap no fo ao co _ (strs_lies HC.out.l HNB.out) HNB.out (by omega) (HOL.out.1.below HC.out.old) HOL.out.2.2 HOL.out.2.1).mono ?_
        rintro e w20 ⟨g20, ad20, rfl, had20, hown, hb20⟩
        have HL20 : Hid (Lies w20 ad20 N 1 (fun i => [.string (str ((shufR fo bs no).getD i []))])) := srows_lies hown had20 (by have := (shufR_perm fo bs no).length_eq; have := HNB.out; omega) (fun _ _ => rfl)
        have HC20 : Hid (Ch w w20 gn c ⟨go, T0, a1, a2, a3, k1, k2, k3⟩ ⟨gr, T, r1, r2, r3, m1, m2, m3⟩ ad N cap bs) := HC.out.step hb20
        have HLN : Hid (N = (shufR fo bs no).length) := by have := (shufR_perm fo bs no).length_eq; have := HNB.out; show _ = _; omega
        clear hown hb20 HC had20
        go_wp2_with fail
        refine (preplay_any (shufR fo bs no) ad20 N N _ HL20.out HLN.out (short_of HGW.out (shufR_perm fo bs no)) (by omega)).mono ?_
        rintro e w21 ⟨⟨s1, n1, t1, s2, n2, t2, s3, n3, t3, rfl, hLx⟩, hb21⟩
        rw [HGW.out.replay (shufR_perm fo bs no)] at hLx ⊢
        obtain ⟨vx1, vx2, vx3, e1, e2, e3⟩ := hLx
        simp only at e1 e2 e3
        subst e1 e2 e3
        have hal : Below w21.heap.size w21 (w21.alloc (.cells #[.slice s1 T.K.length t1, .slice s2 T.C.length t2, .slice s3 T.E.length t3] 28)) := (Below.refl _ _).alloc (Nat.le_refl _) _
        have HS22 : Hid ((⟨w21.heap.size, T, s1, s2, s3, t1, t2, t3⟩ : Rv).Ok (w21.alloc (.cells #[.slice s1 T.K.length t1, .slice s2 T.C.length t2, .slice s3 T.E.length t3] 28)) 0) := Rv.Ok.new ⟨vx1.mono (Nat.zero_le _), vx2.mono (Nat.zero_le _), vx3.mono (Nat.zero_le _), rfl, rfl, rfl⟩ HC20.out.r.few (Nat.zero_le _)
        have HC22 : Hid (Ch w (w21.alloc (.cells #[.slice s1 T.K.length t1, .slice s2 T.C.length t2, .slice s3 T.E.length t3] 28)) gn c ⟨go, T0, a1, a2, a3, k1, k2, k3⟩ ⟨gr, T, r1, r2, r3, m1, m2, m3⟩ ad N cap bs) := (HC20.out.step hb21).step hal
        clear hal vx1 vx2 vx3 hb21 HC20 HL20
        obtain ⟨z0, z1, z2⟩ := HS22.out.c
        obtain ⟨x0, x1, x2⟩ := HC22.out.r.c
        dsimp only at z0 z1 z2 x0 x1 x2
        go_wp2_with fail
        generalize w21.alloc (.cells #[.slice s1 T.K.length t1, .slice s2 T.C.length t2, .slice s3 T.E.length t3] 28) = X22 at *
        generalize w21.heap.size = gs at *
        clear z0 z1 z2 x0 x1 x2
        clear w21 w20
        refine (same_any T.rep T.rep s1 s2 s3 r1 r2 r3 t1 t2 t3 m1 m2 m3 _ HS22.out.h HC22.out.r.h).mono ?_
        rintro e w23 ⟨bb, ⟨rfl, hsm⟩, hb23⟩
        obtain rfl : bb = true := hsm.2 (same_refl _)
        have HC23 : Hid (Ch w w23 gn c ⟨go, T0, a1, a2, a3, k1, k2, k3⟩ ⟨gr, T, r1, r2, r3, m1, m2, m3⟩ ad N cap bs) := HC22.out.step hb23
        clear hsm hb23 HS22 HC22
        clear X22
        by_cases hN15 : 15 < N
        · go_wp2_with fail
          go_ret
          exact ⟨by first | rfl | simp, HC23.out.old⟩
        · have hN15' : ¬ (15 : Int) < (N : Int) := by omega
          obtain ⟨x0, x1, x2⟩ := HC23.out.o.c
          dsimp only at x0 x1 x2
          go_wp2_with fail
          clear x0 x1 x2
          refine (pextend_any bs T0 ad N cap a1 a2 a3 k1 k2 k3 _ (strs_lies HC23.out.l HNB.out) HNB.out (short_of HGW.out (List.Perm.refl _)) (by omega) HC23.out.o.h).mono ?_
          rintro e w24 ⟨rfl, hb24⟩
          have herr := HGW.out.older HEX.out.2.2 (by have := HNB.out; omega)
          rw [← HT0.out] at herr
          have HC24 : Hid (Ch w w24 gn c ⟨go, T0, a1, a2, a3, k1, k2, k3⟩ ⟨gr, T, r1, r2, r3, m1, m2, m3⟩ ad N cap bs) := HC23.out.step hb24
          clear hb24 HC23
          generalize extendRd bs T0 = xt at *
          obtain ⟨xb, xe, xp⟩ := xt
          dsimp only at herr
          obtain ⟨x0, x1, x2⟩ := HC24.out.r.c
          dsimp only at x0 x1 x2
          by_cases hK : T.K.length = 0
          · rw [if_pos hK] at herr
            subst herr
            rw [hK] at x0
            clear hK
            go_wp2_with fail
            go_ret
            exact ⟨by first | rfl | simp, HC24.out.old⟩
          · rw [if_neg hK] at herr
            subst herr
            have hK2 : ((T.K.length : Int) == 0) = false := by rw [beq_eq_false_iff_ne]; omega
            clear hK
            go_wp2_with fail
            go_ret
            exact ⟨by first | rfl | simp, HC24.out.old⟩
    · go_wp2_with fail
      refine (shuffled_any bs ad N cap no fo ao co _ (strs_lies HC.out.l HNB.out) HNB.out (by omega) (HOL.out.1.below HC.out.old) HOL.out.2.2 HOL.out.2.1).mono ?_
      rintro e w20 ⟨g20, ad20, rfl, had20, hown, hb20⟩
      have HL20 : Hid (Lies w20 ad20 N 1 (fun i => [.string (str ((shufR fo bs no).getD i []))])) := srows_lies hown had20 (by have := (shufR_perm fo bs no).length_eq; have := HNB.out; omega) (fun _ _ => rfl)
      have HC20 : Hid (Ch w w20 gn c ⟨go, T0, a1, a2, a3, k1, k2, k3⟩ ⟨gr, T, r1, r2, r3, m1, m2, m3⟩ ad N cap bs) := HC.out.step hb20
      have HLN : Hid (N = (shufR fo bs no).length) := by have := (shufR_perm fo bs no).length_eq; have := HNB.out; show _ = _; omega
      clear hown hb20 HC had20
      go_wp2_with fail
      refine (preplay_any (shufR fo bs no) ad20 N N _ HL20.out HLN.out (short_of HGW.out (shufR_perm fo bs no)) (by omega)).mono ?_
      rintro e w21 ⟨⟨s1, n1, t1, s2, n2, t2, s3, n3, t3, rfl, hLx⟩, hb21⟩
      rw [HGW.out.replay (shufR_perm fo bs no)] at hLx ⊢
      obtain ⟨vx1, vx2, vx3, e1, e2, e3⟩ := hLx
      simp only at e1 e2 e3
      subst e1 e2 e3
      have hal : Below w21.heap.size w21 (w21.alloc (.cells #[.slice s1 T.K.length t1, .slice s2 T.C.length t2, .slice s3 T.E.length t3] 28)) := (Below.refl _ _).alloc (Nat.le_refl _) _
      have HS22 : Hid ((⟨w21.heap.size, T, s1, s2, s3, t1, t2, t3⟩ : Rv).Ok (w21.alloc (.cells #[.slice s1 T.K.length t1, .slice s2 T.C.length t2, .slice s3 T.E.length t3] 28)) 0) := Rv.Ok.new ⟨vx1.mono (Nat.zero_le _), vx2.mono (Nat.zero_le _), vx3.mono (Nat.zero_le _), rfl, rfl, rfl⟩ HC20.out.r.few (Nat.zero_le _)
      have HC22 : Hid (Ch w (w21.alloc (.cells #[.slice s1 T.K.length t1, .slice s2 T.C.length t2, .slice s3 T.E.length t3] 28)) gn c ⟨go, T0, a1, a2, a3, k1, k2, k3⟩ ⟨gr, T, r1, r2, r3, m1, m2, m3⟩ ad N cap bs) := (HC20.out.step hb21).step hal
      clear hal vx1 vx2 vx3 hb21 HC20 HL20
      obtain ⟨z0, z1, z2⟩ := HS22.out.c
      obtain ⟨x0, x1, x2⟩ := HC22.out.r.c
      dsimp only at z0 z1 z2 x0 x1 x2
      go_wp2_with fail
      generalize w21.alloc (.cells #[.slice s1 T.K.length t1, .slice s2 T.C.length t2, .slice s3 T.E.length t3] 28) = X22 at *
      generalize w21.heap.size = gs at *
      clear z0 z1 z2 x0 x1 x2
      clear w21 w20
      refine (same_any T.rep T.rep s1 s2 s3 r1 r2 r3 t1 t2 t3 m1 m2 m3 _ HS22.out.h HC22.out.r.h).mono ?_
      rintro e w23 ⟨bb, ⟨rfl, hsm⟩, hb23⟩
      obtain rfl : bb = true := hsm.2 (same_refl _)
      have HC23 : Hid (Ch w w23 gn c ⟨go, T0, a1, a2, a3, k1, k2, k3⟩ ⟨gr, T, r1, r2, r3, m1, m2, m3⟩ ad N cap bs) := HC22.out.step hb23
      clear hsm hb23 HS22 HC22
      clear X22
      by_cases hN15 : 15 < N
      · go_wp2_with fail
        go_ret
        exact ⟨by first | rfl | simp, HC23.out.old⟩
      · have hN15' : ¬ (15 : Int) < (N : Int) := by omega
        obtain ⟨x0, x1, x2⟩ := HC23.out.o.c
        dsimp only at x0 x1 x2
        go_wp2_with fail
        clear x0 x1 x2
        refine (pextend_any bs T0 ad N cap a1 a2 a3 k1 k2 k3 _ (strs_lies HC23.out.l HNB.out) HNB.out (short_of HGW.out (List.Perm.refl _)) (by omega) HC23.out.o.h).mono ?_
        rintro e w24 ⟨rfl, hb24⟩
        have herr := HGW.out.older HEX.out.2.2 (by have := HNB.out; omega)
        rw [← HT0.out] at herr
        have HC24 : Hid (Ch w w24 gn c ⟨go, T0, a1, a2, a3, k1, k2, k3⟩ ⟨gr, T, r1, r2, r3, m1, m2, m3⟩ ad N cap bs) := HC23.out.step hb24
        clear hb24 HC23
        generalize extendRd bs T0 = xt at *
        obtain ⟨xb, xe, xp⟩ := xt
        dsimp only at herr
        obtain ⟨x0, x1, x2⟩ := HC24.out.r.c
        dsimp only at x0 x1 x2
        by_cases hK : T.K.length = 0
        · rw [if_pos hK] at herr
          subst herr
          rw [hK] at x0
          clear hK
          go_wp2_with fail
          go_ret
          exact ⟨by first | rfl | simp, HC24.out.old⟩
        · rw [if_neg hK] at herr
          subst herr
          have hK2 : ((T.K.length : Int) == 0) = false := by rw [beq_eq_false_iff_ne]; omega
          clear hK
          go_wp2_with fail
          go_ret
          exact ⟨by first | rfl | simp, HC24.out.old⟩

end Go.Proofs.Ytdjpkgaicmklmab

