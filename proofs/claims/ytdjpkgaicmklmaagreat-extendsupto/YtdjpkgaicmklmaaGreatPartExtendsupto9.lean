/- Texts of the proof, one behind the other; what each holds is said at its head. -/
import Derived.Test.YtdjpkgaicmklmaaGreatPartExtendsupto8
import Derived.Test.YtdjpkgaicmklmaaGreatPartExtendsupto6
import Derived.Deep.DeepCutAuto
import Derived.Test.YtdjpkgaicmklmaaGreatPartExtendsupto7
import Derived.Deep.QuietTactic
import Derived.BigQuiet
import Derived.Deep.RegionLaw
import Derived.Test.YtdjpkgaicmklmaaGreatPartExtendsupto4
/- chainOf and Replay of the program: walked. -/
namespace Go.Proofs.YtdjpkgaicmklmaaGreat
open Go.RowKit

/-- What chainOf answers. -/
def ChainAns (x : Ans) (q0 : Int) (B : Nat) (e : Ending) (w' : World) : Prop := ∃ a1 n1 c1 a2 n2 c2 a3 n3 c3 q, e = .returned (.tuple #[.agg (chC a1 n1 c1 a2 n2 c2 a3 n3 c3 q).toArray, .int .i64 x.err, .int .i64 x.place]) ∧ Lists w' B x.K x.C x.E a1 n1 c1 a2 n2 c2 a3 n3 c3 ∧ (x.err = 0 → q = q0)
section
variable {l : List (List UInt8)}
theorem replay_many (h : 16 < l.length) : replayRd l = ansErr 1 0 := by unfold replayRd; rw [if_pos h]
theorem replay_read (h : ¬ 16 < l.length) (h4 : lkErr l ≠ 0) : replayRd l = ansErr (lkErr l) (lkN l) := by
  unfold replayRd; rw [if_neg h]
  unfold lkErr lkN at *
  cases hf : firstOf (bad4 l) l.length with
  | some i => rfl
  | none => rw [hf] at h4; exact absurd rfl h4
theorem lk_none (h4 : lkErr l = 0) : firstOf (bad4 l) l.length = none ∧ lkN l = l.length := by
  unfold lkErr at h4; unfold lkN
  cases hf : firstOf (bad4 l) l.length with
  | some i =>
    rw [hf] at h4
    have := (firstOf_some.mp hf).1
    have h5 : (readRd (l.getD i [])).err = 0 := h4
    unfold bad4 at this
    rw [h5] at this
    cases this
  | none => exact ⟨rfl, rfl⟩
theorem replay_twice (h : ¬ 16 < l.length) (h4 : lkErr l = 0) {i : Nat} (h5 : firstOf (bad5 l) l.length = some i) : replayRd l = ansErr 15 i := by
  unfold replayRd; rw [if_neg h, (lk_none h4).1, h5]
theorem replay_missing (h : ¬ 16 < l.length) (h4 : lkErr l = 0) (h5 : firstOf (bad5 l) l.length = none) (h6 : l.length = 0 ∨ (firstOf (bad6 l) l.length).isSome = true) : replayRd l = ansErr 16 0 := by
  unfold replayRd; rw [if_neg h, (lk_none h4).1, h5]; simp only; rw [if_pos h6]
theorem replay_base (h : ¬ 16 < l.length) (h4 : lkErr l = 0) (h5 : firstOf (bad5 l) l.length = none) (h6 : ¬ (l.length = 0 ∨ (firstOf (bad6 l) l.length).isSome = true)) {i : Nat} (h7 : firstOf (bad7 l) l.length = some i) : replayRd l = ansErr 17 i := by
  unfold replayRd; rw [if_neg h, (lk_none h4).1, h5]; simp only; rw [if_neg h6, h7]
theorem replay_last (h : ¬ 16 < l.length) (h4 : lkErr l = 0) (h5 : firstOf (bad5 l) l.length = none) (h6 : ¬ (l.length = 0 ∨ (firstOf (bad6 l) l.length).isSome = true)) (h7 : firstOf (bad7 l) l.length = none) :
    replayRd l = if (chainSt l (l.length - 1)).rep.chk = 0 then ⟨0, 0, 0, 0, (chainSt l (l.length - 1)).K, (chainSt l (l.length - 1)).C, (chainSt l (l.length - 1)).E⟩ else ansErr (chainSt l (l.length - 1)).rep.chk 0 := by
  unfold replayRd; rw [if_neg h, (lk_none h4).1, h5]; simp only; rw [if_neg h6, h7]
end

set_option maxRecDepth 100000 in
set_option maxHeartbeats 8000000 in
theorem chainOf_any (l : List (List UInt8)) (ad0 : Option Addr) (N cap0 : Nat) (w : World) (hL : Lies w ad0 N 1 (fun i => [.string (str (l.getD i []))])) (hN : N = l.length) (hl : ∀ v, v ∈ l → v.length ≤ 1048576) (hb : N ≤ 1048576) :
    Calls Tryz.prog 21 #[.slice ad0 N cap0] w fun e w' => ChainAns (replayRd l) (sealR (linkR l ((l.length - 1 : Nat) : Int))) w.heap.size e w' ∧ Below w.heap.size w w' := by
  obtain ⟨hR, hW, hB⟩ := one_box w 53 (chC none 0 0 none 0 0 none 0 0 0).toArray
  have HR0 : Hid (Bx (w.alloc (.cells (chC none 0 0 none 0 0 none 0 0 0).toArray 53)) w.heap.size 53 (chC none 0 0 none 0 0 none 0 0 0) ∧ Below w.heap.size w (w.alloc (.cells (chC none 0 0 none 0 0 none 0 0 0).toArray 53)) ∧ (w.alloc (.cells (chC none 0 0 none 0 0 none 0 0 0).toArray 53)).heap.size = w.heap.size + 1) := ⟨hR, hB, hW⟩
  have HN : Hid (N = l.length) := hN
  have HL : Hid (∀ v, v ∈ l → v.length ≤ 1048576) := hl
  have HLI : Hid (Lies w ad0 N 1 (fun i => [.string (str (l.getD i []))])) := hL
  clear hN hl hL hR hW hB
  by_cases h16 : 16 < N
  · have E : Hid (replayRd l = ansErr 1 0) := replay_many (by rw [← HN.out]; exact h16)
    have hr := HR0.out.1
    have hd : decide ((16 : Int) < (N : Int)) = true := decide_eq_true (by omega)
    go_enter Tryz.func21, Tryz.ntmps21
    go_wp2_with (refine wpList_bstore (by rfl) _ _ _ (by rfl) w.heap.size 53 (by rfl) _ _ (by rfl) hr 4 (by rfl) (by kernel_rfl) (by rfl) (by intro x hx; simp at hx; rcases hx with rfl | rfl <;> rfl) ?_; intro w9 hr9 hu9)
    exact bodyPost_ret (v := .tuple #[.agg (chC none 0 0 none 0 0 none 0 0 0).toArray, .int .i64 1, .int .i64 0]) (results_box3 (by rfl) _ _ w.heap.size 53 _ _ _ _ (by rfl) hr9 (by rfl) (by rfl) Tryz.underlying53 (by rfl) 4 (by rfl) (by kernel_rfl)) rfl ⟨⟨none, 0, 0, none, 0, 0, none, 0, 0, 0, by rw [E.out]; rfl, by rw [E.out]; exact Lists.nil _ _, by rw [E.out]; intro h; cases h⟩, hu9.below HR0.out.2.1 (Nat.le_refl _)⟩
  · have H16 : Hid (¬ 16 < l.length) := by rw [← HN.out]; exact h16
    have hd : decide ((16 : Int) < (N : Int)) = false := decide_eq_false (by omega)
    have hN16 : N ≤ 16 := by omega
    go_enter Tryz.func21, Tryz.ntmps21
    go_wp2_with fail
    refine (linksOf_any l ad0 N cap0 _ (HLI.out.below HR0.out.2.1) HN.out HL.out (by omega)).mono ?_
    rintro e w1 ⟨ad, cap, k, L, rfl, hk, hmap, hv, hsl, hb1⟩
    have HB1 : Hid (Bx w1 w.heap.size 53 (chC none 0 0 none 0 0 none 0 0 0) ∧ Below w.heap.size w w1 ∧ w.heap.size + 1 ≤ w1.heap.size) := ⟨HR0.out.1.below hb1 HR0.out.1.lt, HR0.out.2.1.trans (hb1.mono HR0.out.2.1.size), by rw [← HR0.out.2.2]; exact hb1.size⟩
    have HV1 : Hid (Vec w1 (w.heap.size + 1) 94 6 ad k cap (slc L) ∧ Sls w1 (w.heap.size + 1) L) := by rw [HR0.out.2.2] at hv hsl; exact ⟨hv, hsl⟩
    have HK : Hid (k = L.length) := hk
    have HMAP : Hid (L.map Sl.b = l.take (lkN l)) := hmap
    clear hk hmap hv hsl hb1 HR0 HLI
    by_cases h4 : lkErr l = 0
    · have hkn := (lk_none h4).2
      have HM2 : Hid (L.map Sl.b = l) := by show _ = _; rw [HMAP.out, hkn, List.take_length]
      have HKL : Hid (k = l.length) := by show _ = _; rw [HK.out]; exact sl_len HM2.out
      have hk16 : k ≤ 16 := by have := HKL.out; have := HN.out; omega
      have HE4 : Hid (lkErr l = 0) := h4
      have HLB : Hid (∀ s ∈ L, s.b.length ≤ 1048576) := fun s hs => HL.out _ (by rw [← HM2.out]; exact List.mem_map_of_mem hs)
      rw [h4]
      clear h4 hkn HMAP
      go_wp2_with fail
      refine (cfirstTwice_any L ad k cap _ HK.out (by omega) (slvec_lies HV1.out.1 HK.out)).mono ?_
      rintro e w2 ⟨rfl, rfl⟩
      have hc5 : firstOf (twB L) k = firstOf (bad5 l) l.length := by rw [HKL.out]; exact firstOf_congr (fun i hi => tw_bad5 HM2.out (by rw [sl_len HM2.out]; exact hi))
      rw [hc5]
      clear hc5
      cases h5 : firstOf (bad5 l) l.length with
      | some i =>
        have E : Hid (replayRd l = ansErr 15 i) := replay_twice H16.out HE4.out h5
        have hik : i < k := by have := (firstOf_some.mp h5).2.1; rw [HKL.out]; exact this
        have hr := HB1.out.1
        clear h5
        simp only [Option.getD_some]
        go_wp2_with (refine wpList_bstore (by rfl) _ _ _ (by rfl) w.heap.size 53 (by rfl) _ _ (by rfl) hr 4 (by rfl) (by kernel_rfl) (by rfl) (by intro x hx; simp at hx; rcases hx with rfl | rfl <;> rfl) ?_; intro w9 hr9 hu9)
        exact bodyPost_ret (v := .tuple #[.agg (chC none 0 0 none 0 0 none 0 0 0).toArray, .int .i64 15, .int .i64 (i : Int)]) (results_box3 (by rfl) _ _ w.heap.size 53 _ _ _ _ (by rfl) hr9 (by rfl) (by rfl) Tryz.underlying53 (by rfl) 4 (by rfl) (by kernel_rfl)) rfl ⟨⟨none, 0, 0, none, 0, 0, none, 0, 0, 0, by rw [E.out]; rfl, by rw [E.out]; exact Lists.nil _ _, by rw [E.out]; intro h; cases h⟩, hu9.below HB1.out.2.1 (Nat.le_refl _)⟩
      | none =>
        have H5 : Hid (firstOf (bad5 l) l.length = none) := h5
        simp only [Option.getD_none]
        clear h5
        go_wp2_with fail
        refine (inOrder_any L ad k cap _ (slvec_lies HV1.out.1 HK.out) HK.out (by omega)).mono ?_
        rintro e w3 ⟨ad3, cap3, N3, rfl, hN3, hv3, hb3⟩
        have HB3 : Hid (Bx w3 w.heap.size 53 (chC none 0 0 none 0 0 none 0 0 0) ∧ Below w.heap.size w w3 ∧ w.heap.size + 1 ≤ w3.heap.size) := ⟨HB1.out.1.below hb3 HB1.out.1.lt, HB1.out.2.1.trans (hb3.mono HB1.out.2.1.size), Nat.le_trans HB1.out.2.2 hb3.size⟩
        have HV3 : Hid (Vec w3 (w.heap.size + 1) 94 6 ad k cap (slc L) ∧ Sls w3 (w.heap.size + 1) L ∧ Vec w3 (w.heap.size + 1) 94 6 ad3 N3 cap3 (slc (ordTo L L.length))) := ⟨HV1.out.1.keep hb3, HV1.out.2.keep hb3, by rw [← HK.out]; exact hv3.mono HB1.out.2.2⟩
        have HN3 : Hid (N3 = (ordTo L L.length).length) := by show _ = _; rw [← HK.out]; exact hN3
        have hN3k : N3 ≤ k := by rw [hN3]; exact ordTo_le L k
        have HMI : Hid ((firstOf (bad6 l) l.length).isSome = true ↔ N3 < k) := by rw [HN3.out, HK.out]; exact missing_iff HM2.out
        have hr := HB3.out.1
        clear hN3 hv3 hb3 HB1 HV1
        by_cases hk0 : k = 0
        · have E : Hid (replayRd l = ansErr 16 0) := replay_missing H16.out HE4.out H5.out (Or.inl (by rw [← HKL.out]; exact hk0))
          have q0 : ((k : Int) == 0) = true := by rw [hk0]; rfl
          clear hk0
          go_wp2_with (refine wpList_bstore (by rfl) _ _ _ (by rfl) w.heap.size 53 (by rfl) _ _ (by rfl) hr 4 (by rfl) (by kernel_rfl) (by rfl) (by intro x hx; simp at hx; rcases hx with rfl | rfl <;> rfl) ?_; intro w9 hr9 hu9)
          exact bodyPost_ret (v := .tuple #[.agg (chC none 0 0 none 0 0 none 0 0 0).toArray, .int .i64 16, .int .i64 0]) (results_box3 (by rfl) _ _ w.heap.size 53 _ _ _ _ (by rfl) hr9 (by rfl) (by rfl) Tryz.underlying53 (by rfl) 4 (by rfl) (by kernel_rfl)) rfl ⟨⟨none, 0, 0, none, 0, 0, none, 0, 0, 0, by rw [E.out]; rfl, by rw [E.out]; exact Lists.nil _ _, by rw [E.out]; intro h; cases h⟩, hu9.below HB3.out.2.1 (Nat.le_refl _)⟩
        · have q0 : ((k : Int) == 0) = false := by rw [beq_eq_false_iff_ne]; omega
          by_cases h6 : N3 < k
          · have E : Hid (replayRd l = ansErr 16 0) := replay_missing H16.out HE4.out H5.out (Or.inr (HMI.out.2 h6))
            have q1 : decide ((N3 : Int) < (k : Int)) = true := decide_eq_true (by omega)
            go_wp2_with (refine wpList_bstore (by rfl) _ _ _ (by rfl) w.heap.size 53 (by rfl) _ _ (by rfl) hr 4 (by rfl) (by kernel_rfl) (by rfl) (by intro x hx; simp at hx; rcases hx with rfl | rfl <;> rfl) ?_; intro w9 hr9 hu9)
            exact bodyPost_ret (v := .tuple #[.agg (chC none 0 0 none 0 0 none 0 0 0).toArray, .int .i64 16, .int .i64 0]) (results_box3 (by rfl) _ _ w.heap.size 53 _ _ _ _ (by rfl) hr9 (by rfl) (by rfl) Tryz.underlying53 (by rfl) 4 (by rfl) (by kernel_rfl)) rfl ⟨⟨none, 0, 0, none, 0, 0, none, 0, 0, 0, by rw [E.out]; rfl, by rw [E.out]; exact Lists.nil _ _, by rw [E.out]; intro h; cases h⟩, hu9.below HB3.out.2.1 (Nat.le_refl _)⟩
          · have q1 : decide ((N3 : Int) < (k : Int)) = false := decide_eq_false (by omega)
            have H6 : Hid (¬ (l.length = 0 ∨ (firstOf (bad6 l) l.length).isSome = true)) := by
              rintro (h | h)
              · rw [← HKL.out] at h; omega
              · exact h6 (HMI.out.1 h)
            have HALL : Hid (∀ n : Nat, n < L.length → slIx L (n : Int) < L.length) := all_there (by rw [← HN3.out, ← HK.out]; exact h6)
            obtain ⟨k1, hk1⟩ : ∃ k1, k = k1 + 1 := ⟨k - 1, by omega⟩
            have HN3k : Hid (N3 = k1 + 1) := by show _ = _; omega
            have HK1 : Hid (l.length - 1 = k1) := by show _ = _; rw [← HKL.out]; omega
            have HFT : Hid (foldT (ordTo L L.length) N3 = chainSt l (l.length - 1)) := by show _ = _; rw [HN3k.out, HK1.out]; exact fold_chain HM2.out HALL.out k1 (by rw [← HK.out]; omega)
            have HSA : Hid (sealAt (ordTo L L.length) N3 = sealR (linkR l ((l.length - 1 : Nat) : Int))) := by show _ = _; rw [HN3k.out, HK1.out]; show sealR ((ordTo L L.length).getD k1 sl0).b = _; rw [ord_link HM2.out HALL.out (by rw [← HK.out]; omega)]
            have hc7 : firstOf (lsB L (ordTo L L.length)) k = firstOf (bad7 l) l.length := by rw [HKL.out]; exact firstOf_congr (fun i hi => ls_bad7 HM2.out HALL.out (by rw [sl_len HM2.out]; exact hi))
            have HC7 : Hid (firstOf (lsB L (ordTo L L.length)) k = firstOf (bad7 l) l.length) := hc7
            have q2 : ¬ (N3 : Int) < (k : Int) := by omega
            clear hc7 hk0 hk1 HMI
            go_wp2_with fail
            refine (firstLoose_any L (ordTo L L.length) ad ad3 k N3 cap cap3 _ (slvec_lies HV3.out.1 HK.out) (slvec_lies HV3.out.2.2 HN3.out) HK.out HN3.out (by omega) (by omega)).mono ?_
            rintro e w4 ⟨rfl, hb4⟩
            rw [HC7.out]
            have HB4 : Hid (Bx w4 w.heap.size 53 (chC none 0 0 none 0 0 none 0 0 0) ∧ Below w.heap.size w w4 ∧ w.heap.size + 1 ≤ w4.heap.size) := ⟨HB3.out.1.below hb4 HB3.out.1.lt, HB3.out.2.1.trans (hb4.mono HB3.out.2.1.size), Nat.le_trans HB3.out.2.2 hb4.size⟩
            have HV4 : Hid (Sls w4 (w.heap.size + 1) L ∧ Vec w4 (w.heap.size + 1) 94 6 ad3 N3 cap3 (slc (ordTo L L.length))) := ⟨HV3.out.2.1.keep hb4, HV3.out.2.2.keep hb4⟩
            clear hb4 HB3 HV3 hr
            have hr := HB4.out.1
            cases h7 : firstOf (bad7 l) l.length with
            | some i =>
              have E : Hid (replayRd l = ansErr 17 i) := replay_base H16.out HE4.out H5.out H6.out h7
              have hik : i < k := by have := (firstOf_some.mp h7).2.1; rw [HKL.out]; exact this
              clear h7
              simp only [Option.getD_some]
              go_wp2_with (refine wpList_bstore (by rfl) _ _ _ (by rfl) w.heap.size 53 (by rfl) _ _ (by rfl) hr 4 (by rfl) (by kernel_rfl) (by rfl) (by intro x hx; simp at hx; rcases hx with rfl | rfl <;> rfl) ?_; intro w9 hr9 hu9)
              exact bodyPost_ret (v := .tuple #[.agg (chC none 0 0 none 0 0 none 0 0 0).toArray, .int .i64 17, .int .i64 (i : Int)]) (results_box3 (by rfl) _ _ w.heap.size 53 _ _ _ _ (by rfl) hr9 (by rfl) (by rfl) Tryz.underlying53 (by rfl) 4 (by rfl) (by kernel_rfl)) rfl ⟨⟨none, 0, 0, none, 0, 0, none, 0, 0, 0, by rw [E.out]; rfl, by rw [E.out]; exact Lists.nil _ _, by rw [E.out]; intro h; cases h⟩, hu9.below HB4.out.2.1 (Nat.le_refl _)⟩
            | none =>
              have HLAST : Hid (replayRd l = if (chainSt l (l.length - 1)).rep.chk = 0 then ⟨0, 0, 0, 0, (chainSt l (l.length - 1)).K, (chainSt l (l.length - 1)).C, (chainSt l (l.length - 1)).E⟩ else ansErr (chainSt l (l.length - 1)).rep.chk 0) := replay_last H16.out HE4.out H5.out H6.out h7
              simp only [Option.getD_none]
              clear h7
              have HFEW : Hid ((chainSt l (l.length - 1)).K.length ≤ 16777216 ∧ (chainSt l (l.length - 1)).C.length ≤ 16777216 ∧ (chainSt l (l.length - 1)).E.length ≤ 1048576) := by
                have h := foldT_few (ordTo L L.length) (fun s hs => HLB.out s (ordTo_mem hs)) N3 (by rw [← HN3.out]; exact Nat.le_refl _)
                rw [HFT.out] at h
                have : N3 * 1048576 ≤ 16 * 1048576 := Nat.mul_le_mul_right _ (by omega)
                exact ⟨by omega, by omega, h.2.2⟩
              have KL : Hid (Calls Tryz.prog 43 #[.slice ad3 N3 cap3] w4 fun e w' => ∃ c1 d1 c2 d2 c3 d3, e = .returned (.agg (chC c1 (chainSt l (l.length - 1)).K.length d1 c2 (chainSt l (l.length - 1)).C.length d2 c3 (chainSt l (l.length - 1)).E.length d3 (sealR (linkR l ((l.length - 1 : Nat) : Int)))).toArray) ∧ Lists w' w4.heap.size (chainSt l (l.length - 1)).K (chainSt l (l.length - 1)).C (chainSt l (l.length - 1)).E c1 (chainSt l (l.length - 1)).K.length d1 c2 (chainSt l (l.length - 1)).C.length d2 c3 (chainSt l (l.length - 1)).E.length d3 ∧ Below w4.heap.size w4 w') := by
                have h := plaid_any (ordTo L L.length) ad3 N3 cap3 w4 (slvec_lies HV4.out.2 HN3.out) HN3.out (by omega) (fun s hs => (HV4.out.1 s (ordTo_mem hs)).mono (Nat.zero_le _)) (fun s hs => HLB.out s (ordTo_mem hs))
                rw [HFT.out, HSA.out] at h
                exact h
              clear HFT HSA HC7 HALL H5 H6 HM2 HV4
              generalize chainSt l (l.length - 1) = TC at *
              obtain ⟨qv, hqv⟩ : ∃ q, sealR (linkR l ((l.length - 1 : Nat) : Int)) = q := ⟨_, rfl⟩
              rw [hqv] at KL
              have HQV : Hid (sealR (linkR l ((l.length - 1 : Nat) : Int)) = qv) := hqv
              clear hqv
              go_wp2_with fail
              refine KL.out.mono ?_
              rintro e w5 ⟨c1, d1, c2, d2, c3, d3, rfl, hL5, hb5⟩
              have hal : Below w5.heap.size w5 (w5.alloc (.cells (chC c1 TC.K.length d1 c2 TC.C.length d2 c3 TC.E.length d3 qv).toArray 53)) := (Below.refl _ _).alloc (Nat.le_refl _) _
              have hs5 : Below w4.heap.size w4 (w5.alloc (.cells (chC c1 TC.K.length d1 c2 TC.C.length d2 c3 TC.E.length d3 qv).toArray 53)) := hb5.trans (hal.mono hb5.size)
              have HB5 : Hid (Bx (w5.alloc (.cells (chC c1 TC.K.length d1 c2 TC.C.length d2 c3 TC.E.length d3 qv).toArray 53)) w.heap.size 53 (chC none 0 0 none 0 0 none 0 0 0) ∧ Below w.heap.size w (w5.alloc (.cells (chC c1 TC.K.length d1 c2 TC.C.length d2 c3 TC.E.length d3 qv).toArray 53))) := ⟨HB4.out.1.below hs5 HB4.out.1.lt, HB4.out.2.1.trans (hs5.mono HB4.out.2.1.size)⟩
              have HC5 : Hid (Bx (w5.alloc (.cells (chC c1 TC.K.length d1 c2 TC.C.length d2 c3 TC.E.length d3 qv).toArray 53)) w5.heap.size 53 (chC c1 TC.K.length d1 c2 TC.C.length d2 c3 TC.E.length d3 qv)) := Bx.new _ _ _
              have HL5 : Hid (Lists (w5.alloc (.cells (chC c1 TC.K.length d1 c2 TC.C.length d2 c3 TC.E.length d3 qv).toArray 53)) (w.heap.size + 1) TC.K TC.C TC.E c1 TC.K.length d1 c2 TC.C.length d2 c3 TC.E.length d3) := (hL5.mono HB4.out.2.2).keep hal
              clear hL5 hb5 hal hs5 HB4 KL hr
              have z0 := HC5.out.cell 0; have z1 := HC5.out.cell 1; have z2 := HC5.out.cell 2
              dsimp only [List.getElem?_cons_zero, List.getElem?_cons_succ] at z0 z1 z2
              go_wp2_with fail
              generalize w5.alloc (.cells (chC c1 TC.K.length d1 c2 TC.C.length d2 c3 TC.E.length d3 qv).toArray 53) = X5 at *
              generalize w5.heap.size = gc at *
              clear w5 z0 z1 z2
              refine (check_any TC.rep c1 c2 c3 d1 d2 d3 _ (HL5.out.has (by have := HFEW.out; omega) (by have := HFEW.out; omega) (by have := HFEW.out; omega)).1).mono ?_
              rintro e w6 ⟨rfl, hb6⟩
              have HB6 : Hid (Bx w6 w.heap.size 53 (chC none 0 0 none 0 0 none 0 0 0) ∧ Below w.heap.size w w6) := ⟨HB5.out.1.below hb6 HB5.out.1.lt, HB5.out.2.trans (hb6.mono HB5.out.2.size)⟩
              have hC6 := HC5.out.below hb6 HC5.out.lt
              have HL6 : Hid (Lists w6 (w.heap.size + 1) TC.K TC.C TC.E c1 TC.K.length d1 c2 TC.C.length d2 c3 TC.E.length d3) := HL5.out.keep hb6
              have hr := HB6.out.1
              clear hb6 HB5 HC5 HL5
              by_cases hck : TC.rep.chk = 0
              · have E : Hid (replayRd l = ⟨0, 0, 0, 0, TC.K, TC.C, TC.E⟩) := by show _ = _; rw [HLAST.out, if_pos hck]
                rw [hck]
                clear hck HLAST
                go_wp2_with (first
                  | (refine wpList_bload (by rfl) _ _ (by rfl) gc 53 (by rfl) _ hC6 _ Tryz.underlying53 (by rfl) 4 (by rfl) (by kernel_rfl) ?_)
                  | (refine wpList_bstore (by rfl) _ _ _ (by rfl) w.heap.size 53 (by rfl) _ _ (by rfl) hr 4 (by rfl) (by kernel_rfl) (by rfl) (by intro x hx; simp at hx; rcases hx with rfl | rfl | rfl | rfl <;> rfl) ?_; intro w9 hr9 hu9))
                exact bodyPost_ret (v := .tuple #[.agg (chC c1 TC.K.length d1 c2 TC.C.length d2 c3 TC.E.length d3 qv).toArray, .int .i64 0, .int .i64 0]) (results_box3 (by rfl) _ _ w.heap.size 53 _ _ _ _ (by rfl) hr9 (by rfl) (by rfl) Tryz.underlying53 (by rfl) 4 (by rfl) (by kernel_rfl)) rfl ⟨⟨c1, _, d1, c2, _, d2, c3, _, d3, qv, by rw [E.out], by rw [E.out]; exact (HL6.out.upd hu9 (by omega)).mono (by omega), fun _ => HQV.out.symm⟩, hu9.below HB6.out.2 (Nat.le_refl _)⟩
              · have E : Hid (replayRd l = ansErr TC.rep.chk 0) := by show _ = _; rw [HLAST.out, if_neg hck]
                have hcb : (TC.rep.chk != 0) = true := bne_iff_ne.mpr hck
                have HCK : Hid (TC.rep.chk ≠ 0) := hck
                clear hck HLAST
                go_wp2_with (refine wpList_bstore (by rfl) _ _ _ (by rfl) w.heap.size 53 (by rfl) _ _ (by rfl) hr 4 (by rfl) (by kernel_rfl) (by rfl) (by intro x hx; simp at hx; rcases hx with rfl | rfl <;> rfl) ?_; intro w9 hr9 hu9)
                exact bodyPost_ret (v := .tuple #[.agg (chC none 0 0 none 0 0 none 0 0 0).toArray, .int .i64 TC.rep.chk, .int .i64 0]) (results_box3 (by rfl) _ _ w.heap.size 53 _ _ _ _ (by rfl) hr9 (by rfl) (by rfl) Tryz.underlying53 (by rfl) 4 (by rfl) (by kernel_rfl)) rfl ⟨⟨none, 0, 0, none, 0, 0, none, 0, 0, 0, by rw [E.out]; rfl, by rw [E.out]; exact Lists.nil _ _, by rw [E.out]; intro h; exact absurd h HCK.out⟩, hu9.below HB6.out.2 (Nat.le_refl _)⟩
    · have E : Hid (replayRd l = ansErr (lkErr l) (lkN l)) := replay_read H16.out h4
      have HKN : Hid ((k : Int) = (lkN l : Int)) := by
        show _ = _
        have := congrArg List.length HMAP.out
        rw [List.length_map, List.length_take, ← HK.out] at this
        have h2 : lkN l ≤ l.length := by
          unfold lkN
          cases hf : firstOf (bad4 l) l.length with
          | some i => have := (firstOf_some.mp hf).2.1; simp; omega
          | none => simp
        omega
      have hcb : (lkErr l != 0) = true := bne_iff_ne.mpr h4
      have hr := HB1.out.1
      have HE4 : Hid (lkErr l ≠ 0) := h4
      clear h4
      go_wp2_with (refine wpList_bstore (by rfl) _ _ _ (by rfl) w.heap.size 53 (by rfl) _ _ (by rfl) hr 4 (by rfl) (by kernel_rfl) (by rfl) (by intro x hx; simp at hx; rcases hx with rfl | rfl <;> rfl) ?_; intro w9 hr9 hu9)
      exact bodyPost_ret (v := .tuple #[.agg (chC none 0 0 none 0 0 none 0 0 0).toArray, .int .i64 (lkErr l), .int .i64 (k : Int)]) (results_box3 (by rfl) _ _ w.heap.size 53 _ _ _ _ (by rfl) hr9 (by rfl) (by rfl) Tryz.underlying53 (by rfl) 4 (by rfl) (by kernel_rfl)) rfl ⟨⟨none, 0, 0, none, 0, 0, none, 0, 0, 0, by rw [E.out, HKN.out]; rfl, by rw [E.out]; exact Lists.nil _ _, by rw [E.out]; intro h; exact absurd h HE4.out⟩, hu9.below HB1.out.2.1 (Nat.le_refl _)⟩

/-- What Replay answers. -/
def ReplayAns (x : Ans) (B : Nat) (e : Ending) (w' : World) : Prop := ∃ a1 n1 c1 a2 n2 c2 a3 n3 c3, e = .returned (.tuple #[.agg #[.slice a1 n1 c1, .slice a2 n2 c2, .slice a3 n3 c3], .int .i64 x.err, .int .i64 x.place]) ∧ Lists w' B x.K x.C x.E a1 n1 c1 a2 n2 c2 a3 n3 c3

end Go.Proofs.YtdjpkgaicmklmaaGreat

/- parcelref.Replay: walked. -/
namespace Go.Proofs.YtdjpkgaicmklmaaGreat
open Go.RowKit

theorem link_short {l : List (List UInt8)} (h : ∀ v, v ∈ l → v.length ≤ 1048576) (q : Int) : (linkR l q).length ≤ 1048576 := by
  unfold linkR
  by_cases hq : seqIx l q < l.length
  · exact h _ (volAt_mem hq)
  · rw [List.getD_eq_getElem?_getD, List.getElem?_eq_none (by omega)]; simp
theorem chain_few {l : List (List UInt8)} (h : ∀ v, v ∈ l → v.length ≤ 1048576) : ∀ n : Nat, (chainSt l n).K.length ≤ (n + 1) * 1048576 ∧ (chainSt l n).C.length ≤ (n + 1) * 1048576 ∧ (chainSt l n).E.length ≤ 1048576
  | 0 => by
    obtain ⟨f1, f2, f3⟩ := readRd_few (linkR l 0)
    have := link_short h 0
    refine ⟨?_, ?_, ?_⟩
    · show (readRd (linkR l 0)).K.length ≤ _; omega
    · show (readRd (linkR l 0)).C.length ≤ _; omega
    · show (readRd (linkR l 0)).E.length ≤ _; omega
  | n + 1 => by
    obtain ⟨h1, h2, h3⟩ := chain_few h n
    obtain ⟨f1, f2, f3⟩ := readRd_few (linkR l ((n + 1 : Nat) : Int))
    have := link_short h ((n + 1 : Nat) : Int)
    have l1 := layK_len Ck.site (fun _ c => c) (readRd (linkR l ((n + 1 : Nat) : Int))).K (chainSt l n).K
    have l2 := layK_len Cd.id (fun _ c => c) (readRd (linkR l ((n + 1 : Nat) : Int))).C (chainSt l n).C
    have e : (n + 1 + 1) * 1048576 = (n + 1) * 1048576 + 1048576 := by omega
    refine ⟨?_, ?_, ?_⟩
    · show (layK Ck.site (fun _ c => c) (chainSt l n).K (readRd (linkR l ((n + 1 : Nat) : Int))).K).length ≤ _; omega
    · show (layK Cd.id (fun _ c => c) (chainSt l n).C (readRd (linkR l ((n + 1 : Nat) : Int))).C).length ≤ _; omega
    · show (readRd (linkR l ((n + 1 : Nat) : Int))).E.length ≤ _; omega
theorem chain_asc (l : List (List UInt8)) : ∀ n : Nat, Asc Ck.site (chainSt l n).K ∧ Asc Cd.id (chainSt l n).C
  | 0 => read_asc (linkR l 0)
  | n + 1 => ⟨layK_asc Ck.site (fun _ _ _ => rfl) (chain_asc l n).1, layK_asc Cd.id (fun _ _ _ => rfl) (chain_asc l n).2⟩
/-- What Replay's loops keep. -/
structure Rr (w wr : World) (L : List Sl) (ad : Option Addr) (N cap : Nat) : Prop where
  r : Bx wr w.heap.size 27 (repC none 0 0 none 0 0 none 0 0)
  v : Vec wr (w.heap.size + 1) 46 5 ad N cap (slc5 L)
  s : Sls wr (w.heap.size + 1) L
  old : Below w.heap.size w wr
  sz : w.heap.size + 1 ≤ wr.heap.size
theorem Rr.step {w wr X : World} {L : List Sl} {ad : Option Addr} {N cap : Nat} (h : Rr w wr L ad N cap) (hb : Below wr.heap.size wr X) : Rr w X L ad N cap :=
  ⟨h.r.below hb h.r.lt, h.v.keep hb, h.s.keep hb, h.old.trans (hb.mono h.old.size), Nat.le_trans h.sz hb.size⟩

/-- What the last loop keeps besides: the state that was laid so far, in a variable. -/
structure Rl (w : World) (gr : Nat) (U : Tri) (L : List Sl) (ad : Option Addr) (N cap : Nat) (f1 f2 f3 : Option Addr) (g1 g2 g3 : Nat) (wr : World) : Prop where
  i : Rr w wr L ad N cap
  x : Bx wr gr 27 (repC f1 U.K.length g1 f2 U.C.length g2 f3 U.E.length g3)
  l : LT wr (w.heap.size + 1) U f1 f2 f3 g1 g2 g3
  lt : w.heap.size + 1 ≤ gr
theorem Rl.step {w : World} {gr : Nat} {U : Tri} {L : List Sl} {ad : Option Addr} {N cap : Nat} {f1 f2 f3 : Option Addr} {g1 g2 g3 : Nat} {wr X : World} (h : Rl w gr U L ad N cap f1 f2 f3 g1 g2 g3 wr) (hb : Below wr.heap.size wr X) : Rl w gr U L ad N cap f1 f2 f3 g1 g2 g3 X :=
  ⟨h.i.step hb, h.x.below hb h.x.lt, h.l.keep hb, h.lt⟩
theorem Rl.set {w : World} {gr : Nat} {U V : Tri} {L : List Sl} {ad : Option Addr} {N cap : Nat} {f1 f2 f3 e1 e2 e3 : Option Addr} {g1 g2 g3 k1 k2 k3 : Nat} {wr : World} (h : Rl w gr U L ad N cap f1 f2 f3 g1 g2 g3 wr) (hL : LT wr (w.heap.size + 1) V e1 e2 e3 k1 k2 k3) :
    Rl w gr V L ad N cap e1 e2 e3 k1 k2 k3 (((wr.setCell ⟨gr, 0, none⟩ (.slice e1 V.K.length k1)).setCell ⟨gr, 1, none⟩ (.slice e2 V.C.length k2)).setCell ⟨gr, 2, none⟩ (.slice e3 V.E.length k3)) := by
  have hu : Upd gr wr (((wr.setCell ⟨gr, 0, none⟩ (.slice e1 V.K.length k1)).setCell ⟨gr, 1, none⟩ (.slice e2 V.C.length k2)).setCell ⟨gr, 2, none⟩ (.slice e3 V.E.length k3)) := (((Upd.refl gr wr).setCell _ rfl _).setCell _ rfl _).setCell _ rfl _
  have hlt := h.lt
  exact ⟨⟨h.i.r.upd hu (by omega), h.i.v.oth h.x hu (by decide), fun s hs => ⟨(h.i.s s hs).v1.oth h.x hu (by decide), (h.i.s s hs).v2.oth h.x hu (by decide), (h.i.s s hs).v3.oth h.x hu (by decide), rfl, rfl, rfl⟩, hu.below h.i.old (by omega), by rw [hu.size]; exact h.i.sz⟩, ((h.x.setCell 0 _).setCell 1 _).setCell 2 _, ⟨hL.v1.oth h.x hu (by decide), hL.v2.oth h.x hu (by decide), hL.v3.oth h.x hu (by decide), rfl, rfl, rfl⟩, h.lt⟩
theorem chain_next (l : List (List UInt8)) {n : Nat} (h : 1 ≤ n) : chainSt l (n + 1 - 1) = layS (chainSt l (n - 1)) (readRd (linkR l (n : Int))).st := by
  obtain ⟨m, rfl⟩ : ∃ m, n = m + 1 := ⟨n - 1, by omega⟩
  rfl

set_option maxRecDepth 100000 in
set_option maxHeartbeats 16000000 in
theorem rreplay_any (l : List (List UInt8)) (ad0 : Option Addr) (N cap0 : Nat) (w : World) (hL : Lies w ad0 N 1 (fun i => [.string (str (l.getD i []))])) (hN : N = l.length) (hl : ∀ v, v ∈ l → v.length ≤ 1048576) (hb : N ≤ 1048576) :
    Calls Tryz.prog 11 #[.slice ad0 N cap0] w fun e w' => ReplayAns (replayRd l) w.heap.size e w' ∧ Below w.heap.size w w' := by
  obtain ⟨hR, hW, hB⟩ := one_box w 27 (repC none 0 0 none 0 0 none 0 0).toArray
  have HR0 : Hid (Rr w (w.alloc (.cells (repC none 0 0 none 0 0 none 0 0).toArray 27)) [] none 0 0) := ⟨hR, Vec.nil _ _ _ _, (fun s hs => by cases hs), hB, by rw [hW]; exact Nat.le_refl _⟩
  have HN : Hid (N = l.length) := hN
  have HL : Hid (∀ v, v ∈ l → v.length ≤ 1048576) := hl
  have HLI : Hid (Lies w ad0 N 1 (fun i => [.string (str (l.getD i []))])) := hL
  clear hN hl hL hR hW hB
  by_cases h16 : 16 < N
  · have E : Hid (replayRd l = ansErr 1 0) := replay_many (by rw [← HN.out]; exact h16)
    have HRX : Hid (Rr w (w.alloc (.cells (repC none 0 0 none 0 0 none 0 0).toArray 27)) [] none 0 0) := HR0
    have hr := HRX.out.r
    have hd : decide ((16 : Int) < (N : Int)) = true := decide_eq_true (by omega)
    go_enter Tryz.func11, Tryz.ntmps11
    go_wp2_with (refine wpList_bstore (by rfl) _ _ _ (by rfl) w.heap.size 27 (by rfl) _ _ (by rfl) hr 3 (by rfl) (by kernel_rfl) (by rfl) (by intro x hx; simp at hx; subst hx; rfl) ?_; intro w9 hr9 hu9)
    exact bodyPost_ret (v := .tuple #[.agg (repC none 0 0 none 0 0 none 0 0).toArray, .int .i64 1, .int .i64 0]) (results_box3 (by rfl) _ _ w.heap.size 27 _ _ _ _ (by rfl) hr9 (by rfl) (by rfl) Tryz.underlying27 (by rfl) 3 (by rfl) (by kernel_rfl)) rfl ⟨by rw [E.out]; exact ⟨none, 0, 0, none, 0, 0, none, 0, 0, rfl, Lists.nil _ _⟩, hu9.below HRX.out.old (Nat.le_refl _)⟩
  · have H16 : Hid (¬ 16 < l.length) := by rw [← HN.out]; exact h16
    have hd : decide ((16 : Int) < (N : Int)) = false := decide_eq_false (by omega)
    have hN16 : N ≤ 16 := by omega
    go_enter Tryz.func11, Tryz.ntmps11
    go_wp2_with fail
    clear hd h16
    go_loopw [5, 6, 7, 8, 9] (fun v u _ _ _ wr => ∃ (i : Nat) (ad : Option Addr) (cap : Nat) (L : List Sl), i ≤ N ∧ u = .int .i64 i ∧ v = .slice ad i cap ∧ i = L.length ∧ L.map Sl.b = l.take i ∧ (∀ j, j < i → bad4 l j = false) ∧ Rr w wr L ad i cap) (fun _ u _ _ _ _ => N - (intOf u).toNat)
    case atStart => exact ⟨0, none, 0, [], by omega, rfl, rfl, rfl, by simp, by intro j hj; omega, HR0.out⟩
    case round =>
      clear HR0
      obtain ⟨i, ad, cap, L, hi, rfl, rfl, hiL, hmap, hbad, hI⟩ := hrel
      have HIL : Hid (i = L.length) := hiL
      have HMAP : Hid (L.map Sl.b = l.take i) := hmap
      have HBAD : Hid (∀ j, j < i → bad4 l j = false) := hbad
      have HI : Hid (Rr w wr L ad i cap) := hI
      clear hiL hmap hbad
      by_cases hlt : i < N
      · obtain ⟨b, o, hbl, hix, hc⟩ := (HLI.out.below hI.old).at cap0 (P := Tryz.prog) (t := 22) (by kernel_rfl) (by kernel_rfl) hlt
        have c0 : wr.cell? ⟨b, o, none⟩ = some (.string (str (l.getD i []))) := hc 0 _ (by omega) rfl
        have hil : i < l.length := by rw [← HN.out]; exact hlt
        have hsl1 : (l.getD i []).length ≤ 1048576 := HL.out _ (volAt_mem hil)
        have HT : Hid (l.take (i + 1) = l.take i ++ [l.getD i []]) := take_bs l i hil
        have HB4 : Hid (bad4 l i = ((readRd (l.getD i [])).err != 0)) := rfl
        have HE : Hid ((readRd (l.getD i [])).err ≠ 0 → replayRd l = ansErr (readRd (l.getD i [])).err i) := fun h => by
          have : firstOf (bad4 l) l.length = some i := firstOf_some.mpr ⟨by rw [HB4.out]; exact bne_iff_ne.mpr h, hil, HBAD.out⟩
          unfold replayRd; rw [if_neg H16.out, this]
        clear hc hI
        generalize l.getD i [] = s at *
        go_wp2_with fail
        refine (rread_any s _ (by omega)).mono ?_
        rintro e w1 ⟨⟨a1, n1, c1, a2, n2, c2, a3, n3, c3, rfl, hLs⟩, hb1⟩
        obtain ⟨v1, v2, v3, rfl, rfl, rfl⟩ := hLs
        have HI1 : Hid (Rr w w1 L ad i cap) := HI.out.step hb1
        have HS1 : Hid (Sl.In w1 (w.heap.size + 1) ⟨s, a1, a2, a3, c1, c2, c3⟩) := ⟨v1.mono HI.out.sz, v2.mono HI.out.sz, v3.mono HI.out.sz, rfl, rfl, rfl⟩
        have hal : Below w1.heap.size w1 (w1.alloc (.cells (lnkC (readRd s).seq (readRd s).base a1 (readRd s).K.length c1 a2 (readRd s).C.length c2 a3 (readRd s).E.length c3).toArray 46)) := (Below.refl _ _).alloc (Nat.le_refl _) _
        have HRX : Hid (Rr w (w1.alloc (.cells (lnkC (readRd s).seq (readRd s).base a1 (readRd s).K.length c1 a2 (readRd s).C.length c2 a3 (readRd s).E.length c3).toArray 46)) L ad i cap) := HI1.out.step hal
        have HS2 : Hid (Sls (w1.alloc (.cells (lnkC (readRd s).seq (readRd s).base a1 (readRd s).K.length c1 a2 (readRd s).C.length c2 a3 (readRd s).E.length c3).toArray 46)) (w.heap.size + 1) (L ++ [⟨s, a1, a2, a3, c1, c2, c3⟩])) := fun x hx => by
          rcases List.mem_append.1 hx with h | h
          · exact (HI1.out.s x h).keep hal
          · simp at h; subst h; exact HS1.out.keep hal
        have hX1 := Bx.new w1 46 (lnkC (readRd s).seq (readRd s).base a1 (readRd s).K.length c1 a2 (readRd s).C.length c2 a3 (readRd s).E.length c3).toArray
        have z0 := hX1.cell 0; have z1 := hX1.cell 1; have z2 := hX1.cell 2; have z3 := hX1.cell 3; have z4 := hX1.cell 4
        dsimp only [List.getElem?_cons_zero, List.getElem?_cons_succ] at z0 z1 z2 z3 z4
        clear v1 v2 v3 hb1 c0 hbl hal hX1 HI HI1 HS1
        by_cases he : (readRd s).err = 0
        · have HE0 : Hid ((readRd s).err = 0) := he
          rw [he]
          have HBADN : Hid (∀ j, j < i + 1 → bad4 l j = false) := fun j hj => by
            rcases Nat.lt_or_ge j i with h | h
            · exact HBAD.out j h
            · rw [show j = i by omega, HB4.out, HE0.out]; rfl
          have hV := HRX.out.v
          have hzz := HRX.out.sz
          clear he HE
          go_upto_region 10 with fail
          generalize w1.alloc (.cells (lnkC (readRd s).seq (readRd s).base a1 (readRd s).K.length c1 a2 (readRd s).C.length c2 a3 (readRd s).E.length c3).toArray 46) = X at *
          generalize w1.heap.size = gx at *
          clear w1
          go_wp2_with (at_builtin; refine wpList_pushk (by rfl) _ _ 57 (by rfl) (w.heap.size + 1) 46 5 88 (.agg #[.int .i64 0, .int .i64 0, .slice none 0 0, .slice none 0 0, .slice none 0 0]) Tryz.underlying57 (by kernel_rfl) rfl (by decide) ad i cap _ (by rfl) (hV.keep ((Below.refl _ _).alloc (Nat.le_refl _) _)) _ 1 1 (Sl.c5 ⟨s, a1, a2, a3, c1, c2, c3⟩) (by rfl) rfl ?_ ?_ ?_ ?_ ?_ ?_ ?_; (rw [rep_one]; exact new_cells _ _ _); (exact ones5 _); (omega); (omega); (omega); (simp; omega); intro ad' cap' w' hv' hk')
          have hal := (Below.refl X.heap.size X).alloc (Nat.le_refl _) (.cells (Sl.c5 ⟨s, a1, a2, a3, c1, c2, c3⟩).toArray 46)
          have hV9 := hV.keep hal
          have hs9 := (HS2.out.keep hal).kq hV9 hk'
          have hr9 := (HRX.out.r.below hal HRX.out.r.lt).kp hk' (fun e => by have := (hV9.typed _ e).1; omega)
          have hb9 : Below w.heap.size w w' := hk'.below (HRX.out.old.alloc HRX.out.old.size _) (by have := HRX.out.old.size; simp; omega) (fun q e => by have := (hV9.typed q e).1; omega)
          rw [rep_one] at hv'
          have hfin : Rr w w' (L ++ [⟨s, a1, a2, a3, c1, c2, c3⟩]) ad' (i + 1) cap' := ⟨hr9, by rw [slc5_app]; simpa [slc5] using hv', hs9, hb9, by have := hk'.size; simp at this; omega⟩
          go_roundw
          case rel => exact ⟨i + 1, ad', cap', L ++ [⟨s, a1, a2, a3, c1, c2, c3⟩], by omega, by go_num, rfl, by rw [List.length_append, ← HIL.out]; rfl, by rw [List.map_append, HMAP.out, HT.out]; rfl, HBADN.out, hfin⟩
          case measure => simp [intOf]; omega
        · have E : Hid (replayRd l = ansErr (readRd s).err i) := HE.out he
          have hcb : ((readRd s).err != 0) = true := by simp [he]
          have hr := HRX.out.r
          clear he HE
          go_wp2_with (refine wpList_bstore (by rfl) _ _ _ (by rfl) w.heap.size 27 (by rfl) _ _ (by rfl) hr 3 (by rfl) (by kernel_rfl) (by rfl) (by intro x hx; simp at hx; subst hx; rfl) ?_; intro w9 hr9 hu9)
          exact bodyPost_ret (v := .tuple #[.agg (repC none 0 0 none 0 0 none 0 0).toArray, .int .i64 (readRd s).err, .int .i64 (i : Int)]) (results_box3 (by rfl) _ _ w.heap.size 27 _ _ _ _ (by rfl) hr9 (by rfl) (by rfl) Tryz.underlying27 (by rfl) 3 (by rfl) (by kernel_rfl)) rfl ⟨by rw [E.out]; exact ⟨none, 0, 0, none, 0, 0, none, 0, 0, rfl, Lists.nil _ _⟩, hu9.below HRX.out.old (Nat.le_refl _)⟩
      · obtain rfl : N = i := by omega
        have HM : Hid (L.map Sl.b = l) := by show _ = _; rw [HMAP.out, HN.out, List.take_length]
        have H4 : Hid (lkErr l = 0) := by
          have : firstOf (bad4 l) l.length = none := firstOf_none.mpr (fun j hj => HBAD.out j (by rw [HN.out]; exact hj))
          show _ = _; unfold lkErr; rw [this]
        have HE4 : Hid (∀ j, j < N → (readRd (l.getD j [])).err = 0) := fun j hj => by
          have := HBAD.out j hj
          unfold bad4 at this
          simpa using this
        clear hI HMAP HBAD hi hlt
        go_wp2_with fail
        generalize wr = W at *
        have HLL : Hid (Lies W ad N 5 (fun i => (L.getD i sl0).c5)) := slvec5_lies HI.out.v HIL.out
        go_loop [10, 11] (fun u _ => ∃ k : Nat, k ≤ N ∧ u = .int .i64 k ∧ (∀ j, j < k → bad5 l j = false)) (fun u _ => N - (intOf u).toNat)
        case atStart => exact ⟨0, Nat.zero_le _, rfl, fun j hj => by omega⟩
        case round =>
          obtain ⟨k, hk, rfl, hno⟩ := hrel
          have HNO : Hid (∀ j, j < k → bad5 l j = false) := hno
          clear hno
          by_cases hlt : k < N
          · obtain ⟨b, o, hbl, hix, c0, -⟩ := Lies.sl5 (c := fun i => L.getD i sl0) HLL.out cap hlt
            have hkL : k < L.length := by rw [← HIL.out]; exact hlt
            have HT : Hid (bad5 l k = decide (slIx L (readRd (L.getD k sl0).b).seq < k)) := (tw_bad5 HM.out hkL).symm
            have HSQ : Hid (seqR L (readRd (L.getD k sl0).b).seq = (slIx L (readRd (L.getD k sl0).b).seq : Int)) := seq_twice L hkL
            have HLE : Hid (slIx L (readRd (L.getD k sl0).b).seq ≤ N) := by show _ ≤ _; rw [HIL.out]; exact slIx_le L _
            clear hkL
            generalize (readRd (L.getD k sl0).b).seq = c at *
            go_wp2_with fail
            refine (rseq_any L ad N cap c _ HIL.out (by omega) HLL.out).mono ?_
            rintro e w1 ⟨rfl, hw1⟩
            obtain rfl : W = w1 := hw1.symm
            clear hw1
            rw [HSQ.out]
            have hle := HLE.out
            generalize slIx L c = q at *
            by_cases hq : q < k
            · have E : Hid (replayRd l = ansErr 15 k) := replay_twice H16.out H4.out (firstOf_some.mpr ⟨by rw [HT.out]; exact decide_eq_true hq, by rw [← HN.out]; exact hlt, HNO.out⟩)
              have HRX := HI
              have hr := HRX.out.r
              go_wp2_with (refine wpList_bstore (by rfl) _ _ _ (by rfl) w.heap.size 27 (by rfl) _ _ (by rfl) hr 3 (by rfl) (by kernel_rfl) (by rfl) (by intro x hx; simp at hx; subst hx; rfl) ?_; intro w9 hr9 hu9)
              exact bodyPost_ret (v := .tuple #[.agg (repC none 0 0 none 0 0 none 0 0).toArray, .int .i64 15, .int .i64 (k : Int)]) (results_box3 (by rfl) _ _ w.heap.size 27 _ _ _ _ (by rfl) hr9 (by rfl) (by rfl) Tryz.underlying27 (by rfl) 3 (by rfl) (by kernel_rfl)) rfl ⟨by rw [E.out]; exact ⟨none, 0, 0, none, 0, 0, none, 0, 0, rfl, Lists.nil _ _⟩, hu9.below HRX.out.old (Nat.le_refl _)⟩
            · have HE : Hid (∀ j, j < k + 1 → bad5 l j = false) := fun j hj => by
                rcases Nat.lt_or_ge j k with h | h
                · exact HNO.out j h
                · rw [show j = k by omega, HT.out]; exact decide_eq_false hq
              go_wp2_with fail
              go_round
              case rel => exact ⟨k + 1, by omega, by go_num, HE.out⟩
              case measure => simp [intOf]; omega
          · obtain rfl : N = k := by omega
            have H5 : Hid (firstOf (bad5 l) l.length = none) := firstOf_none.mpr (fun j hj => HNO.out j (by rw [HN.out]; exact hj))
            clear hk hlt HNO
            go_wp2_with fail
            go_loop [12, 13] (fun u _ => ∃ n : Nat, (n ≤ N ∨ n = 1) ∧ u = .int .i64 n ∧ (∀ j : Nat, j < n → slIx L (j : Int) < L.length)) (fun u _ => N + 1 - (intOf u).toNat)
            case atStart => exact ⟨0, Or.inl (Nat.zero_le _), rfl, fun j hj => by omega⟩
            case round =>
              obtain ⟨n, hn, rfl, hno⟩ := hrel
              have HNO : Hid (∀ j : Nat, j < n → slIx L (j : Int) < L.length) := hno
              clear hno
              have hle1 := slIx_le L (n : Int)
              have HSL : Hid (slIx L (n : Int) ≤ L.length) := hle1
              clear hle1
              by_cases hnN : n < N
              · have q1 : decide ((n : Int) < (N : Int)) = true := decide_eq_true (by omega)
                go_wp2_with fail
                refine (rseq_any L ad N cap (n : Int) _ HIL.out (by omega) HLL.out).mono ?_
                rintro e w1 ⟨rfl, hw1⟩
                obtain rfl : W = w1 := hw1.symm
                clear hw1
                by_cases hh : slIx L (n : Int) < L.length
                · rw [seq_hit hh]
                  have HNX : Hid (∀ j : Nat, j < n + 1 → slIx L (j : Int) < L.length) := fun j hj => by
                    rcases Nat.lt_or_ge j n with h | h
                    · exact HNO.out j h
                    · rw [show j = n by omega]; exact hh
                  have hsm : slIx L (n : Int) < N := by rw [HIL.out]; exact hh
                  clear hh
                  generalize slIx L (n : Int) = q at *
                  go_wp2_with fail
                  go_round
                  case rel => exact ⟨n + 1, by omega, by go_num, HNX.out⟩
                  case measure => simp [intOf]; omega
                · have E : Hid (replayRd l = ansErr 16 0) := replay_missing H16.out H4.out H5.out (Or.inr (by
                    have hb6 := (ix_bad6 HM.out n).2 hh
                    cases hf : firstOf (bad6 l) l.length with
                    | some i => rfl
                    | none => rw [firstOf_none.mp hf n (by rw [← HN.out]; exact hnN)] at hb6; cases hb6))
                  rw [seq_miss hh]
                  clear hh
                  have HRX := HI
                  have hr := HRX.out.r
                  go_wp2_with (refine wpList_bstore (by rfl) _ _ _ (by rfl) w.heap.size 27 (by rfl) _ _ (by rfl) hr 3 (by rfl) (by kernel_rfl) (by rfl) (by intro x hx; simp at hx; subst hx; rfl) ?_; intro w9 hr9 hu9)
                  exact bodyPost_ret (v := .tuple #[.agg (repC none 0 0 none 0 0 none 0 0).toArray, .int .i64 16, .int .i64 0]) (results_box3 (by rfl) _ _ w.heap.size 27 _ _ _ _ (by rfl) hr9 (by rfl) (by rfl) Tryz.underlying27 (by rfl) 3 (by rfl) (by kernel_rfl)) rfl ⟨by rw [E.out]; exact ⟨none, 0, 0, none, 0, 0, none, 0, 0, rfl, Lists.nil _ _⟩, hu9.below HRX.out.old (Nat.le_refl _)⟩
              · by_cases hn0 : n = 0
                · have hN0 : N = 0 := by omega
                  have hh : ¬ slIx L (n : Int) < L.length := by rw [← HIL.out, hN0]; omega
                  have E : Hid (replayRd l = ansErr 16 0) := replay_missing H16.out H4.out H5.out (Or.inl (by rw [← HN.out]; exact hN0))
                  have q1 : decide ((n : Int) < (N : Int)) = false := decide_eq_false (by omega)
                  have q2 : ((n : Int) == 0) = true := by rw [hn0]; rfl
                  have HH : Hid (¬ slIx L (n : Int) < L.length) := hh
                  clear hh hN0 hn0
                  go_wp2_with fail
                  refine (rseq_any L ad N cap (n : Int) _ HIL.out (by omega) HLL.out).mono ?_
                  rintro e w1 ⟨rfl, hw1⟩
                  obtain rfl : W = w1 := hw1.symm
                  clear hw1
                  rw [seq_miss HH.out]
                  have HRX := HI
                  have hr := HRX.out.r
                  go_wp2_with (refine wpList_bstore (by rfl) _ _ _ (by rfl) w.heap.size 27 (by rfl) _ _ (by rfl) hr 3 (by rfl) (by kernel_rfl) (by rfl) (by intro x hx; simp at hx; subst hx; rfl) ?_; intro w9 hr9 hu9)
                  exact bodyPost_ret (v := .tuple #[.agg (repC none 0 0 none 0 0 none 0 0).toArray, .int .i64 16, .int .i64 0]) (results_box3 (by rfl) _ _ w.heap.size 27 _ _ _ _ (by rfl) hr9 (by rfl) (by rfl) Tryz.underlying27 (by rfl) 3 (by rfl) (by kernel_rfl)) rfl ⟨by rw [E.out]; exact ⟨none, 0, 0, none, 0, 0, none, 0, 0, rfl, Lists.nil _ _⟩, hu9.below HRX.out.old (Nat.le_refl _)⟩
                · have q1 : decide ((n : Int) < (N : Int)) = false := decide_eq_false (by omega)
                  have q2 : ((n : Int) == 0) = false := by rw [beq_eq_false_iff_ne]; omega
                  have hall : ∀ j : Nat, j < L.length → slIx L (j : Int) < L.length := fun j hj => HNO.out j (by have := HIL.out; omega)
                  have HALL : Hid (∀ j : Nat, j < L.length → slIx L (j : Int) < L.length) := hall
                  have hNp : 0 < N := by
                    rcases Nat.eq_zero_or_pos N with h | h
                    · exfalso
                      have := HNO.out 0 (by omega)
                      have := HIL.out
                      omega
                    · exact h
                  have H6 : Hid (¬ (l.length = 0 ∨ (firstOf (bad6 l) l.length).isSome = true)) := by
                    rintro (h | h)
                    · rw [← HN.out] at h; omega
                    · obtain ⟨k, hk⟩ := Option.isSome_iff_exists.1 h
                      obtain ⟨h1, h2, _⟩ := firstOf_some.mp hk
                      exact (ix_bad6 HM.out k).1 h1 (hall k (by rw [sl_len HM.out]; exact h2))
                  clear hall
                  go_wp2_with fail
                  clear q1 q2 hn hnN hn0 HNO HSL
                  go_loopw [14, 15, 16] (fun u _ _ wr => ∃ k : Nat, k ≤ N ∧ u = .int .i64 k ∧ (∀ j, j < k → bad7 l j = false) ∧ Below W.heap.size W wr) (fun u _ _ _ => N - (intOf u).toNat)
                  case atStart => exact ⟨0, Nat.zero_le _, rfl, fun j hj => by omega, Below.refl _ _⟩
                  case round =>
                    obtain ⟨k, hk, rfl, hno, hbw⟩ := hrel
                    have HNO : Hid (∀ j, j < k → bad7 l j = false) := hno
                    have HIX : Hid (∀ X, Below wr.heap.size wr X → Rr w X L ad N cap) := fun X hX => HI.out.step (hbw.trans (hX.mono hbw.size))
                    have HBW : Hid (Below W.heap.size W wr) := hbw
                    clear hno hbw
                    have HI4 : Hid (Rr w wr L ad N cap) := HIX.out _ (Below.refl _ _)
                    by_cases hlt : k < N
                    · have HL4 : Hid (Lies wr ad N 5 (fun i => (L.getD i sl0).c5)) := slvec5_lies HI4.out.v HIL.out
                      obtain ⟨b, o, hbl, hix, c0, c1, -⟩ := Lies.sl5 (c := fun i => L.getD i sl0) HL4.out cap hlt
                      have hkL : k < L.length := by rw [← HIL.out]; exact hlt
                      obtain ⟨s0, s1⟩ := seq_below HALL.out hkL
                      have HAT : Hid ((L.getD k sl0).b = l.getD k []) := sl_at HM.out k
                      by_cases hp : 0 < (readRd (L.getD k sl0).b).seq
                      · obtain ⟨n1, hn1⟩ : ∃ n1 : Nat, (readRd (L.getD k sl0).b).seq - 1 = (n1 : Int) := ⟨((readRd (L.getD k sl0).b).seq - 1).toNat, by omega⟩
                        have hm := HALL.out n1 (by omega)
                        have HSQ : Hid (seqR L (n1 : Int) = (slIx L (n1 : Int) : Int)) := seq_hit hm
                        have HLK : Hid (l.getD (slIx L (n1 : Int)) [] = linkR l (n1 : Int)) := by show _ = _; rw [sl_ix HM.out]; rfl
                        have hmN : slIx L (n1 : Int) < N := by rw [HIL.out]; exact hm
                        have HBD : Hid (bad7 l k = (sealR (linkR l (n1 : Int)) != (readRd (L.getD k sl0).b).base)) := by
                          show _ = _; unfold bad7; rw [← HAT.out, decide_eq_true hp, Bool.true_and, hn1]
                        have H8 : Hid (8 ≤ (linkR l (n1 : Int)).length) := by rw [← HLK.out]; exact read_long (HE4.out _ hmN)
                        have HSH : Hid ((linkR l (n1 : Int)).length ≤ 1048576) := link_short HL.out _
                        obtain ⟨b2, o2, hbl2, hix2, hc2⟩ := (HLI.out.below HI4.out.old).at cap0 (P := Tryz.prog) (t := 22) (by kernel_rfl) (by kernel_rfl) hmN
                        have d0 : wr.cell? ⟨b2, o2, none⟩ = some (.string (str (l.getD (slIx L (n1 : Int)) []))) := hc2 0 _ (by omega) rfl
                        rw [HLK.out] at d0
                        have hpI : ¬ (readRd (L.getD k sl0).b).seq ≤ 0 := by omega
                        have hi64 : (readRd (L.getD k sl0).b).seq ≤ 1048576 := by have := HIL.out; omega
                        clear hc2 hm hkL s0 s1 HAT
                        generalize (readRd (L.getD k sl0).b).seq = sq at *
                        generalize (readRd (L.getD k sl0).b).base = bs at *
                        generalize linkR l (n1 : Int) = sx at *
                        go_wp2_with fail
                        refine (rseq_any L ad N cap (n1 : Int) _ HIL.out (by omega) HL4.out).mono ?_
                        rintro e w1 ⟨rfl, hw1⟩
                        obtain rfl : wr = w1 := hw1.symm
                        clear hw1
                        rw [HSQ.out]
                        generalize slIx L (n1 : Int) = q at *
                        have hz := str_size sx
                        obtain ⟨m, hm⟩ : ∃ m, (str sx).size = m + 4 := ⟨(str sx).size - 4, by have := H8.out; omega⟩
                        have hx2 : (str sx).extract m (m + 4) = str (sx.drop m) := by rw [str_extract, List.take_of_length_le (by simp; omega)]
                        have hsub : ((m : Int) + 4 - 4) = (m : Int) := by omega
                        have hle2 : (m : Int) ≤ (m : Int) + 4 := by omega
                        have HS : Hid (sealR sx = fourRd (sx.drop m)) := by show _ = _; unfold sealR; rw [show sx.length - 4 = m by omega]
                        have HD : Hid ((sx.drop m).length = 4) := by show _ = _; simp; omega
                        have hnb : m ≤ 1048576 := by have := HSH.out; omega
                        have hd0 : ¬ (m : Int) < 0 := by omega
                        clear hz
                        go_wp2_with fail
                        refine (rfour_rd (sx.drop m) _ HD.out).mono ?_
                        rintro e w2 ⟨rfl, nd, hw2⟩
                        have hb2 : Below wr.heap.size wr w2 := by rw [hw2]; exact below_drewN (Below.refl _ _) nd
                        rw [← HS.out]
                        have hc1 := (hb2.cell (p := ⟨b, o + 1, none⟩) hbl).trans c1
                        have HB2 : Hid (Below W.heap.size W w2) := HBW.out.trans (hb2.mono HBW.out.size)
                        have HRX : Hid (Rr w w2 L ad N cap) := HIX.out _ hb2
                        clear c0 c1 d0 hw2 hb2 hx2 hsub hle2 HS HD hm
                        cases hq : (sealR sx != bs) with
                        | true =>
                          have E : Hid (replayRd l = ansErr 17 k) := replay_base H16.out H4.out H5.out H6.out (firstOf_some.mpr ⟨by rw [HBD.out]; exact hq, by rw [← HN.out]; exact hlt, HNO.out⟩)
                          have hr := HRX.out.r
                          go_wp2_with (refine wpList_bstore (by rfl) _ _ _ (by rfl) w.heap.size 27 (by rfl) _ _ (by rfl) hr 3 (by rfl) (by kernel_rfl) (by rfl) (by intro x hx; simp at hx; subst hx; rfl) ?_; intro w9 hr9 hu9)
                          exact bodyPost_ret (v := .tuple #[.agg (repC none 0 0 none 0 0 none 0 0).toArray, .int .i64 17, .int .i64 (k : Int)]) (results_box3 (by rfl) _ _ w.heap.size 27 _ _ _ _ (by rfl) hr9 (by rfl) (by rfl) Tryz.underlying27 (by rfl) 3 (by rfl) (by kernel_rfl)) rfl ⟨by rw [E.out]; exact ⟨none, 0, 0, none, 0, 0, none, 0, 0, rfl, Lists.nil _ _⟩, hu9.below HRX.out.old (Nat.le_refl _)⟩
                        | false =>
                          have HE : Hid (∀ j, j < k + 1 → bad7 l j = false) := fun j hj => by
                            rcases Nat.lt_or_ge j k with h | h
                            · exact HNO.out j h
                            · rw [show j = k by omega, HBD.out]; exact hq
                          go_wp2_with fail
                          go_roundw
                          case rel => exact ⟨k + 1, by omega, by go_num, HE.out, HB2.out⟩
                          case measure => simp [intOf]; omega
                      · have HE : Hid (∀ j, j < k + 1 → bad7 l j = false) := fun j hj => by
                          rcases Nat.lt_or_ge j k with h | h
                          · exact HNO.out j h
                          · rw [show j = k by omega]; unfold bad7; rw [← HAT.out, decide_eq_false hp, Bool.false_and]
                        clear hkL s1 HAT
                        generalize (readRd (L.getD k sl0).b).seq = sq at *
                        go_wp2_with fail
                        go_roundw
                        case rel => exact ⟨k + 1, by omega, by go_num, HE.out, HBW.out⟩
                        case measure => simp [intOf]; omega
                    · obtain rfl : N = k := by omega
                      have H7 : Hid (firstOf (bad7 l) l.length = none) := firstOf_none.mpr (fun j hj => HNO.out j (by rw [HN.out]; exact hj))
                      have HLAST : Hid (replayRd l = if (chainSt l (l.length - 1)).rep.chk = 0 then ⟨0, 0, 0, 0, (chainSt l (l.length - 1)).K, (chainSt l (l.length - 1)).C, (chainSt l (l.length - 1)).E⟩ else ansErr (chainSt l (l.length - 1)).rep.chk 0) := replay_last H16.out H4.out H5.out H6.out H7.out
                      clear hk hlt HNO HIX HBW H7 H6 H5 H4 HI HLL
                      have HL4 : Hid (Lies wr ad N 5 (fun i => (L.getD i sl0).c5)) := slvec5_lies HI4.out.v HIL.out
                      have hq0 : slIx L (0 : Int) < L.length := HALL.out 0 (by have := HIL.out; omega)
                      have hqN : slIx L (0 : Int) < N := by rw [HIL.out]; exact hq0
                      have HSQ : Hid (seqR L 0 = (slIx L 0 : Int)) := seq_hit hq0
                      have HT0 : Hid ((readRd (L.getD (slIx L 0) sl0).b).st = chainSt l (1 - 1)) := by show _ = _; rw [sl_link HM.out 0]; rfl
                      have HIN : Hid (Sl.In wr (w.heap.size + 1) (L.getD (slIx L 0) sl0)) := HI4.out.s _ (getD_mem hq0)
                      obtain ⟨b, o, hbl, hix, -, -, c2, c3, c4⟩ := Lies.sl5 (c := fun i => L.getD i sl0) HL4.out cap hqN
                      clear hq0
                      generalize slIx L 0 = q at *
                      generalize L.getD q sl0 = s at *
                      have hal : Below wr.heap.size wr (wr.alloc (.cells (repC s.a1 (readRd s.b).K.length s.k1 s.a2 (readRd s.b).C.length s.k2 s.a3 (readRd s.b).E.length s.k3).toArray 27)) := (Below.refl _ _).alloc (Nat.le_refl _) _
                      have HR0 : Hid (Rl w wr.heap.size (chainSt l (1 - 1)) L ad N cap s.a1 s.a2 s.a3 s.k1 s.k2 s.k3 (wr.alloc (.cells (repC s.a1 (readRd s.b).K.length s.k1 s.a2 (readRd s.b).C.length s.k2 s.a3 (readRd s.b).E.length s.k3).toArray 27))) := by
                        rw [← HT0.out]
                        exact ⟨HI4.out.step hal, Bx.new _ _ _, HIN.out.keep hal, HI4.out.sz⟩
                      clear hal HT0
                      go_wp2_with fail
                      refine (rseq_any L ad N cap 0 _ HIL.out (by omega) HL4.out).mono ?_
                      rintro e w1 ⟨rfl, hw1⟩
                      obtain rfl : wr = w1 := hw1.symm
                      clear hw1
                      rw [HSQ.out]
                      clear HIN HL4 HI4
                      go_wp2_with fail
                      generalize wr.alloc (.cells (repC s.a1 (readRd s.b).K.length s.k1 s.a2 (readRd s.b).C.length s.k2 s.a3 (readRd s.b).E.length s.k3).toArray 27) = X0 at *
                      generalize wr.heap.size = gr at *
                      clear c2 c3 c4 hix hbl wr
                      go_loopw [18] (fun u wr => ∃ (n : Nat) (f1 f2 f3 : Option Addr) (g1 g2 g3 : Nat), 1 ≤ n ∧ n ≤ N ∧ u = .int .i64 n ∧ Rl w gr (chainSt l (n - 1)) L ad N cap f1 f2 f3 g1 g2 g3 wr) (fun u _ => N - (intOf u).toNat)
                      case atStart => exact ⟨1, _, _, _, _, _, _, Nat.le_refl _, hNp, rfl, HR0.out⟩
                      case round =>
                        clear HR0
                        obtain ⟨n, f1, f2, f3, g1, g2, g3, hn1, hn, rfl, hR⟩ := hrel
                        have HR : Hid (Rl w gr (chainSt l (n - 1)) L ad N cap f1 f2 f3 g1 g2 g3 wr) := hR
                        have hfew := chain_few HL.out (n - 1)
                        have hasc := chain_asc l (n - 1)
                        by_cases hlt : n < N
                        · have HL5 : Hid (Lies wr ad N 5 (fun i => (L.getD i sl0).c5)) := slvec5_lies hR.i.v HIL.out
                          have hq0 : slIx L (n : Int) < L.length := HALL.out n (by have := HIL.out; omega)
                          have hqN : slIx L (n : Int) < N := by rw [HIL.out]; exact hq0
                          have HT : Hid (chainSt l (n + 1 - 1) = layS (chainSt l (n - 1)) (readRd (L.getD (slIx L (n : Int)) sl0).b).st) := by show _ = _; rw [sl_link HM.out (n : Int)]; exact chain_next l hn1
                          have HIN : Hid (Sl.In wr (w.heap.size + 1) (L.getD (slIx L (n : Int)) sl0)) := hR.i.s _ (getD_mem hq0)
                          have hsh : (L.getD (slIx L (n : Int)) sl0).b.length ≤ 1048576 := by rw [sl_link HM.out (n : Int)]; exact link_short HL.out _
                          obtain ⟨b, o, hbl, hix, -, -, c2, c3, c4⟩ := Lies.sl5 (c := fun i => L.getD i sl0) HL5.out cap hqN
                          have KS : Hid (∀ X, Below wr.heap.size wr X → Calls Tryz.prog 26 #[.slice ad N cap, .int .i64 (n : Int)] X fun e w' => e = .returned (.int .i64 (slIx L (n : Int) : Int)) ∧ w' = X) := fun X hX => (rseq_any L ad N cap (n : Int) X HIL.out (by omega) (HL5.out.below hX)).mono fun e w' ⟨h1, h2⟩ => ⟨by rw [h1, seq_hit hq0], h2⟩
                          generalize slIx L (n : Int) = q at *
                          generalize L.getD q sl0 = s at *
                          have hfr := readRd_few s.b
                          have KO : Hid (∀ X, Below wr.heap.size wr X → Calls Tryz.prog 27 #[.agg #[.slice f1 (chainSt l (n - 1)).K.length g1, .slice f2 (chainSt l (n - 1)).C.length g2, .slice f3 (chainSt l (n - 1)).E.length g3], .agg #[.slice s.a1 (readRd s.b).K.length s.k1, .slice s.a2 (readRd s.b).C.length s.k2, .slice s.a3 (readRd s.b).E.length s.k3]] X fun e w' =>
                              ∃ e1 k1 e2 k2 e3 k3, e = .returned (.agg #[.slice e1 (chainSt l (n + 1 - 1)).K.length k1, .slice e2 (chainSt l (n + 1 - 1)).C.length k2, .slice e3 (chainSt l (n + 1 - 1)).E.length k3]) ∧ LT w' (w.heap.size + 1) (chainSt l (n + 1 - 1)) e1 e2 e3 k1 k2 k3 ∧ Below wr.heap.size wr w') := fun X hX => by
                            rw [HT.out]
                            have h1 : (n - 1 + 1) * 1048576 ≤ 16777216 := by omega
                            refine (rlaid_any (chainSt l (n - 1)) (readRd s.b).st (w.heap.size + 1) f1 f2 f3 s.a1 s.a2 s.a3 g1 g2 g3 s.k1 s.k2 s.k3 X (HR.out.l.keep hX) (HIN.out.keep hX) (HR.out.step hX).i.sz hasc ⟨by show _ + (readRd s.b).K.length ≤ _; omega, by show _ + (readRd s.b).C.length ≤ _; omega⟩).mono ?_
                            rintro e w' ⟨e1, k1, e2, k2, e3, k3, rfl, h2, h3⟩
                            exact ⟨e1, k1, e2, k2, e3, k3, rfl, h2, hX.trans (h3.mono hX.size)⟩
                          have x0 := HR.out.x.cell 0; have x1 := HR.out.x.cell 1; have x2 := HR.out.x.cell 2
                          dsimp only [List.getElem?_cons_zero, List.getElem?_cons_succ] at x0 x1 x2
                          clear hR hfew hasc hfr hsh hq0 HT HIN HL5
                          generalize chainSt l (n - 1) = U at *
                          generalize hV : chainSt l (n + 1 - 1) = V at *
                          have HV : Hid (chainSt l (n + 1 - 1) = V) := hV
                          clear hV
                          go_wp2_with fail
                          apply merge
                          · intro KEY
                            go_region_law (go_simp; first
                              | (go_at_call 26; refine (KS.out _ (by (repeat (first | exact Below.refl _ _ | refine Below.drew ?_)))).mono ?_; rintro e w1 ⟨rfl, rfl⟩; dsimp only)
                              | (go_at_call 27; refine (KO.out _ (by (repeat (first | exact Below.refl _ _ | refine Below.drew ?_)))).mono ?_; rintro e w1 ⟨e1, k1, e2, k2, e3, k3, rfl, hL1, hb1⟩; have ob := HR.out.x.below hb1 HR.out.x.lt; have ob0 := ob.cell 0; have ob1 := ob.cell 1; have ob2 := ob.cell 2; dsimp only [List.getElem?_cons_zero, List.getElem?_cons_succ] at ob0 ob1 ob2; have of0 := ob.frozen 0; have of1 := ob.frozen 1; have of2 := ob.frozen 2; dsimp only))
                            all_goals
                              have hN := (HR.out.step hb1).set hL1
                              generalize (((w1.setCell ⟨gr, 0, none⟩ (.slice e1 V.K.length k1)).setCell ⟨gr, 1, none⟩ (.slice e2 V.C.length k2)).setCell ⟨gr, 2, none⟩ (.slice e3 V.E.length k3)) = W1 at hN ⊢
                              clear hL1 hb1 ob ob0 ob1 ob2 of0 of1 of2
                              clear w1
                              revert e1 k1 e2 k2 e3 k3 W1
                              exact KEY.out
                          intro e1 k1 e2 k2 e3 k3 W1 hN
                          clear x0 x1 x2 c2 c3 c4 hix hbl KS KO HR
                          go_wp2_with fail
                          go_roundw
                          case rel => exact ⟨n + 1, e1, e2, e3, k1, k2, k3, by omega, by omega, by go_num, by rw [HV.out]; exact hN⟩
                          case measure => simp [intOf]; omega
                        · obtain rfl : N = n := by omega
                          rw [HN.out.symm] at HLAST
                          have hm : (N - 1 + 1) * 1048576 ≤ 16777216 := by omega
                          have f9 : (chainSt l (N - 1)).K.length ≤ 1099511627776 := by omega
                          have f8 : (chainSt l (N - 1)).C.length ≤ 1099511627776 := by omega
                          have f7 : (chainSt l (N - 1)).E.length ≤ 1099511627776 := by omega
                          clear hR hfew hasc hn1 hn hlt hm
                          generalize chainSt l (N - 1) = U at *
                          have HHA : Hid (Has wr (repOf U.K U.C U.E) f1 f2 f3 ∧ repV (repOf U.K U.C U.E) f1 f2 f3 g1 g2 g3 = .agg #[.slice f1 U.K.length g1, .slice f2 U.C.length g2, .slice f3 U.E.length g3]) := HR.out.l.has f9 f8 f7
                          have x0 := HR.out.x.cell 0; have x1 := HR.out.x.cell 1; have x2 := HR.out.x.cell 2
                          dsimp only [List.getElem?_cons_zero, List.getElem?_cons_succ] at x0 x1 x2
                          go_wp2_with fail
                          clear x0 x1 x2
                          have hck := rcheck_any (repOf U.K U.C U.E) f1 f2 f3 g1 g2 g3 _ HHA.out.1
                          rw [HHA.out.2] at hck
                          refine hck.mono ?_
                          rintro e w2 ⟨rfl, hb2⟩
                          clear hck HHA
                          have HR2 : Hid (Rl w gr U L ad N cap f1 f2 f3 g1 g2 g3 w2) := HR.out.step hb2
                          have HCK : Hid ((repOf U.K U.C U.E).chk = U.rep.chk) := rfl
                          rw [HCK.out]
                          clear hb2 HR HCK
                          by_cases hc : U.rep.chk = 0
                          · have E : Hid (replayRd l = ⟨0, 0, 0, 0, U.K, U.C, U.E⟩) := by show _ = _; rw [HLAST.out, if_pos hc]
                            rw [hc]
                            clear hc HLAST
                            have x0 := HR2.out.x.cell 0; have x1 := HR2.out.x.cell 1; have x2 := HR2.out.x.cell 2
                            dsimp only [List.getElem?_cons_zero, List.getElem?_cons_succ] at x0 x1 x2
                            have hr := HR2.out.i.r
                            go_wp2_with (refine wpList_bstore (by rfl) _ _ _ (by rfl) w.heap.size 27 (by rfl) _ _ (by rfl) hr 3 (by rfl) (by kernel_rfl) (by rfl) (by intro x hx; simp at hx; rcases hx with rfl | rfl | rfl <;> rfl) ?_; intro w9 hr9 hu9)
                            exact bodyPost_ret (v := .tuple #[.agg #[.slice f1 U.K.length g1, .slice f2 U.C.length g2, .slice f3 U.E.length g3], .int .i64 0, .int .i64 0]) (results_box3 (by rfl) _ _ w.heap.size 27 _ _ _ _ (by rfl) hr9 (by rfl) (by rfl) Tryz.underlying27 (by rfl) 3 (by rfl) (by kernel_rfl)) rfl ⟨by rw [E.out]; exact ⟨f1, _, g1, f2, _, g2, f3, _, g3, rfl, (HR2.out.l.upd hu9 (by omega)).mono (Nat.le_succ _)⟩, hu9.below HR2.out.i.old (Nat.le_refl _)⟩
                          · have E : Hid (replayRd l = ansErr U.rep.chk 0) := by show _ = _; rw [HLAST.out, if_neg hc]
                            have hcb : (U.rep.chk != 0) = true := bne_iff_ne.mpr hc
                            clear hc HLAST
                            have HRX : Hid (Rr w w2 L ad N cap) := HR2.out.i
                            have hr := HRX.out.r
                            generalize U.rep.chk = ck at *
                            go_wp2_with (refine wpList_bstore (by rfl) _ _ _ (by rfl) w.heap.size 27 (by rfl) _ _ (by rfl) hr 3 (by rfl) (by kernel_rfl) (by rfl) (by intro x hx; simp at hx; subst hx; rfl) ?_; intro w9 hr9 hu9)
                            exact bodyPost_ret (v := .tuple #[.agg (repC none 0 0 none 0 0 none 0 0).toArray, .int .i64 ck, .int .i64 0]) (results_box3 (by rfl) _ _ w.heap.size 27 _ _ _ _ (by rfl) hr9 (by rfl) (by rfl) Tryz.underlying27 (by rfl) 3 (by rfl) (by kernel_rfl)) rfl ⟨by rw [E.out]; exact ⟨none, 0, 0, none, 0, 0, none, 0, 0, rfl, Lists.nil _ _⟩, hu9.below HRX.out.old (Nat.le_refl _)⟩

end Go.Proofs.YtdjpkgaicmklmaaGreat

/- cardFollows, Follows, newState of the program: walked. -/
namespace Go.Proofs.YtdjpkgaicmklmaaGreat
open Go.RowKit

set_option maxRecDepth 100000 in
set_option maxHeartbeats 4000000 in
theorem cardFollows_any (x y : Cd) (w : World) :
    Calls Tryz.prog 52 #[cdV x, cdV y] w fun e w' => e = .returned (.bool (laterB y x || decide (y = x))) ∧ Below w.heap.size w w' := by
  obtain ⟨hA, hB, hs, hb⟩ := two_boxes w 39 39 x.cells.toArray y.cells.toArray
  have a0 := hA.cell 0; have a1 := hA.cell 1; have a2 := hA.cell 2; have a3 := hA.cell 3; have a4 := hA.cell 4
  have b0 := hB.cell 0; have b1 := hB.cell 1; have b2 := hB.cell 2; have b3 := hB.cell 3; have b4 := hB.cell 4
  dsimp only [List.getElem?_cons_zero, List.getElem?_cons_succ] at a0 a1 a2 a3 a4 b0 b1 b2 b3 b4
  have HA : Hid (∀ w', Below ((w.alloc (.cells x.cells.toArray 39)).alloc (.cells y.cells.toArray 39)).heap.size ((w.alloc (.cells x.cells.toArray 39)).alloc (.cells y.cells.toArray 39)) w' → Bx w' w.heap.size 39 x.cells ∧ Bx w' (w.heap.size + 1) 39 y.cells ∧ Below w.heap.size w w') := fun w' h => ⟨hA.below h hA.lt, hB.below h hB.lt, hb.trans (h.mono hb.size)⟩
  clear hA hB hs hb
  cases hl : laterB y x with
  | true =>
    have HL : Hid (laterB y x = true) := hl
    clear hl
    go_enter Tryz.func52, Tryz.ntmps52
    go_wp2_with fail
    refine (plater_any y x _).mono ?_
    rintro e w1 ⟨rfl, hb1⟩
    rw [HL.out]
    obtain ⟨-, -, hbw⟩ := HA.out w1 hb1
    clear hb1
    go_wp2_with fail
    go_ret
    exact ⟨rfl, hbw⟩
  | false =>
    have HL : Hid (laterB y x = false) := hl
    clear hl
    go_enter Tryz.func52, Tryz.ntmps52
    go_wp2_with fail
    refine (plater_any y x _).mono ?_
    rintro e w1 ⟨rfl, hb1⟩
    rw [HL.out]
    obtain ⟨hA, hB, hbw⟩ := HA.out w1 hb1
    clear hb1 a0 a1 a2 a3 a4 b0 b1 b2 b3 b4
    have a0 := hA.cell 0; have a1 := hA.cell 1; have a2 := hA.cell 2; have a3 := hA.cell 3; have a4 := hA.cell 4
    have b0 := hB.cell 0; have b1 := hB.cell 1; have b2 := hB.cell 2; have b3 := hB.cell 3; have b4 := hB.cell 4
    dsimp only [List.getElem?_cons_zero, List.getElem?_cons_succ] at a0 a1 a2 a3 a4 b0 b1 b2 b3 b4
    clear hA hB
    have HBW : Hid (Below w.heap.size w w1) := hbw
    clear hbw
    go_wp2_with fail
    refine (sameCard_any x y _).mono ?_
    rintro e w2 ⟨rfl, hb2⟩
    have hbw2 := HBW.out.trans (hb2.mono HBW.out.size)
    clear hb2
    have HE : Hid (decide (x = y) = decide (y = x)) := by
      show _ = _
      by_cases h : x = y
      · subst h; rfl
      · rw [decide_eq_false h, decide_eq_false (fun h2 => h h2.symm)]
    go_wp2_with fail
    go_ret
    exact ⟨by rw [Bool.false_or, ← HE.out]; rfl, hbw2⟩

/-- One card of the elder: is it there, as it is or later? -/
def fcB (r : List Cd) (c : Cd) : Bool := match look Cd.id r c.id with
  | some d => laterB d c || decide (d = c)
  | none => false
theorem fc_in {r : List Cd} {c : Cd} (h : cardIx r c.id < r.length) : fcB r c = (laterB (r.getD (cardIx r c.id) cd0) c || decide (r.getD (cardIx r c.id) cd0 = c)) := by
  unfold fcB; rw [cardIx_look, if_pos h]
theorem fc_end {r : List Cd} {c : Cd} (h : ¬ cardIx r c.id < r.length) : fcB r c = false := by
  unfold fcB; rw [cardIx_look, if_neg h]
def fkB (r : List Ck) (c : Ck) : Bool := match look Ck.site r c.site with
  | some d => decide (c.count ≤ d.count)
  | none => false
theorem fk_clk {r : List Ck} {c : Ck} (hp : 1 ≤ c.count) : fkB r c = decide (¬ clkOf r c.site < c.count) := by
  unfold fkB clkOf
  cases look Ck.site r c.site with
  | some d => simp only; congr 1; exact propext ⟨fun h => by omega, fun h => by omega⟩
  | none => simp only; rw [decide_eq_false (by omega)]
theorem follow_no1 {o r : Tri} {i : Nat} (hi : i < o.K.length) (hp : 1 ≤ (o.K.getD i ck0).count) (h : clkOf r.K (o.K.getD i ck0).site < (o.K.getD i ck0).count) : followB o r = false := by
  have : followK o.K r.K = false := by
    unfold followK
    rw [List.all_eq_false]
    refine ⟨o.K.getD i ck0, getD_mem hi, ?_⟩
    show ¬ fkB r.K (o.K.getD i ck0) = true
    rw [fk_clk hp, decide_eq_false (by omega)]; decide
  unfold followB
  rw [this]; rfl
theorem follow_no2 {o r : Tri} {i : Nat} (hi : i < o.C.length) (h : fcB r.C (o.C.getD i cd0) = false) : followB o r = false := by
  have : followC o.C r.C = false := by
    unfold followC
    rw [List.all_eq_false]
    exact ⟨o.C.getD i cd0, getD_mem hi, by show ¬ fcB r.C (o.C.getD i cd0) = true; rw [h]; decide⟩
  unfold followB
  rw [this, Bool.and_false]
theorem follow_yes {o r : Tri} (hp : ∀ x ∈ o.K, 1 ≤ x.count) (h1 : ∀ i, i < o.K.length → ¬ clkOf r.K (o.K.getD i ck0).site < (o.K.getD i ck0).count) (h2 : ∀ i, i < o.C.length → fcB r.C (o.C.getD i cd0) = true) : followB o r = true := by
  unfold followB followK followC
  rw [Bool.and_eq_true, List.all_eq_true, List.all_eq_true]
  constructor
  · intro x hx
    obtain ⟨i, hi, rfl⟩ := List.mem_iff_getElem.1 hx
    have e : o.K.getD i ck0 = o.K[i] := by simp [List.getD, hi]
    have := h1 i hi
    rw [e] at this
    show fkB r.K o.K[i] = true
    rw [fk_clk (hp _ hx)]; exact decide_eq_true this
  · intro x hx
    obtain ⟨i, hi, rfl⟩ := List.mem_iff_getElem.1 hx
    have e : o.C.getD i cd0 = o.C[i] := by simp [List.getD, hi]
    have := h2 i hi
    rw [e] at this
    exact this
theorem counts_of {R : Tri} (h : R.rep.chk = 0) : ∀ x ∈ R.K, 1 ≤ x.count := fun x hx => by
  obtain ⟨i, hi, rfl⟩ := List.mem_iff_getElem.1 hx
  have := ((Rep.nums h).1 i hi).2.2
  simpa [Tri.rep, repOf, List.getD, hi] using this
end Go.Proofs.YtdjpkgaicmklmaaGreat

/- parcelref.Follows: walked. -/
namespace Go.Proofs.YtdjpkgaicmklmaaGreat
open Go.RowKit

theorem ba_self (x : ByteArray) : (x == x) = true := by
  cases x with | mk a => show (a == a) = true; simp
theorem rep_clk (R : Tri) (s : Int) : R.rep.clk s = clkOf R.K s := clk_list rfl s
theorem find_in {R : Tri} {id : Int} (h : cardIx R.C id < R.C.length) : findI R.rep id = (cardIx R.C id : Int) := by
  have h2 : ((R.C.getD (cardIx R.C id) cd0).id == id) = true := by
    have := List.findIdx_getElem (p := fun c : Cd => c.id == id) (xs := R.C) (w := h)
    rw [List.getD_eq_getElem?_getD, List.getElem?_eq_getElem h]; exact this
  have h3 : ∀ j, j < cardIx R.C id → ((R.C.getD j cd0).id == id) = false := fun j hj => by
    have := List.not_of_lt_findIdx (p := fun c : Cd => c.id == id) (xs := R.C) hj
    have hjl : j < R.C.length := Nat.lt_trans hj h
    rw [List.getD_eq_getElem?_getD, List.getElem?_eq_getElem hjl]; simpa using this
  unfold findI findR
  rw [(firstOf_some (f := fun i => (R.rep.d i).id == id) (n := R.rep.n2) (i := cardIx R.C id)).mpr ⟨h2, h, h3⟩]
theorem find_out {R : Tri} {id : Int} (h : ¬ cardIx R.C id < R.C.length) : findI R.rep id = -1 := by
  have h3 : ∀ j, j < R.C.length → ((R.C.getD j cd0).id == id) = false := fun j hj => by
    have := List.not_of_lt_findIdx (p := fun c : Cd => c.id == id) (xs := R.C) (show j < R.C.findIdx _ from by unfold cardIx at h; omega)
    rw [List.getD_eq_getElem?_getD, List.getElem?_eq_getElem hj]; simpa using this
  unfold findI findR
  rw [(firstOf_none (f := fun i => (R.rep.d i).id == id) (n := R.rep.n2)).mpr h3]

set_option maxRecDepth 100000 in
set_option maxHeartbeats 8000000 in
theorem rfollows_any (O R : Tri) (a1 a2 a3 b1 b2 b3 : Option Addr) (k1 k2 k3 l1 l2 l3 : Nat) (w : World) (hO : Has w O.rep a1 a2 a3) (hR : Has w R.rep b1 b2 b3) (hp : ∀ x ∈ O.K, 1 ≤ x.count) (f1 : O.K.length ≤ 1000 ∧ O.C.length ≤ 1000) (f2 : R.K.length ≤ 1000 ∧ R.C.length ≤ 1000) :
    Calls Tryz.prog 13 #[repV O.rep a1 a2 a3 k1 k2 k3, repV R.rep b1 b2 b3 l1 l2 l3] w fun e w' => e = .returned (.bool (followB O R)) ∧ Below w.heap.size w w' := by
  obtain ⟨u1, u2⟩ := f1
  obtain ⟨v1, v2⟩ := f2
  have h0 : BoxT w O.rep R.rep a1 a2 a3 b1 b2 b3 k1 k2 k3 l1 l2 l3 ((w.alloc (.cells #[.slice a1 O.rep.n1 k1, .slice a2 O.rep.n2 k2, .slice a3 O.rep.n3 k3] 27)).alloc (.cells #[.slice b1 R.rep.n1 l1, .slice b2 R.rep.n2 l2, .slice b3 R.rep.n3 l3] 27)) := Below.refl _ _
  have H0 : Hid (BoxT w O.rep R.rep a1 a2 a3 b1 b2 b3 k1 k2 k3 l1 l2 l3 ((w.alloc (.cells #[.slice a1 O.rep.n1 k1, .slice a2 O.rep.n2 k2, .slice a3 O.rep.n3 k3] 27)).alloc (.cells #[.slice b1 R.rep.n1 l1, .slice b2 R.rep.n2 l2, .slice b3 R.rep.n3 l3] 27))) := h0
  have HO : Hid (Has w O.rep a1 a2 a3) := hO
  have HR : Hid (Has w R.rep b1 b2 b3) := hR
  have HP : Hid (∀ x ∈ O.K, 1 ≤ x.count) := hp
  have y1 : O.rep.n1 ≤ 1000 := u1
  have y2 : O.rep.n2 ≤ 1000 := u2
  have y3 : R.rep.n1 ≤ 1000 := v1
  have y4 : R.rep.n2 ≤ 1000 := v2
  clear h0 hO hR hp u1 u2 v1 v2
  go_enter Tryz.func13, Tryz.ntmps13
  go_wp2_with fail
  go_loopw [5, 6] (fun u _ wr => ∃ i : Nat, i ≤ O.rep.n1 ∧ u = .int .i64 i ∧ (∀ j, j < i → (O.K.getD j ck0).count ≤ clkOf R.K (O.K.getD j ck0).site) ∧ BoxT w O.rep R.rep a1 a2 a3 b1 b2 b3 k1 k2 k3 l1 l2 l3 wr) (fun u _ _ => O.rep.n1 - (intOf u).toNat)
  case atStart => exact ⟨0, Nat.zero_le _, rfl, fun j hj => by omega, H0.out⟩
  case round =>
    clear H0
    obtain ⟨i, hi, rfl, hno, hb⟩ := hrel
    have HNO : Hid (∀ j, j < i → (O.K.getD j ck0).count ≤ clkOf R.K (O.K.getD j ck0).site) := hno
    clear hno
    obtain ⟨⟨x1, x2, x3⟩, z1, z2, z3⟩ := hb.cells
    have HBX : Hid (∀ X, Below wr.heap.size wr X → BoxT w O.rep R.rep a1 a2 a3 b1 b2 b3 k1 k2 k3 l1 l2 l3 X) := fun X h => Below.trans hb (h.mono (by have := hb.size; simp at this; omega))
    by_cases hlt : i < O.rep.n1
    · obtain ⟨b, o, hbl, hix, c0, c1⟩ := Lies.clock (c := fun i => O.K.getD i ck0) (HO.out.below hb.old).l1 k1 hlt
      have HC : Hid (1 ≤ (O.K.getD i ck0).count) := HP.out _ (getD_mem hlt)
      have HNOF : Hid (clkOf R.K (O.K.getD i ck0).site < (O.K.getD i ck0).count → followB O R = false) := fun h => follow_no1 hlt HC.out h
      have HGO : Hid ((O.K.getD i ck0).count ≤ clkOf R.K (O.K.getD i ck0).site → ∀ j, j < i + 1 → (O.K.getD j ck0).count ≤ clkOf R.K (O.K.getD j ck0).site) := fun h j hj => by
        rcases Nat.lt_or_ge j i with h2 | h2
        · exact HNO.out j h2
        · rw [show j = i by omega]; exact h
      generalize O.K.getD i ck0 = c at *
      have KQ : Hid (∀ X, Below wr.heap.size wr X → Calls Tryz.prog 16 #[.agg #[.slice b1 R.rep.n1 l1, .slice b2 R.rep.n2 l2, .slice b3 R.rep.n3 l3], .int .i64 c.site] X fun e w' => e = .returned (.int .i64 (clkOf R.K c.site)) ∧ Below wr.heap.size wr w') := fun X hX => (clocked_any R.rep b1 b2 b3 l1 l2 l3 c.site X (HR.out.below (HBX.out X hX).old)).mono fun e w' ⟨h1, h2⟩ => ⟨by rw [h1, rep_clk], hX.trans (h2.mono hX.size)⟩
      clear HNO hb HC
      go_wp2_with fail
      apply merge
      · intro KEY
        go_region_law (go_simp; go_at_call 16; refine (KQ.out _ (by (repeat (first | exact Below.refl _ _ | refine Below.drew ?_)))).mono ?_; rintro e w1 ⟨rfl, hb1⟩; dsimp only)
        all_goals
          revert w1
          exact KEY.out
      intro w1 hb1
      have c1q : w1.cell? ⟨b, o + 1, none⟩ = some (.int .i64 c.count) := (hb1.cell (p := ⟨b, o + 1, none⟩) hbl).trans c1
      have hbq := HBX.out w1 hb1
      clear KQ HBX x1 x2 x3 z1 z2 z3 c0 c1 hb1
      obtain ⟨⟨x1, x2, x3⟩, z1, z2, z3⟩ := hbq.cells
      by_cases hq : clkOf R.K c.site < c.count
      · have E : Hid (followB O R = false) := HNOF.out hq
        generalize clkOf R.K c.site = y at *
        go_wp2_with fail
        go_ret
        exact ⟨by rw [E.out]; rfl, hbq.old⟩
      · have E : Hid (∀ j, j < i + 1 → (O.K.getD j ck0).count ≤ clkOf R.K (O.K.getD j ck0).site) := HGO.out (by omega)
        generalize clkOf R.K c.site = y at *
        go_wp2_with fail
        go_roundw
        case rel => exact ⟨i + 1, by omega, by go_num, E.out, hbq⟩
        case measure => simp [intOf]; omega
    · obtain rfl : O.rep.n1 = i := by omega
      have HK : Hid (∀ j, j < O.K.length → (O.K.getD j ck0).count ≤ clkOf R.K (O.K.getD j ck0).site) := HNO.out
      have HBB : Hid (BoxT w O.rep R.rep a1 a2 a3 b1 b2 b3 k1 k2 k3 l1 l2 l3 wr) := hb
      clear HNO hb HBX
      go_wp2_with fail
      clear x1 x2 x3 z1 z2 z3
      go_loopw [7, 8, 9, 10] (fun u _ _ _ wr => ∃ i : Nat, i ≤ O.rep.n2 ∧ u = .int .i64 i ∧ (∀ j, j < i → fcB R.C (O.C.getD j cd0) = true) ∧ BoxT w O.rep R.rep a1 a2 a3 b1 b2 b3 k1 k2 k3 l1 l2 l3 wr) (fun u _ _ _ _ => O.rep.n2 - (intOf u).toNat)
      case atStart => exact ⟨0, Nat.zero_le _, rfl, fun j hj => by omega, HBB.out⟩
      case round =>
        clear HBB
        obtain ⟨i, hi, rfl, hno, hb⟩ := hrel
        have HNO : Hid (∀ j, j < i → fcB R.C (O.C.getD j cd0) = true) := hno
        clear hno
        obtain ⟨⟨x1, x2, x3⟩, z1, z2, z3⟩ := hb.cells
        by_cases hlt : i < O.rep.n2
        · obtain ⟨b, o, hbl, hix, c0, c1, c2, c3, c4⟩ := Lies.card (c := fun i => O.C.getD i cd0) (HO.out.below hb.old).l2 k2 hlt
          have HNOF : Hid (fcB R.C (O.C.getD i cd0) = false → followB O R = false) := fun h => follow_no2 hlt h
          have HGO : Hid (fcB R.C (O.C.getD i cd0) = true → ∀ j, j < i + 1 → fcB R.C (O.C.getD j cd0) = true) := fun h j hj => by
            rcases Nat.lt_or_ge j i with h2 | h2
            · exact HNO.out j h2
            · rw [show j = i by omega]; exact h
          generalize O.C.getD i cd0 = c at *
          have hal : Below wr.heap.size wr (wr.alloc (.cells c.cells.toArray 39)) := (Below.refl _ _).alloc (Nat.le_refl _) _
          have HBA : Hid (Bx (wr.alloc (.cells c.cells.toArray 39)) wr.heap.size 39 c.cells) := Bx.new _ _ _
          have HBX : Hid (BoxT w O.rep R.rep a1 a2 a3 b1 b2 b3 k1 k2 k3 l1 l2 l3 (wr.alloc (.cells c.cells.toArray 39))) := Below.trans hb (hal.mono (by have := hb.size; simp at this; omega))
          have d0 := HBA.out.cell 0
          obtain ⟨-, q1, q2, q3⟩ := HBX.out.cells
          dsimp only [List.getElem?_cons_zero, List.getElem?_cons_succ] at d0
          clear HNO hb hal
          go_wp2_with fail
          generalize wr.alloc (.cells c.cells.toArray 39) = X at *
          generalize wr.heap.size = gc at *
          clear x1 x2 x3 z1 z2 z3 c0 c1 c2 c3 c4 hbl hix d0 q1 q2 q3 wr
          refine (find_any R.rep b1 b2 b3 l1 l2 l3 c.id _ (HR.out.below HBX.out.old)).mono ?_
          rintro e w1 ⟨rfl, hb1⟩
          have HB1 : Hid (Bx w1 gc 39 c.cells) := HBA.out.below hb1 HBA.out.lt
          have HX1 : Hid (BoxT w O.rep R.rep a1 a2 a3 b1 b2 b3 k1 k2 k3 l1 l2 l3 w1) := Below.trans HBX.out (hb1.mono (by have := HBX.out.size; simp at this; omega))
          clear hb1 HBA HBX X
          by_cases hq : cardIx R.C c.id < R.rep.n2
          · rw [find_in (R := R) hq]
            obtain ⟨bo, oo, hblo, hixo, g0, g1, g2, g3, g4⟩ := Lies.card (c := fun i => R.C.getD i cd0) (HR.out.below HX1.out.old).l2 l2 hq
            have HF : Hid (fcB R.C c = (laterB (R.C.getD (cardIx R.C c.id) cd0) c || decide (R.C.getD (cardIx R.C c.id) cd0 = c))) := fc_in hq
            generalize R.C.getD (cardIx R.C c.id) cd0 = d at *
            generalize cardIx R.C c.id = qx at *
            have hq0 : ¬ (qx : Int) < 0 := by omega
            obtain ⟨⟨x1, x2, x3⟩, z1, z2, z3⟩ := HX1.out.cells
            have d0 := HB1.out.cell 0; have d1 := HB1.out.cell 1; have d2 := HB1.out.cell 2; have d3 := HB1.out.cell 3; have d4 := HB1.out.cell 4
            dsimp only [List.getElem?_cons_zero, List.getElem?_cons_succ] at d0 d1 d2 d3 d4
            have HS : Hid (∀ X, Below w1.heap.size w1 X → BoxT w O.rep R.rep a1 a2 a3 b1 b2 b3 k1 k2 k3 l1 l2 l3 X ∧ Bx X gc 39 c.cells ∧ (X.cell? ⟨bo, oo, none⟩ = some (.int .i64 d.id) ∧ X.cell? ⟨bo, oo + 1, none⟩ = some (.int .i64 d.site) ∧ X.cell? ⟨bo, oo + 2, none⟩ = some (.int .i64 d.count) ∧ X.cell? ⟨bo, oo + 3, none⟩ = some (.bool d.gone) ∧ X.cell? ⟨bo, oo + 4, none⟩ = some (.string d.text))) := fun X h =>
              ⟨Below.trans HX1.out (h.mono (by have := HX1.out.size; simp at this; omega)), HB1.out.below h HB1.out.lt, (h.cell (p := ⟨bo, oo, none⟩) hblo).trans g0, (h.cell (p := ⟨bo, oo + 1, none⟩) hblo).trans g1, (h.cell (p := ⟨bo, oo + 2, none⟩) hblo).trans g2, (h.cell (p := ⟨bo, oo + 3, none⟩) hblo).trans g3, (h.cell (p := ⟨bo, oo + 4, none⟩) hblo).trans g4⟩
            have KL : Hid (∀ X, Below w1.heap.size w1 X → Calls Tryz.prog 31 #[.agg #[.int .i64 d.id, .int .i64 d.site, .int .i64 d.count, .bool d.gone, .string d.text], .agg #[.int .i64 c.id, .int .i64 c.site, .int .i64 c.count, .bool c.gone, .string c.text]] X fun e w' => e = .returned (.bool (laterB d c)) ∧ Below w1.heap.size w1 w') := fun X hX => (rlater_any d c X).mono fun e w' ⟨h1, h2⟩ => ⟨h1, hX.trans (h2.mono hX.size)⟩
            clear HX1 HB1
            go_wp2_with fail
            apply merge
            · intro KEY
              go_region_law (go_simp; go_at_call 31; refine (KL.out _ (by (repeat (first | exact Below.refl _ _ | refine Below.drew ?_)))).mono ?_; rintro e w2 ⟨rfl, hb2⟩; dsimp only)
              all_goals
                revert w2
                exact KEY.out
            intro w2 hb2
            go_simp
            obtain ⟨hX2, hB2, s0, s1, s2, s3, s4⟩ := HS.out w2 hb2
            have HX2 : Hid (BoxT w O.rep R.rep a1 a2 a3 b1 b2 b3 k1 k2 k3 l1 l2 l3 w2) := hX2
            clear x1 x2 x3 z1 z2 z3 d0 d1 d2 d3 d4 g0 g1 g2 g3 g4 hb2 KL HS hX2
            obtain ⟨-, z1, z2, z3⟩ := HX2.out.cells
            have d0 := hB2.cell 0; have d1 := hB2.cell 1; have d2 := hB2.cell 2; have d3 := hB2.cell 3; have d4 := hB2.cell 4
            dsimp only [List.getElem?_cons_zero, List.getElem?_cons_succ] at d0 d1 d2 d3 d4
            clear hB2
            cases hl : laterB d c with
            | true =>
              have E : Hid (∀ j, j < i + 1 → fcB R.C (O.C.getD j cd0) = true) := HGO.out (by rw [HF.out, hl]; rfl)
              clear HF HGO HNOF hl
              go_wp2_with fail
              go_quiet (fail)
              go_wp2_with fail
              go_roundw
              case rel => exact ⟨i + 1, by omega, by go_num, E.out, below_drewN HX2.out _⟩
              case measure => simp [intOf]; omega
            | false =>
              by_cases he : d = c
              · have E : Hid (∀ j, j < i + 1 → fcB R.C (O.C.getD j cd0) = true) := HGO.out (by rw [HF.out, hl, decide_eq_true he]; rfl)
                clear HF HGO HNOF hl
                subst he
                have hs0 : (d.text == d.text) = true := ba_self _
                have hs1 : (d.text.toList == d.text.toList) = true := by simp
                go_wp2_with fail
                go_quiet (fail)
                go_wp2_with fail
                go_roundw
                case rel => exact ⟨i + 1, by omega, by go_num, E.out, below_drewN HX2.out _⟩
                case measure => simp [intOf]; omega
              · have E : Hid (followB O R = false) := HNOF.out (by rw [HF.out, hl, decide_eq_false he]; rfl)
                have hne := cd_ne he
                clear HF HGO HNOF hl he
                rcases hne with hne | ⟨r1, hne⟩ | ⟨r1, r2, hne⟩ | ⟨r1, r2, r3, hne⟩ | ⟨r1, r2, r3, r4, hne⟩
                · have qi : (d.id == c.id) = false := by rw [beq_eq_false_iff_ne]; exact hne
                  clear hne
                  go_wp2_with fail
                  go_quiet (fail)
                  go_wp2_with fail
                  go_ret
                  exact ⟨by rw [E.out]; rfl, BoxT.old (below_drewN HX2.out _)⟩
                · have qi : (d.id == c.id) = true := by simp [r1]
                  have qs : (d.site == c.site) = false := by rw [beq_eq_false_iff_ne]; exact hne
                  clear hne r1
                  go_wp2_with fail
                  go_quiet (fail)
                  go_wp2_with fail
                  go_ret
                  exact ⟨by rw [E.out]; rfl, BoxT.old (below_drewN HX2.out _)⟩
                · have qi : (d.id == c.id) = true := by simp [r1]
                  have qs : (d.site == c.site) = true := by simp [r2]
                  have qc : (d.count == c.count) = false := by rw [beq_eq_false_iff_ne]; exact hne
                  clear hne r1 r2
                  go_wp2_with fail
                  go_quiet (fail)
                  go_wp2_with fail
                  go_ret
                  exact ⟨by rw [E.out]; rfl, BoxT.old (below_drewN HX2.out _)⟩
                · have qi : (d.id == c.id) = true := by simp [r1]
                  have qs : (d.site == c.site) = true := by simp [r2]
                  have qc : (d.count == c.count) = true := by simp [r3]
                  have qg : (d.gone == c.gone) = false := by rw [beq_eq_false_iff_ne]; exact hne
                  clear hne r1 r2 r3
                  go_wp2_with fail
                  go_quiet (fail)
                  go_wp2_with fail
                  go_ret
                  exact ⟨by rw [E.out]; rfl, BoxT.old (below_drewN HX2.out _)⟩
                · have qi : (d.id == c.id) = true := by simp [r1]
                  have qs : (d.site == c.site) = true := by simp [r2]
                  have qc : (d.count == c.count) = true := by simp [r3]
                  have qg : (d.gone == c.gone) = true := by simp [r4]
                  have hnb := ba_beq hne
                  have hnl := bl_beq hne
                  clear hne r1 r2 r3 r4
                  go_wp2_with fail
                  go_quiet (fail)
                  go_wp2_with fail
                  go_ret
                  exact ⟨by rw [E.out]; rfl, BoxT.old (below_drewN HX2.out _)⟩
          · have E : Hid (followB O R = false) := HNOF.out (fc_end hq)
            rw [find_out (R := R) hq]
            clear hq
            go_wp2_with fail
            go_ret
            exact ⟨by rw [E.out]; rfl, HX1.out.old⟩
        · obtain rfl : O.rep.n2 = i := by omega
          have E : Hid (followB O R = true) := follow_yes HP.out (fun j hj => by have := HK.out j hj; omega) HNO.out
          go_wp2_with fail
          go_ret
          exact ⟨by rw [E.out]; rfl, hb.old⟩
end Go.Proofs.YtdjpkgaicmklmaaGreat

/- Follows of the program: walked. -/
namespace Go.Proofs.YtdjpkgaicmklmaaGreat
open Go.RowKit

set_option maxRecDepth 100000 in
set_option maxHeartbeats 8000000 in
theorem pfollows_any (O R : Tri) (a1 a2 a3 b1 b2 b3 : Option Addr) (k1 k2 k3 l1 l2 l3 : Nat) (w : World) (hO : Has w O.rep a1 a2 a3) (hR : Has w R.rep b1 b2 b3) (hp : ∀ x ∈ O.K, 1 ≤ x.count) (f1 : O.K.length ≤ 1000 ∧ O.C.length ≤ 1000) (f2 : R.K.length ≤ 1000 ∧ R.C.length ≤ 1000) :
    Calls Tryz.prog 23 #[repV O.rep a1 a2 a3 k1 k2 k3, repV R.rep b1 b2 b3 l1 l2 l3] w fun e w' => e = .returned (.bool (followB O R)) ∧ Below w.heap.size w w' := by
  obtain ⟨u1, u2⟩ := f1
  obtain ⟨v1, v2⟩ := f2
  have h0 : BoxT w O.rep R.rep a1 a2 a3 b1 b2 b3 k1 k2 k3 l1 l2 l3 ((w.alloc (.cells #[.slice a1 O.rep.n1 k1, .slice a2 O.rep.n2 k2, .slice a3 O.rep.n3 k3] 27)).alloc (.cells #[.slice b1 R.rep.n1 l1, .slice b2 R.rep.n2 l2, .slice b3 R.rep.n3 l3] 27)) := Below.refl _ _
  have H0 : Hid (BoxT w O.rep R.rep a1 a2 a3 b1 b2 b3 k1 k2 k3 l1 l2 l3 ((w.alloc (.cells #[.slice a1 O.rep.n1 k1, .slice a2 O.rep.n2 k2, .slice a3 O.rep.n3 k3] 27)).alloc (.cells #[.slice b1 R.rep.n1 l1, .slice b2 R.rep.n2 l2, .slice b3 R.rep.n3 l3] 27))) := h0
  have HO : Hid (Has w O.rep a1 a2 a3) := hO
  have HR : Hid (Has w R.rep b1 b2 b3) := hR
  have HP : Hid (∀ x ∈ O.K, 1 ≤ x.count) := hp
  have y1 : O.rep.n1 ≤ 1000 := u1
  have y2 : O.rep.n2 ≤ 1000 := u2
  have y3 : R.rep.n1 ≤ 1000 := v1
  have y4 : R.rep.n2 ≤ 1000 := v2
  clear h0 hO hR hp u1 u2 v1 v2
  go_enter Tryz.func23, Tryz.ntmps23
  go_wp2_with fail
  go_loopw [5, 6] (fun u _ wr => ∃ i : Nat, i ≤ O.rep.n1 ∧ u = .int .i64 i ∧ (∀ j, j < i → (O.K.getD j ck0).count ≤ clkOf R.K (O.K.getD j ck0).site) ∧ BoxT w O.rep R.rep a1 a2 a3 b1 b2 b3 k1 k2 k3 l1 l2 l3 wr) (fun u _ _ => O.rep.n1 - (intOf u).toNat)
  case atStart => exact ⟨0, Nat.zero_le _, rfl, fun j hj => by omega, H0.out⟩
  case round =>
    clear H0
    obtain ⟨i, hi, rfl, hno, hb⟩ := hrel
    have HNO : Hid (∀ j, j < i → (O.K.getD j ck0).count ≤ clkOf R.K (O.K.getD j ck0).site) := hno
    clear hno
    obtain ⟨⟨x1, x2, x3⟩, z1, z2, z3⟩ := hb.cells
    by_cases hlt : i < O.rep.n1
    · obtain ⟨b, o, hbl, hix, c0, c1⟩ := Lies.clock (c := fun i => O.K.getD i ck0) (HO.out.below hb.old).l1 k1 hlt
      have HC : Hid (1 ≤ (O.K.getD i ck0).count) := HP.out _ (getD_mem hlt)
      have HNOF : Hid (clkOf R.K (O.K.getD i ck0).site < (O.K.getD i ck0).count → followB O R = false) := fun h => follow_no1 hlt HC.out h
      have HGO : Hid ((O.K.getD i ck0).count ≤ clkOf R.K (O.K.getD i ck0).site → ∀ j, j < i + 1 → (O.K.getD j ck0).count ≤ clkOf R.K (O.K.getD j ck0).site) := fun h j hj => by
        rcases Nat.lt_or_ge j i with h2 | h2
        · exact HNO.out j h2
        · rw [show j = i by omega]; exact h
      have HLR : Hid (∀ q, Lies (wr.drewN q) b1 R.rep.n1 2 (fun i => (R.K.getD i ck0).cells)) := fun q => (HR.out.below hb.old).l1.below (below_drewN (Below.refl _ _) q)
      have HBQ : Hid (∀ q, BoxT w O.rep R.rep a1 a2 a3 b1 b2 b3 k1 k2 k3 l1 l2 l3 (wr.drewN q)) := fun q => below_drewN hb q
      generalize O.K.getD i ck0 = c at *
      have KQ : Hid (∀ q, Calls Tryz.prog 50 #[.slice b1 R.rep.n1 l1, .int .i64 c.site] (wr.drewN q) fun e w' => e = .returned (.int .i64 (clkOf R.K c.site)) ∧ w' = wr.drewN q) := fun q => (countOf_any b1 R.rep.n1 l1 (fun i => R.K.getD i ck0) c.site _ (by omega) (HLR.out q)).mono fun e w' ⟨h1, h2⟩ => ⟨by rw [h1, clk_list (O := R.K) (n := R.rep.n1) rfl], h2⟩
      clear HNO hb
      go_wp2_with fail
      go_quiet ((go_at_call 50; exact Calls.quiet_of_same (KQ.out _)))
      generalize hwq : wr.drewN _ = wq
      have hbq : BoxT w O.rep R.rep a1 a2 a3 b1 b2 b3 k1 k2 k3 l1 l2 l3 wq := by rw [← hwq]; exact HBQ.out _
      have c1q : wq.cell? ⟨b, o + 1, none⟩ = some (.int .i64 c.count) := by rw [← hwq]; exact c1
      clear hwq KQ HLR HBQ x1 x2 x3 z1 z2 z3 c0 c1
      obtain ⟨⟨x1, x2, x3⟩, z1, z2, z3⟩ := hbq.cells
      by_cases hq : clkOf R.K c.site < c.count
      · have E : Hid (followB O R = false) := HNOF.out hq
        generalize clkOf R.K c.site = y at *
        go_wp2_with fail
        go_ret
        exact ⟨by rw [E.out]; rfl, hbq.old⟩
      · have E : Hid (∀ j, j < i + 1 → (O.K.getD j ck0).count ≤ clkOf R.K (O.K.getD j ck0).site) := HGO.out (by omega)
        generalize clkOf R.K c.site = y at *
        go_wp2_with fail
        go_roundw
        case rel => exact ⟨i + 1, by omega, by go_num, E.out, hbq⟩
        case measure => simp [intOf]; omega
    · obtain rfl : O.rep.n1 = i := by omega
      have HK : Hid (∀ j, j < O.K.length → (O.K.getD j ck0).count ≤ clkOf R.K (O.K.getD j ck0).site) := HNO.out
      have HBB : Hid (BoxT w O.rep R.rep a1 a2 a3 b1 b2 b3 k1 k2 k3 l1 l2 l3 wr) := hb
      clear HNO hb
      go_wp2_with fail
      clear x1 x2 x3 z1 z2 z3
      go_loopw [7, 8] (fun u _ wr => ∃ i : Nat, i ≤ O.rep.n2 ∧ u = .int .i64 i ∧ (∀ j, j < i → fcB R.C (O.C.getD j cd0) = true) ∧ BoxT w O.rep R.rep a1 a2 a3 b1 b2 b3 k1 k2 k3 l1 l2 l3 wr) (fun u _ _ => O.rep.n2 - (intOf u).toNat)
      case atStart => exact ⟨0, Nat.zero_le _, rfl, fun j hj => by omega, HBB.out⟩
      case round =>
        clear HBB
        obtain ⟨i, hi, rfl, hno, hb⟩ := hrel
        have HNO : Hid (∀ j, j < i → fcB R.C (O.C.getD j cd0) = true) := hno
        clear hno
        obtain ⟨⟨x1, x2, x3⟩, z1, z2, z3⟩ := hb.cells
        by_cases hlt : i < O.rep.n2
        · obtain ⟨b, o, hbl, hix, c0, c1, c2, c3, c4⟩ := Lies.card (c := fun i => O.C.getD i cd0) (HO.out.below hb.old).l2 k2 hlt
          have HNOF : Hid (fcB R.C (O.C.getD i cd0) = false → followB O R = false) := fun h => follow_no2 hlt h
          have HGO : Hid (fcB R.C (O.C.getD i cd0) = true → ∀ j, j < i + 1 → fcB R.C (O.C.getD j cd0) = true) := fun h j hj => by
            rcases Nat.lt_or_ge j i with h2 | h2
            · exact HNO.out j h2
            · rw [show j = i by omega]; exact h
          have HLR : Hid (∀ q, Lies (wr.drewN q) b2 R.rep.n2 5 (fun i => (R.C.getD i cd0).cells)) := fun q => (HR.out.below hb.old).l2.below (below_drewN (Below.refl _ _) q)
          have HBQ : Hid (∀ q, BoxT w O.rep R.rep a1 a2 a3 b1 b2 b3 k1 k2 k3 l1 l2 l3 (wr.drewN q)) := fun q => below_drewN hb q
          generalize O.C.getD i cd0 = c at *
          have KQ : Hid (∀ q, Calls Tryz.prog 51 #[.slice b2 R.rep.n2 l2, .int .i64 c.id] (wr.drewN q) fun e w' => e = .returned (.int .i64 (cardIx R.C c.id : Int)) ∧ w' = wr.drewN q) := fun q => pcardAt_any R.C b2 R.rep.n2 l2 c.id _ rfl (by omega) (HLR.out q)
          have HLE : Hid (cardIx R.C c.id ≤ R.rep.n2) := cardIx_le _ _
          clear HNO hb
          go_wp2_with fail
          go_quiet ((go_at_call 51; exact Calls.quiet_of_same (KQ.out _)))
          generalize hwq : wr.drewN _ = wq
          have hbq : BoxT w O.rep R.rep a1 a2 a3 b1 b2 b3 k1 k2 k3 l1 l2 l3 wq := by rw [← hwq]; exact HBQ.out _
          have d0 : wq.cell? ⟨b, o, none⟩ = some (.int .i64 c.id) := by rw [← hwq]; exact c0
          have d1 : wq.cell? ⟨b, o + 1, none⟩ = some (.int .i64 c.site) := by rw [← hwq]; exact c1
          have d2 : wq.cell? ⟨b, o + 2, none⟩ = some (.int .i64 c.count) := by rw [← hwq]; exact c2
          have d3 : wq.cell? ⟨b, o + 3, none⟩ = some (.bool c.gone) := by rw [← hwq]; exact c3
          have d4 : wq.cell? ⟨b, o + 4, none⟩ = some (.string c.text) := by rw [← hwq]; exact c4
          have hblq : b < wq.heap.size := by rw [← hwq]; exact hbl
          have HRQ : Hid (Lies wq b2 R.rep.n2 5 (fun i => (R.C.getD i cd0).cells)) := by rw [← hwq]; exact HLR.out _
          clear hwq KQ HLR HBQ x1 x2 x3 z1 z2 z3 c0 c1 c2 c3 c4 hbl
          obtain ⟨⟨x1, x2, x3⟩, z1, z2, z3⟩ := hbq.cells
          by_cases hq : cardIx R.C c.id < R.rep.n2
          · obtain ⟨bo, oo, hblo, hixo, g0, g1, g2, g3, g4⟩ := Lies.card (c := fun i => R.C.getD i cd0) HRQ.out l2 hq
            have HF : Hid (fcB R.C c = (laterB (R.C.getD (cardIx R.C c.id) cd0) c || decide (R.C.getD (cardIx R.C c.id) cd0 = c))) := fc_in hq
            generalize R.C.getD (cardIx R.C c.id) cd0 = d at *
            generalize cardIx R.C c.id = qx at *
            have hqn : ((qx : Int) == (R.rep.n2 : Int)) = false := by rw [beq_eq_false_iff_ne]; omega
            have HXW : Hid (∀ X, Below wq.heap.size wq X → BoxT w O.rep R.rep a1 a2 a3 b1 b2 b3 k1 k2 k3 l1 l2 l3 X) := fun X h => Below.trans hbq (h.mono (by have := hbq.size; simp at this; omega))
            have HS : Hid (∀ X, Below wq.heap.size wq X → (X.cell? ⟨w.heap.size, 1, none⟩ = some (.slice a2 O.rep.n2 k2) ∧ X.cell? ⟨w.heap.size + 1, 1, none⟩ = some (.slice b2 R.rep.n2 l2)) ∧ (X.cell? ⟨b, o, none⟩ = some (.int .i64 c.id) ∧ X.cell? ⟨b, o + 1, none⟩ = some (.int .i64 c.site) ∧ X.cell? ⟨b, o + 2, none⟩ = some (.int .i64 c.count) ∧ X.cell? ⟨b, o + 3, none⟩ = some (.bool c.gone) ∧ X.cell? ⟨b, o + 4, none⟩ = some (.string c.text)) ∧ (X.cell? ⟨bo, oo, none⟩ = some (.int .i64 d.id) ∧ X.cell? ⟨bo, oo + 1, none⟩ = some (.int .i64 d.site) ∧ X.cell? ⟨bo, oo + 2, none⟩ = some (.int .i64 d.count) ∧ X.cell? ⟨bo, oo + 3, none⟩ = some (.bool d.gone) ∧ X.cell? ⟨bo, oo + 4, none⟩ = some (.string d.text))) := fun X h =>
              ⟨⟨(HXW.out X h).cells.1.2.1, (HXW.out X h).cells.2.2.1⟩, ⟨(h.cell (p := ⟨b, o, none⟩) hblq).trans d0, (h.cell (p := ⟨b, o + 1, none⟩) hblq).trans d1, (h.cell (p := ⟨b, o + 2, none⟩) hblq).trans d2, (h.cell (p := ⟨b, o + 3, none⟩) hblq).trans d3, (h.cell (p := ⟨b, o + 4, none⟩) hblq).trans d4⟩, (h.cell (p := ⟨bo, oo, none⟩) hblo).trans g0, (h.cell (p := ⟨bo, oo + 1, none⟩) hblo).trans g1, (h.cell (p := ⟨bo, oo + 2, none⟩) hblo).trans g2, (h.cell (p := ⟨bo, oo + 3, none⟩) hblo).trans g3, (h.cell (p := ⟨bo, oo + 4, none⟩) hblo).trans g4⟩
            cases hf : (laterB d c || decide (d = c)) with
            | true =>
              have KF : Hid (∀ X, Calls Tryz.prog 52 #[cdV c, cdV d] X fun e w' => e = .returned (.bool true) ∧ Below X.heap.size X w') := fun X => (cardFollows_any c d X).mono fun e w' ⟨h1, h2⟩ => ⟨by rw [h1, hf], h2⟩
              have E : Hid (∀ j, j < i + 1 → fcB R.C (O.C.getD j cd0) = true) := HGO.out (by rw [HF.out, hf])
              clear HF hf HGO HNOF
              go_wp2_with fail
              go_region_held3 (fun X => (X.cell? ⟨w.heap.size, 1, none⟩ = some (.slice a2 O.rep.n2 k2) ∧ X.cell? ⟨w.heap.size + 1, 1, none⟩ = some (.slice b2 R.rep.n2 l2)) ∧ (X.cell? ⟨b, o, none⟩ = some (.int .i64 c.id) ∧ X.cell? ⟨b, o + 1, none⟩ = some (.int .i64 c.site) ∧ X.cell? ⟨b, o + 2, none⟩ = some (.int .i64 c.count) ∧ X.cell? ⟨b, o + 3, none⟩ = some (.bool c.gone) ∧ X.cell? ⟨b, o + 4, none⟩ = some (.string c.text)) ∧ (X.cell? ⟨bo, oo, none⟩ = some (.int .i64 d.id) ∧ X.cell? ⟨bo, oo + 1, none⟩ = some (.int .i64 d.site) ∧ X.cell? ⟨bo, oo + 2, none⟩ = some (.int .i64 d.count) ∧ X.cell? ⟨bo, oo + 3, none⟩ = some (.bool d.gone) ∧ X.cell? ⟨bo, oo + 4, none⟩ = some (.string d.text)))
                (first | (refine HS.out _ ?_; (repeat (first | exact Below.refl _ _ | exact hbL | refine Below.drew ?_))))
                (first | (go_at_call 52; refine (KF.out _).mono ?_; rintro e wL ⟨rfl, hb0⟩; have hbL : Below wq.heap.size wq wL := Below.trans (by (repeat (first | exact Below.refl _ _ | refine Below.drew ?_))) hb0; clear hb0))
              have hbx := HXW.out _ hbL
              clear hbL HS HXW
              go_wp2_with fail
              go_roundw
              case rel => exact ⟨i + 1, by omega, by go_num, E.out, hbx⟩
              case measure => simp [intOf]; omega
            | false =>
              have KF : Hid (∀ X, Calls Tryz.prog 52 #[cdV c, cdV d] X fun e w' => e = .returned (.bool false) ∧ Below X.heap.size X w') := fun X => (cardFollows_any c d X).mono fun e w' ⟨h1, h2⟩ => ⟨by rw [h1, hf], h2⟩
              have E : Hid (followB O R = false) := HNOF.out (by rw [HF.out, hf])
              clear HF hf HGO HNOF
              go_wp2_with fail
              go_region_held3 (fun X => (X.cell? ⟨w.heap.size, 1, none⟩ = some (.slice a2 O.rep.n2 k2) ∧ X.cell? ⟨w.heap.size + 1, 1, none⟩ = some (.slice b2 R.rep.n2 l2)) ∧ (X.cell? ⟨b, o, none⟩ = some (.int .i64 c.id) ∧ X.cell? ⟨b, o + 1, none⟩ = some (.int .i64 c.site) ∧ X.cell? ⟨b, o + 2, none⟩ = some (.int .i64 c.count) ∧ X.cell? ⟨b, o + 3, none⟩ = some (.bool c.gone) ∧ X.cell? ⟨b, o + 4, none⟩ = some (.string c.text)) ∧ (X.cell? ⟨bo, oo, none⟩ = some (.int .i64 d.id) ∧ X.cell? ⟨bo, oo + 1, none⟩ = some (.int .i64 d.site) ∧ X.cell? ⟨bo, oo + 2, none⟩ = some (.int .i64 d.count) ∧ X.cell? ⟨bo, oo + 3, none⟩ = some (.bool d.gone) ∧ X.cell? ⟨bo, oo + 4, none⟩ = some (.string d.text)))
                (first | (refine HS.out _ ?_; (repeat (first | exact Below.refl _ _ | exact hbL | refine Below.drew ?_))))
                (first | (go_at_call 52; refine (KF.out _).mono ?_; rintro e wL ⟨rfl, hb0⟩; have hbL : Below wq.heap.size wq wL := Below.trans (by (repeat (first | exact Below.refl _ _ | refine Below.drew ?_))) hb0; clear hb0))
              have hbx := HXW.out _ hbL
              clear hbL HS HXW
              go_wp2_with fail
              go_ret
              exact ⟨by rw [E.out]; rfl, hbx.old⟩
          · have E : Hid (followB O R = false) := HNOF.out (fc_end hq)
            have hqe : cardIx R.C c.id = R.rep.n2 := by have := HLE.out; omega
            rw [hqe]
            clear hqe hq HLE
            have hqn : ((R.rep.n2 : Int) == (R.rep.n2 : Int)) = true := by simp
            go_wp2_with fail
            go_quiet (fail)
            go_wp2_with fail
            go_ret
            exact ⟨by rw [E.out]; rfl, BoxT.old (below_drewN hbq _)⟩
        · obtain rfl : O.rep.n2 = i := by omega
          have E : Hid (followB O R = true) := follow_yes HP.out (fun j hj => by have := HK.out j hj; omega) HNO.out
          go_wp2_with fail
          go_ret
          exact ⟨by rw [E.out]; rfl, hb.old⟩
end Go.Proofs.YtdjpkgaicmklmaaGreat

/- newState of the program: walked. -/
namespace Go.Proofs.YtdjpkgaicmklmaaGreat
open Go.RowKit

set_option maxRecDepth 100000 in
set_option maxHeartbeats 8000000 in
theorem newState_any (A B : Tri) (a1 a2 a3 b1 b2 b3 : Option Addr) (k1 k2 k3 l1 l2 l3 : Nat) (w : World) (hA : Has w A.rep a1 a2 a3) (hB : Has w B.rep b1 b2 b3) (f1 : A.K.length ≤ 1000 ∧ A.C.length ≤ 1000) (g0 : B.K.length ≤ 1000 ∧ B.C.length ≤ 1000 ∧ B.E.length ≤ 1000) :
    Calls Tryz.prog 24 #[repV A.rep a1 a2 a3 k1 k2 k3, repV B.rep b1 b2 b3 l1 l2 l3] w fun e w' => ∃ c1 n1 d1 c2 n2 d2 c3 n3 d3, e = .returned (.agg #[.slice c1 n1 d1, .slice c2 n2 d2, .slice c3 n3 d3]) ∧ Lists w' w.heap.size (newK A.K B.K) (newC A.C B.C) B.E c1 n1 d1 c2 n2 d2 c3 n3 d3 ∧ Below w.heap.size w w' := by
  obtain ⟨f1, f2⟩ := f1
  obtain ⟨g1, g2, g3⟩ := g0
  have HA : Hid (Has w A.rep a1 a2 a3) := hA
  have HB : Hid (Has w B.rep b1 b2 b3) := hB
  have H0 : Hid (M3 w (repC a1 A.rep.n1 k1 a2 A.rep.n2 k2 a3 A.rep.n3 k3) (repC b1 B.rep.n1 l1 b2 B.rep.n2 l2 b3 B.rep.n3 l3) (repC none 0 0 none 0 0 none 0 0) (((w.alloc (.cells #[.slice a1 A.rep.n1 k1, .slice a2 A.rep.n2 k2, .slice a3 A.rep.n3 k3] 27)).alloc (.cells #[.slice b1 B.rep.n1 l1, .slice b2 B.rep.n2 l2, .slice b3 B.rep.n3 l3] 27)).alloc (.cells #[.slice none 0 0, .slice none 0 0, .slice none 0 0] 27))) := M3.start w _ _ _
  have x0 := H0.out.a.cell 0; have y0 := H0.out.b.cell 0
  dsimp only [List.getElem?_cons_zero, List.getElem?_cons_succ] at x0 y0
  clear hA hB
  go_enter Tryz.func24, Tryz.ntmps24
  go_wp2_with fail
  refine (newerClocks_any A.K B.K a1 b1 A.K.length B.K.length k1 l1 _ (HA.out.l1.below H0.out.old) (HB.out.l1.below H0.out.old) rfl rfl (by omega) (by omega)).mono ?_
  rintro e w1 ⟨c1, d1, n1, rfl, hn1, hv1, hb1⟩
  have hz0 := H0.out.sz
  have HV1 : Hid (Vec w1 (w.heap.size + 3) 37 2 c1 n1 d1 (kcells (newK A.K B.K))) := hv1.mono hz0
  have HN1 : Hid (n1 = (newK A.K B.K).length) := hn1
  have hM1 : Hid (M3 w (repC a1 A.rep.n1 k1 a2 A.rep.n2 k2 a3 A.rep.n3 k3) (repC b1 B.rep.n1 l1 b2 B.rep.n2 l2 b3 B.rep.n3 l3) (repC none 0 0 none 0 0 none 0 0) w1) := H0.out.step hb1
  clear hv1 hn1 hb1 H0 x0 y0 hz0
  have x1 := hM1.out.a.cell 1; have y1 := hM1.out.b.cell 1
  dsimp only [List.getElem?_cons_zero, List.getElem?_cons_succ] at x1 y1
  go_wp2_with fail
  refine (newerCards_any A.C B.C a2 b2 A.C.length B.C.length k2 l2 _ (HA.out.l2.below hM1.out.old) (HB.out.l2.below hM1.out.old) rfl rfl (by omega) (by omega)).mono ?_
  rintro e w2 ⟨c2, d2, n2, rfl, hn2, hv2, hb2⟩
  have hz0 := hM1.out.sz
  have HV2 : Hid (Vec w2 (w.heap.size + 3) 39 5 c2 n2 d2 (ccells (newC A.C B.C))) := hv2.mono hz0
  have HV1b : Hid (Vec w2 (w.heap.size + 3) 37 2 c1 n1 d1 (kcells (newK A.K B.K))) := HV1.out.keep hb2
  have HN2 : Hid (n2 = (newC A.C B.C).length) := hn2
  have hM2 : Hid (M3 w (repC a1 A.rep.n1 k1 a2 A.rep.n2 k2 a3 A.rep.n3 k3) (repC b1 B.rep.n1 l1 b2 B.rep.n2 l2 b3 B.rep.n3 l3) (repC none 0 0 none 0 0 none 0 0) w2) := hM1.out.step hb2
  clear hv2 hn2 hb2 hM1 HV1 x1 y1 hz0
  have x2 := (hM2.out.b.alloc (.cells #[] 41)).cell 2
  dsimp only [List.getElem?_cons_zero, List.getElem?_cons_succ] at x2
  have hV0 : Hid (Vec (w2.alloc (.cells #[] 41)) w2.heap.size 41 2 (some ⟨w2.heap.size, 0, none⟩) 0 0 []) := Vec.lit w2 w2.heap.size 41 2 0 [] (Nat.le_refl _) (by omega) rfl
  have hz0 := hM2.out.sz
  have HSZ : Hid (w2.heap.size ≤ (w2.alloc (.cells #[] 41)).heap.size) := by show _ ≤ _; simp
  have HLE : Hid (Lies (w2.alloc (.cells #[] 41)) b3 B.E.length 2 (fun i => (B.E.getD i ed0).cells)) := (HB.out.l3.below hM2.out.old).below ((Below.refl _ _).alloc (Nat.le_refl _) _)
  have HR2 : Hid (Bx (w2.alloc (.cells #[] 41)) (w.heap.size + 2) 27 (repC none 0 0 none 0 0 none 0 0)) := hM2.out.r.alloc _
  go_wp2_with (first
    | (at_builtin; refine wpList_pushAll (by rfl) _ _ 25 (by rfl) w2.heap.size 41 2 24 (.agg #[.int .i64 0, .string ⟨#[]⟩]) Tryz.underlying25 (by kernel_rfl) rfl (by decide) _ 0 0 [] (by rfl) hV0.out b3 B.E.length l3 (fun i => (B.E.getD i ed0).cells) (by rfl) HLE.out (fun _ _ => rfl) (fun j _ => ones_ed _) ?_ ?_ ?_ B.E.length ?_ ?_; (omega); (omega); (exact HSZ.out); (omega); intro c3 d3 w3 hv3 hb3 hs3; have hr3 := HR2.out.below hb3 (by omega))
    | (refine wpList_bstore (by rfl) _ _ _ (by rfl) (w.heap.size + 2) 27 (by rfl) _ _ (by rfl) hr3 3 (by rfl) (by kernel_rfl) (by rfl) (by intro x hx; simp at hx; rcases hx with rfl | rfl | rfl <;> rfl) ?_; intro w9 hr9 hu9))
  rw [List.nil_append, range_ecells] at hv3
  have hbA : Below w2.heap.size w2 w3 := ((Below.refl _ w2).alloc (Nat.le_refl _) _).trans hb3
  exact bodyPost_ret (v := .agg #[.slice c1 n1 d1, .slice c2 n2 d2, .slice c3 B.E.length d3]) (results_box1 (by rfl) _ _ (w.heap.size + 2) 27 _ _ (by rfl) hr9 Tryz.underlying27 (by rfl) 3 (by rfl) (by kernel_rfl)) rfl ⟨c1, n1, d1, c2, n2, d2, c3, B.E.length, d3, rfl, ⟨((HV1b.out.keep hbA).upd hu9 (by omega)).mono (by omega), ((HV2.out.keep hbA).upd hu9 (by omega)).mono (by omega), ((hv3.mono hz0).upd hu9 (by omega)).mono (by omega), HN1.out, HN2.out, rfl⟩, hu9.below (hM2.out.old.trans (hbA.mono hM2.out.old.size)) (by omega)⟩

end Go.Proofs.YtdjpkgaicmklmaaGreat

