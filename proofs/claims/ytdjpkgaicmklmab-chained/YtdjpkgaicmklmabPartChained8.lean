/- Texts of the proof, one behind the other; what each holds is said at its head. -/
import Derived.Test.YtdjpkgaicmklmabPartChained7
import Derived.Test.YtdjpkgaicmklmabPartChained5
import Derived.Test.YtdjpkgaicmklmabPartChained2
import Derived.Deep.QuietTactic
import Derived.BigQuiet
import Derived.Test.YtdjpkgaicmklmabPartChained6
import Derived.Test.YtdjpkgaicmklmabPartChained1
/- chainOf and Replay of the program: walked. -/
namespace Go.Proofs.Ytdjpkgaicmklmab
open Go.RowKit

/-- What chainOf answers. -/
def ChainAns (x : Ans) (q0 : Int) (B : Nat) (e : Ending) (w' : World) : Prop := ∃ a1 n1 c1 a2 n2 c2 a3 n3 c3 q, e = .returned (.tuple #[.agg (chC a1 n1 c1 a2 n2 c2 a3 n3 c3 q).toArray, .int .i64 x.err, .int .i64 x.place]) ∧ Lists w' B x.K x.C x.E a1 n1 c1 a2 n2 c2 a3 n3 c3 ∧ (x.err = 0 → q = q0)
section
variable {l : List (List UInt8)}
theorem replay_many (h : 16 < l.length) : replayRd l = ansErr 1 0 := by unfold replayRd; rw [if_pos h]
theorem replay_read (h : ¬ 16 < l.length) (h4 : lkErr l ≠ 0) : replayRd l = ansErr (lkErr l) (lkN l) := by
  unfold replayRd; rw [if_neg h]
  unfold lkErr lkN at *
  cases hf : firstOf (bad4 l) l.length with
  | some i => rfl
  | none => rw [hf] at h4; exact absurd rfl h4
theorem lk_none (h4 : lkErr l = 0) : firstOf (bad4 l) l.length = none ∧ lkN l = l.length := by
  unfold lkErr at h4; unfold lkN
  cases hf : firstOf (bad4 l) l.length with
  | some i =>
    rw [hf] at h4
    have := (firstOf_some.mp hf).1
    have h5 : (readRd (l.getD i [])).err = 0 := h4
    unfold bad4 at this
    rw [h5] at this
    cases this
  | none => exact ⟨rfl, rfl⟩
theorem replay_twice (h : ¬ 16 < l.length) (h4 : lkErr l = 0) {i : Nat} (h5 : firstOf (bad5 l) l.length = some i) : replayRd l = ansErr 15 i := by
  unfold replayRd; rw [if_neg h, (lk_none h4).1, h5]
theorem replay_missing (h : ¬ 16 < l.length) (h4 : lkErr l = 0) (h5 : firstOf (bad5 l) l.length = none) (h6 : l.length = 0 ∨ (firstOf (bad6 l) l.length).isSome = true) : replayRd l = ansErr 16 0 := by
  unfold replayRd; rw [if_neg h, (lk_none h4).1, h5]; simp only; rw [if_pos h6]
theorem replay_base (h : ¬ 16 < l.length) (h4 : lkErr l = 0) (h5 : firstOf (bad5 l) l.length = none) (h6 : ¬ (l.length = 0 ∨ (firstOf (bad6 l) l.length).isSome = true)) {i : Nat} (h7 : firstOf (bad7 l) l.length = some i) : replayRd l = ansErr 17 i := by
  unfold replayRd; rw [if_neg h, (lk_none h4).1, h5]; simp only; rw [if_neg h6, h7]
theorem replay_last (h : ¬ 16 < l.length) (h4 : lkErr l = 0) (h5 : firstOf (bad5 l) l.length = none) (h6 : ¬ (l.length = 0 ∨ (firstOf (bad6 l) l.length).isSome = true)) (h7 : firstOf (bad7 l) l.length = none) :
    replayRd l = if (chainSt l (l.length - 1)).rep.chk = 0 then ⟨0, 0, 0, 0, (chainSt l (l.length - 1)).K, (chainSt l (l.length - 1)).C, (chainSt l (l.length - 1)).E⟩ else ansErr (chainSt l (l.length - 1)).rep.chk 0 := by
  unfold replayRd; rw [if_neg h, (lk_none h4).1, h5]; simp only; rw [if_neg h6, h7]
end

set_option maxRecDepth 100000 in
set_option maxHeartbeats 8000000 in
theorem chainOf_any (l : List (List UInt8)) (ad0 : Option Addr) (N cap0 : Nat) (w : World) (hL : Lies w ad0 N 1 (fun i => [.string (str (l.getD i []))])) (hN : N = l.length) (hl : ∀ v, v ∈ l → v.length ≤ 1048576) (hb : N ≤ 1048576) :
    Calls Try.prog 68 #[.slice ad0 N cap0] w fun e w' => ChainAns (replayRd l) (sealR (linkR l ((l.length - 1 : Nat) : Int))) w.heap.size e w' ∧ Below w.heap.size w w' := by
  obtain ⟨hR, hW, hB⟩ := one_box w 101 (chC none 0 0 none 0 0 none 0 0 0).toArray
  have HR0 : Hid (Bx (w.alloc (.cells (chC none 0 0 none 0 0 none 0 0 0).toArray 101)) w.heap.size 101 (chC none 0 0 none 0 0 none 0 0 0) ∧ Below w.heap.size w (w.alloc (.cells (chC none 0 0 none 0 0 none 0 0 0).toArray 101)) ∧ (w.alloc (.cells (chC none 0 0 none 0 0 none 0 0 0).toArray 101)).heap.size = w.heap.size + 1) := ⟨hR, hB, hW⟩
  have HN : Hid (N = l.length) := hN
  have HL : Hid (∀ v, v ∈ l → v.length ≤ 1048576) := hl
  have HLI : Hid (Lies w ad0 N 1 (fun i => [.string (str (l.getD i []))])) := hL
  clear hN hl hL hR hW hB
  by_cases h16 : 16 < N
  · have E : Hid (replayRd l = ansErr 1 0) := replay_many (by rw [← HN.out]; exact h16)
    have hr := HR0.out.1
    have hd : decide ((16 : Int) < (N : Int)) = true := decide_eq_true (by omega)
    go_enter Try.func68, Try.ntmps68
    go_wp2_with (refine wpList_bstore (by rfl) _ _ _ (by rfl) w.heap.size 101 (by rfl) _ _ (by rfl) hr 4 (by rfl) (by kernel_rfl) (by rfl) (by intro x hx; simp at hx; rcases hx with rfl | rfl <;> rfl) ?_; intro w9 hr9 hu9)
    exact bodyPost_ret (v := .tuple #[.agg (chC none 0 0 none 0 0 none 0 0 0).toArray, .int .i64 1, .int .i64 0]) (results_box3 (by rfl) _ _ w.heap.size 101 _ _ _ _ (by rfl) hr9 (by rfl) (by rfl) Try.underlying101 (by rfl) 4 (by rfl) (by kernel_rfl)) rfl ⟨⟨none, 0, 0, none, 0, 0, none, 0, 0, 0, by rw [E.out]; rfl, by rw [E.out]; exact Lists.nil _ _, by rw [E.out]; intro h; cases h⟩, hu9.below HR0.out.2.1 (Nat.le_refl _)⟩
  · have H16 : Hid (¬ 16 < l.length) := by rw [← HN.out]; exact h16
    have hd : decide ((16 : Int) < (N : Int)) = false := decide_eq_false (by omega)
    have hN16 : N ≤ 16 := by omega
    go_enter Try.func68, Try.ntmps68
    go_wp2_with fail
    refine (linksOf_any l ad0 N cap0 _ (HLI.out.below HR0.out.2.1) HN.out HL.out (by omega)).mono ?_
    rintro e w1 ⟨ad, cap, k, L, rfl, hk, hmap, hv, hsl, hb1⟩
    have HB1 : Hid (Bx w1 w.heap.size 101 (chC none 0 0 none 0 0 none 0 0 0) ∧ Below w.heap.size w w1 ∧ w.heap.size + 1 ≤ w1.heap.size) := ⟨HR0.out.1.below hb1 HR0.out.1.lt, HR0.out.2.1.trans (hb1.mono HR0.out.2.1.size), by rw [← HR0.out.2.2]; exact hb1.size⟩
    have HV1 : Hid (Vec w1 (w.heap.size + 1) 134 6 ad k cap (slc L) ∧ Sls w1 (w.heap.size + 1) L) := by rw [HR0.out.2.2] at hv hsl; exact ⟨hv, hsl⟩
    have HK : Hid (k = L.length) := hk
    have HMAP : Hid (L.map Sl.b = l.take (lkN l)) := hmap
    clear hk hmap hv hsl hb1 HR0 HLI
    by_cases h4 : lkErr l = 0
    · have hkn := (lk_none h4).2
      have HM2 : Hid (L.map Sl.b = l) := by show _ = _; rw [HMAP.out, hkn, List.take_length]
      have HKL : Hid (k = l.length) := by show _ = _; rw [HK.out]; exact sl_len HM2.out
      have hk16 : k ≤ 16 := by have := HKL.out; have := HN.out; omega
      have HE4 : Hid (lkErr l = 0) := h4
      have HLB : Hid (∀ s ∈ L, s.b.length ≤ 1048576) := fun s hs => HL.out _ (by rw [← HM2.out]; exact List.mem_map_of_mem hs)
      rw [h4]
      clear h4 hkn HMAP
      go_wp2_with fail
      refine (cfirstTwice_any L ad k cap _ HK.out (by omega) (slvec_lies HV1.out.1 HK.out)).mono ?_
      rintro e w2 ⟨rfl, rfl⟩
      have hc5 : firstOf (twB L) k = firstOf (bad5 l) l.length := by rw [HKL.out]; exact firstOf_congr (fun i hi => tw_bad5 HM2.out (by rw [sl_len HM2.out]; exact hi))
      rw [hc5]
      clear hc5
      cases h5 : firstOf (bad5 l) l.length with
      | some i =>
        have E : Hid (replayRd l = ansErr 15 i) := replay_twice H16.out HE4.out h5
        have hik : i < k := by have := (firstOf_some.mp h5).2.1; rw [HKL.out]; exact this
        have hr := HB1.out.1
        clear h5
        simp only [Option.getD_some]
        go_wp2_with (refine wpList_bstore (by rfl) _ _ _ (by rfl) w.heap.size 101 (by rfl) _ _ (by rfl) hr 4 (by rfl) (by kernel_rfl) (by rfl) (by intro x hx; simp at hx; rcases hx with rfl | rfl <;> rfl) ?_; intro w9 hr9 hu9)
        exact bodyPost_ret (v := .tuple #[.agg (chC none 0 0 none 0 0 none 0 0 0).toArray, .int .i64 15, .int .i64 (i : Int)]) (results_box3 (by rfl) _ _ w.heap.size 101 _ _ _ _ (by rfl) hr9 (by rfl) (by rfl) Try.underlying101 (by rfl) 4 (by rfl) (by kernel_rfl)) rfl ⟨⟨none, 0, 0, none, 0, 0, none, 0, 0, 0, by rw [E.out]; rfl, by rw [E.out]; exact Lists.nil _ _, by rw [E.out]; intro h; cases h⟩, hu9.below HB1.out.2.1 (Nat.le_refl _)⟩
      | none =>
        have H5 : Hid (firstOf (bad5 l) l.length = none) := h5
        simp only [Option.getD_none]
        clear h5
        go_wp2_with fail
        refine (inOrder_any L ad k cap _ (slvec_lies HV1.out.1 HK.out) HK.out (by omega)).mono ?_
        rintro e w3 ⟨ad3, cap3, N3, rfl, hN3, hv3, hb3⟩
        have HB3 : Hid (Bx w3 w.heap.size 101 (chC none 0 0 none 0 0 none 0 0 0) ∧ Below w.heap.size w w3 ∧ w.heap.size + 1 ≤ w3.heap.size) := ⟨HB1.out.1.below hb3 HB1.out.1.lt, HB1.out.2.1.trans (hb3.mono HB1.out.2.1.size), Nat.le_trans HB1.out.2.2 hb3.size⟩
        have HV3 : Hid (Vec w3 (w.heap.size + 1) 134 6 ad k cap (slc L) ∧ Sls w3 (w.heap.size + 1) L ∧ Vec w3 (w.heap.size + 1) 134 6 ad3 N3 cap3 (slc (ordTo L L.length))) := ⟨HV1.out.1.keep hb3, HV1.out.2.keep hb3, by rw [← HK.out]; exact hv3.mono HB1.out.2.2⟩
        have HN3 : Hid (N3 = (ordTo L L.length).length) := by show _ = _; rw [← HK.out]; exact hN3
        have hN3k : N3 ≤ k := by rw [hN3]; exact ordTo_le L k
        have HMI : Hid ((firstOf (bad6 l) l.length).isSome = true ↔ N3 < k) := by rw [HN3.out, HK.out]; exact missing_iff HM2.out
        have hr := HB3.out.1
        clear hN3 hv3 hb3 HB1 HV1
        by_cases hk0 : k = 0
        · have E : Hid (replayRd l = ansErr 16 0) := replay_missing H16.out HE4.out H5.out (Or.inl (by rw [← HKL.out]; exact hk0))
          have q0 : ((k : Int) == 0) = true := by rw [hk0]; rfl
          clear hk0
          go_wp2_with (refine wpList_bstore (by rfl) _ _ _ (by rfl) w.heap.size 101 (by rfl) _ _ (by rfl) hr 4 (by rfl) (by kernel_rfl) (by rfl) (by intro x hx; simp at hx; rcases hx with rfl | rfl <;> rfl) ?_; intro w9 hr9 hu9)
          exact bodyPost_ret (v := .tuple #[.agg (chC none 0 0 none 0 0 none 0 0 0).toArray, .int .i64 16, .int .i64 0]) (results_box3 (by rfl) _ _ w.heap.size 101 _ _ _ _ (by rfl) hr9 (by rfl) (by rfl) Try.underlying101 (by rfl) 4 (by rfl) (by kernel_rfl)) rfl ⟨⟨none, 0, 0, none, 0, 0, none, 0, 0, 0, by rw [E.out]; rfl, by rw [E.out]; exact Lists.nil _ _, by rw [E.out]; intro h; cases h⟩, hu9.below HB3.out.2.1 (Nat.le_refl _)⟩
        · have q0 : ((k : Int) == 0) = false := by rw [beq_eq_false_iff_ne]; omega
          by_cases h6 : N3 < k
          · have E : Hid (replayRd l = ansErr 16 0) := replay_missing H16.out HE4.out H5.out (Or.inr (HMI.out.2 h6))
            have q1 : decide ((N3 : Int) < (k : Int)) = true := decide_eq_true (by omega)
            go_wp2_with (refine wpList_bstore (by rfl) _ _ _ (by rfl) w.heap.size 101 (by rfl) _ _ (by rfl) hr 4 (by rfl) (by kernel_rfl) (by rfl) (by intro x hx; simp at hx; rcases hx with rfl | rfl <;> rfl) ?_; intro w9 hr9 hu9)
            exact bodyPost_ret (v := .tuple #[.agg (chC none 0 0 none 0 0 none 0 0 0).toArray, .int .i64 16, .int .i64 0]) (results_box3 (by rfl) _ _ w.heap.size 101 _ _ _ _ (by rfl) hr9 (by rfl) (by rfl) Try.underlying101 (by rfl) 4 (by rfl) (by kernel_rfl)) rfl ⟨⟨none, 0, 0, none, 0, 0, none, 0, 0, 0, by rw [E.out]; rfl, by rw [E.out]; exact Lists.nil _ _, by rw [E.out]; intro h; cases h⟩, hu9.below HB3.out.2.1 (Nat.le_refl _)⟩
          · have q1 : decide ((N3 : Int) < (k : Int)) = false := decide_eq_false (by omega)
            have H6 : Hid (¬ (l.length = 0 ∨ (firstOf (bad6 l) l.length).isSome = true)) := by
              rintro (h | h)
              · rw [← HKL.out] at h; omega
              · exact h6 (HMI.out.1 h)
            have HALL : Hid (∀ n : Nat, n < L.length → slIx L (n : Int) < L.length) := all_there (by rw [← HN3.out, ← HK.out]; exact h6)
            obtain ⟨k1, hk1⟩ : ∃ k1, k = k1 + 1 := ⟨k - 1, by omega⟩
            have HN3k : Hid (N3 = k1 + 1) := by show _ = _; omega
            have HK1 : Hid (l.length - 1 = k1) := by show _ = _; rw [← HKL.out]; omega
            have HFT : Hid (foldT (ordTo L L.length) N3 = chainSt l (l.length - 1)) := by show _ = _; rw [HN3k.out, HK1.out]; exact fold_chain HM2.out HALL.out k1 (by rw [← HK.out]; omega)
            have HSA : Hid (sealAt (ordTo L L.length) N3 = sealR (linkR l ((l.length - 1 : Nat) : Int))) := by show _ = _; rw [HN3k.out, HK1.out]; show sealR ((ordTo L L.length).getD k1 sl0).b = _; rw [ord_link HM2.out HALL.out (by rw [← HK.out]; omega)]
            have hc7 : firstOf (lsB L (ordTo L L.length)) k = firstOf (bad7 l) l.length := by rw [HKL.out]; exact firstOf_congr (fun i hi => ls_bad7 HM2.out HALL.out (by rw [sl_len HM2.out]; exact hi))
            have HC7 : Hid (firstOf (lsB L (ordTo L L.length)) k = firstOf (bad7 l) l.length) := hc7
            have q2 : ¬ (N3 : Int) < (k : Int) := by omega
            clear hc7 hk0 hk1 HMI
            go_wp2_with fail
            refine (firstLoose_any L (ordTo L L.length) ad ad3 k N3 cap cap3 _ (slvec_lies HV3.out.1 HK.out) (slvec_lies HV3.out.2.2 HN3.out) HK.out HN3.out (by omega) (by omega)).mono ?_
            rintro e w4 ⟨rfl, hb4⟩
            rw [HC7.out]
            have HB4 : Hid (Bx w4 w.heap.size 101 (chC none 0 0 none 0 0 none 0 0 0) ∧ Below w.heap.size w w4 ∧ w.heap.size + 1 ≤ w4.heap.size) := ⟨HB3.out.1.below hb4 HB3.out.1.lt, HB3.out.2.1.trans (hb4.mono HB3.out.2.1.size), Nat.le_trans HB3.out.2.2 hb4.size⟩
            have HV4 : Hid (Sls w4 (w.heap.size + 1) L ∧ Vec w4 (w.heap.size + 1) 134 6 ad3 N3 cap3 (slc (ordTo L L.length))) := ⟨HV3.out.2.1.keep hb4, HV3.out.2.2.keep hb4⟩
            clear hb4 HB3 HV3 hr
            have hr := HB4.out.1
            cases h7 : firstOf (bad7 l) l.length with
            | some i =>
              have E : Hid (replayRd l = ansErr 17 i) := replay_base H16.out HE4.out H5.out H6.out h7
              have hik : i < k := by have := (firstOf_some.mp h7).2.1; rw [HKL.out]; exact this
              clear h7
              simp only [Option.getD_some]
              go_wp2_with (refine wpList_bstore (by rfl) _ _ _ (by rfl) w.heap.size 101 (by rfl) _ _ (by rfl) hr 4 (by rfl) (by kernel_rfl) (by rfl) (by intro x hx; simp at hx; rcases hx with rfl | rfl <;> rfl) ?_; intro w9 hr9 hu9)
              exact bodyPost_ret (v := .tuple #[.agg (chC none 0 0 none 0 0 none 0 0 0).toArray, .int .i64 17, .int .i64 (i : Int)]) (results_box3 (by rfl) _ _ w.heap.size 101 _ _ _ _ (by rfl) hr9 (by rfl) (by rfl) Try.underlying101 (by rfl) 4 (by rfl) (by kernel_rfl)) rfl ⟨⟨none, 0, 0, none, 0, 0, none, 0, 0, 0, by rw [E.out]; rfl, by rw [E.out]; exact Lists.nil _ _, by rw [E.out]; intro h; cases h⟩, hu9.below HB4.out.2.1 (Nat.le_refl _)⟩
            | none =>
              have HLAST : Hid (replayRd l = if (chainSt l (l.length - 1)).rep.chk = 0 then ⟨0, 0, 0, 0, (chainSt l (l.length - 1)).K, (chainSt l (l.length - 1)).C, (chainSt l (l.length - 1)).E⟩ else ansErr (chainSt l (l.length - 1)).rep.chk 0) := replay_last H16.out HE4.out H5.out H6.out h7
              simp only [Option.getD_none]
              clear h7
              have HFEW : Hid ((chainSt l (l.length - 1)).K.length ≤ 16777216 ∧ (chainSt l (l.length - 1)).C.length ≤ 16777216 ∧ (chainSt l (l.length - 1)).E.length ≤ 1048576) := by
                have h := foldT_few (ordTo L L.length) (fun s hs => HLB.out s (ordTo_mem hs)) N3 (by rw [← HN3.out]; exact Nat.le_refl _)
                rw [HFT.out] at h
                have : N3 * 1048576 ≤ 16 * 1048576 := Nat.mul_le_mul_right _ (by omega)
                exact ⟨by omega, by omega, h.2.2⟩
              have KL : Hid (Calls Try.prog 92 #[.slice ad3 N3 cap3] w4 fun e w' => ∃ c1 d1 c2 d2 c3 d3, e = .returned (.agg (chC c1 (chainSt l (l.length - 1)).K.length d1 c2 (chainSt l (l.length - 1)).C.length d2 c3 (chainSt l (l.length - 1)).E.length d3 (sealR (linkR l ((l.length - 1 : Nat) : Int)))).toArray) ∧ Lists w' w4.heap.size (chainSt l (l.length - 1)).K (chainSt l (l.length - 1)).C (chainSt l (l.length - 1)).E c1 (chainSt l (l.length - 1)).K.length d1 c2 (chainSt l (l.length - 1)).C.length d2 c3 (chainSt l (l.length - 1)).E.length d3 ∧ Below w4.heap.size w4 w') := by
                have h := plaid_any (ordTo L L.length) ad3 N3 cap3 w4 (slvec_lies HV4.out.2 HN3.out) HN3.out (by omega) (fun s hs => (HV4.out.1 s (ordTo_mem hs)).mono (Nat.zero_le _)) (fun s hs => HLB.out s (ordTo_mem hs))
                rw [HFT.out, HSA.out] at h
                exact h
              clear HFT HSA HC7 HALL H5 H6 HM2 HV4
              generalize chainSt l (l.length - 1) = TC at *
              obtain ⟨qv, hqv⟩ : ∃ q, sealR (linkR l ((l.length - 1 : Nat) : Int)) = q := ⟨_, rfl⟩
              rw [hqv] at KL
              have HQV : Hid (sealR (linkR l ((l.length - 1 : Nat) : Int)) = qv) := hqv
              clear hqv
              go_wp2_with fail
              refine KL.out.mono ?_
              rintro e w5 ⟨c1, d1, c2, d2, c3, d3, rfl, hL5, hb5⟩
              have hal : Below w5.heap.size w5 (w5.alloc (.cells (chC c1 TC.K.length d1 c2 TC.C.length d2 c3 TC.E.length d3 qv).toArray 101)) := (Below.refl _ _).alloc (Nat.le_refl _) _
              have hs5 : Below w4.heap.size w4 (w5.alloc (.cells (chC c1 TC.K.length d1 c2 TC.C.length d2 c3 TC.E.length d3 qv).toArray 101)) := hb5.trans (hal.mono hb5.size)
              have HB5 : Hid (Bx (w5.alloc (.cells (chC c1 TC.K.length d1 c2 TC.C.length d2 c3 TC.E.length d3 qv).toArray 101)) w.heap.size 101 (chC none 0 0 none 0 0 none 0 0 0) ∧ Below w.heap.size w (w5.alloc (.cells (chC c1 TC.K.length d1 c2 TC.C.length d2 c3 TC.E.length d3 qv).toArray 101))) := ⟨HB4.out.1.below hs5 HB4.out.1.lt, HB4.out.2.1.trans (hs5.mono HB4.out.2.1.size)⟩
              have HC5 : Hid (Bx (w5.alloc (.cells (chC c1 TC.K.length d1 c2 TC.C.length d2 c3 TC.E.length d3 qv).toArray 101)) w5.heap.size 101 (chC c1 TC.K.length d1 c2 TC.C.length d2 c3 TC.E.length d3 qv)) := Bx.new _ _ _
              have HL5 : Hid (Lists (w5.alloc (.cells (chC c1 TC.K.length d1 c2 TC.C.length d2 c3 TC.E.length d3 qv).toArray 101)) (w.heap.size + 1) TC.K TC.C TC.E c1 TC.K.length d1 c2 TC.C.length d2 c3 TC.E.length d3) := (hL5.mono HB4.out.2.2).keep hal
              clear hL5 hb5 hal hs5 HB4 KL hr
              have z0 := HC5.out.cell 0; have z1 := HC5.out.cell 1; have z2 := HC5.out.cell 2
              dsimp only [List.getElem?_cons_zero, List.getElem?_cons_succ] at z0 z1 z2
              go_wp2_with fail
              generalize w5.alloc (.cells (chC c1 TC.K.length d1 c2 TC.C.length d2 c3 TC.E.length d3 qv).toArray 101) = X5 at *
              generalize w5.heap.size = gc at *
              clear w5 z0 z1 z2
              refine (check_any TC.rep c1 c2 c3 d1 d2 d3 _ (HL5.out.has (by have := HFEW.out; omega) (by have := HFEW.out; omega) (by have := HFEW.out; omega)).1).mono ?_
              rintro e w6 ⟨rfl, hb6⟩
              have HB6 : Hid (Bx w6 w.heap.size 101 (chC none 0 0 none 0 0 none 0 0 0) ∧ Below w.heap.size w w6) := ⟨HB5.out.1.below hb6 HB5.out.1.lt, HB5.out.2.trans (hb6.mono HB5.out.2.size)⟩
              have hC6 := HC5.out.below hb6 HC5.out.lt
              have HL6 : Hid (Lists w6 (w.heap.size + 1) TC.K TC.C TC.E c1 TC.K.length d1 c2 TC.C.length d2 c3 TC.E.length d3) := HL5.out.keep hb6
              have hr := HB6.out.1
              clear hb6 HB5 HC5 HL5
              by_cases hck : TC.rep.chk = 0
              · have E : Hid (replayRd l = ⟨0, 0, 0, 0, TC.K, TC.C, TC.E⟩) := by show _ = _; rw [HLAST.out, if_pos hck]
                rw [hck]
                clear hck HLAST
                go_wp2_with (first
                  | (refine wpList_bload (by rfl) _ _ (by rfl) gc 101 (by rfl) _ hC6 _ Try.underlying101 (by rfl) 4 (by rfl) (by kernel_rfl) ?_)
                  | (refine wpList_bstore (by rfl) _ _ _ (by rfl) w.heap.size 101 (by rfl) _ _ (by rfl) hr 4 (by rfl) (by kernel_rfl) (by rfl) (by intro x hx; simp at hx; rcases hx with rfl | rfl | rfl | rfl <;> rfl) ?_; intro w9 hr9 hu9))
                exact bodyPost_ret (v := .tuple #[.agg (chC c1 TC.K.length d1 c2 TC.C.length d2 c3 TC.E.length d3 qv).toArray, .int .i64 0, .int .i64 0]) (results_box3 (by rfl) _ _ w.heap.size 101 _ _ _ _ (by rfl) hr9 (by rfl) (by rfl) Try.underlying101 (by rfl) 4 (by rfl) (by kernel_rfl)) rfl ⟨⟨c1, _, d1, c2, _, d2, c3, _, d3, qv, by rw [E.out], by rw [E.out]; exact (HL6.out.upd hu9 (by omega)).mono (by omega), fun _ => HQV.out.symm⟩, hu9.below HB6.out.2 (Nat.le_refl _)⟩
              · have E : Hid (replayRd l = ansErr TC.rep.chk 0) := by show _ = _; rw [HLAST.out, if_neg hck]
                have hcb : (TC.rep.chk != 0) = true := bne_iff_ne.mpr hck
                have HCK : Hid (TC.rep.chk ≠ 0) := hck
                clear hck HLAST
                go_wp2_with (refine wpList_bstore (by rfl) _ _ _ (by rfl) w.heap.size 101 (by rfl) _ _ (by rfl) hr 4 (by rfl) (by kernel_rfl) (by rfl) (by intro x hx; simp at hx; rcases hx with rfl | rfl <;> rfl) ?_; intro w9 hr9 hu9)
                exact bodyPost_ret (v := .tuple #[.agg (chC none 0 0 none 0 0 none 0 0 0).toArray, .int .i64 TC.rep.chk, .int .i64 0]) (results_box3 (by rfl) _ _ w.heap.size 101 _ _ _ _ (by rfl) hr9 (by rfl) (by rfl) Try.underlying101 (by rfl) 4 (by rfl) (by kernel_rfl)) rfl ⟨⟨none, 0, 0, none, 0, 0, none, 0, 0, 0, by rw [E.out]; rfl, by rw [E.out]; exact Lists.nil _ _, by rw [E.out]; intro h; exact absurd h HCK.out⟩, hu9.below HB6.out.2 (Nat.le_refl _)⟩
    · have E : Hid (replayRd l = ansErr (lkErr l) (lkN l)) := replay_read H16.out h4
      have HKN : Hid ((k : Int) = (lkN l : Int)) := by
        show _ = _
        have := congrArg List.length HMAP.out
        rw [List.length_map, List.length_take, ← HK.out] at this
        have h2 : lkN l ≤ l.length := by
          unfold lkN
          cases hf : firstOf (bad4 l) l.length with
          | some i => have := (firstOf_some.mp hf).2.1; simp; omega
          | none => simp
        omega
      have hcb : (lkErr l != 0) = true := bne_iff_ne.mpr h4
      have hr := HB1.out.1
      have HE4 : Hid (lkErr l ≠ 0) := h4
      clear h4
      go_wp2_with (refine wpList_bstore (by rfl) _ _ _ (by rfl) w.heap.size 101 (by rfl) _ _ (by rfl) hr 4 (by rfl) (by kernel_rfl) (by rfl) (by intro x hx; simp at hx; rcases hx with rfl | rfl <;> rfl) ?_; intro w9 hr9 hu9)
      exact bodyPost_ret (v := .tuple #[.agg (chC none 0 0 none 0 0 none 0 0 0).toArray, .int .i64 (lkErr l), .int .i64 (k : Int)]) (results_box3 (by rfl) _ _ w.heap.size 101 _ _ _ _ (by rfl) hr9 (by rfl) (by rfl) Try.underlying101 (by rfl) 4 (by rfl) (by kernel_rfl)) rfl ⟨⟨none, 0, 0, none, 0, 0, none, 0, 0, 0, by rw [E.out, HKN.out]; rfl, by rw [E.out]; exact Lists.nil _ _, by rw [E.out]; intro h; exact absurd h HE4.out⟩, hu9.below HB1.out.2.1 (Nat.le_refl _)⟩

/-- What Replay answers. -/
def ReplayAns (x : Ans) (B : Nat) (e : Ending) (w' : World) : Prop := ∃ a1 n1 c1 a2 n2 c2 a3 n3 c3, e = .returned (.tuple #[.agg #[.slice a1 n1 c1, .slice a2 n2 c2, .slice a3 n3 c3], .int .i64 x.err, .int .i64 x.place]) ∧ Lists w' B x.K x.C x.E a1 n1 c1 a2 n2 c2 a3 n3 c3

set_option maxRecDepth 100000 in
set_option maxHeartbeats 8000000 in
theorem creplay_any (l : List (List UInt8)) (ad0 : Option Addr) (N cap0 : Nat) (w : World) (hL : Lies w ad0 N 1 (fun i => [.string (str (l.getD i []))])) (hN : N = l.length) (hl : ∀ v, v ∈ l → v.length ≤ 1048576) (hb : N ≤ 1048576) :
    Calls Try.prog 40 #[.slice ad0 N cap0] w fun e w' => ReplayAns (replayRd l) w.heap.size e w' ∧ Below w.heap.size w w' := by
  obtain ⟨hR, hW, hB⟩ := one_box w 28 (repC none 0 0 none 0 0 none 0 0).toArray
  have HR0 : Hid (Bx (w.alloc (.cells (repC none 0 0 none 0 0 none 0 0).toArray 28)) w.heap.size 28 (repC none 0 0 none 0 0 none 0 0) ∧ Below w.heap.size w (w.alloc (.cells (repC none 0 0 none 0 0 none 0 0).toArray 28)) ∧ (w.alloc (.cells (repC none 0 0 none 0 0 none 0 0).toArray 28)).heap.size = w.heap.size + 1) := ⟨hR, hB, hW⟩
  have HLI : Hid (Lies w ad0 N 1 (fun i => [.string (str (l.getD i []))])) := hL
  have HN : Hid (N = l.length) := hN
  have HL : Hid (∀ v, v ∈ l → v.length ≤ 1048576) := hl
  clear hR hW hB hL hN hl
  go_enter Try.func40, Try.ntmps40
  go_wp2_with fail
  refine (chainOf_any l ad0 N cap0 _ (HLI.out.below HR0.out.2.1) HN.out HL.out hb).mono ?_
  rintro e w1 ⟨⟨a1, n1, c1, a2, n2, c2, a3, n3, c3, q, rfl, hL1, -⟩, hb1⟩
  generalize hx : replayRd l = x at *
  have HX : Hid (replayRd l = x) := hx
  clear hx
  have hal : Below w1.heap.size w1 (w1.alloc (.cells (chC a1 n1 c1 a2 n2 c2 a3 n3 c3 q).toArray 101)) := (Below.refl _ _).alloc (Nat.le_refl _) _
  have hs : Below (w.alloc (.cells (repC none 0 0 none 0 0 none 0 0).toArray 28)).heap.size (w.alloc (.cells (repC none 0 0 none 0 0 none 0 0).toArray 28)) (w1.alloc (.cells (chC a1 n1 c1 a2 n2 c2 a3 n3 c3 q).toArray 101)) := hb1.trans (hal.mono hb1.size)
  have hr := HR0.out.1.below hs HR0.out.1.lt
  have HB : Hid (Below w.heap.size w (w1.alloc (.cells (chC a1 n1 c1 a2 n2 c2 a3 n3 c3 q).toArray 101))) := HR0.out.2.1.trans (hs.mono HR0.out.2.1.size)
  have HC := Bx.new w1 101 (chC a1 n1 c1 a2 n2 c2 a3 n3 c3 q).toArray
  have HL1 : Hid (Lists (w1.alloc (.cells (chC a1 n1 c1 a2 n2 c2 a3 n3 c3 q).toArray 101)) (w.heap.size + 1) x.K x.C x.E a1 n1 c1 a2 n2 c2 a3 n3 c3) := by rw [HR0.out.2.2] at hL1; exact hL1.keep hal
  have z0 := HC.cell 0; have z1 := HC.cell 1; have z2 := HC.cell 2
  dsimp only [List.getElem?_cons_zero, List.getElem?_cons_succ] at z0 z1 z2
  clear hal hs hL1 hb1 HC HR0
  go_wp2_with (refine wpList_bstore (by rfl) _ _ _ (by rfl) w.heap.size 28 (by rfl) _ _ (by rfl) hr 3 (by rfl) (by kernel_rfl) (by rfl) (by intro x hx; simp at hx; rcases hx with rfl | rfl | rfl <;> rfl) ?_; intro w9 hr9 hu9)
  exact bodyPost_ret (v := .tuple #[.agg #[.slice a1 n1 c1, .slice a2 n2 c2, .slice a3 n3 c3], .int .i64 x.err, .int .i64 x.place]) (results_box3 (by rfl) _ _ w.heap.size 28 _ _ _ _ (by rfl) hr9 (by rfl) (by rfl) Try.underlying28 (by rfl) 3 (by rfl) (by kernel_rfl)) rfl ⟨by rw [HX.out]; exact ⟨a1, n1, c1, a2, n2, c2, a3, n3, c3, rfl, (HL1.out.upd hu9 (by omega)).mono (by omega)⟩, hu9.below HB.out (Nat.le_refl _)⟩

set_option maxRecDepth 100000 in
set_option maxHeartbeats 4000000 in
theorem preplay_any (l : List (List UInt8)) (ad0 : Option Addr) (N cap0 : Nat) (w : World) (hL : Lies w ad0 N 1 (fun i => [.string (str (l.getD i []))])) (hN : N = l.length) (hl : ∀ v, v ∈ l → v.length ≤ 1048576) (hb : N ≤ 1048576) :
    Calls Try.prog 24 #[.slice ad0 N cap0] w fun e w' => ReplayAns (replayRd l) w.heap.size e w' ∧ Below w.heap.size w w' := by
  obtain ⟨hR, hW, hB⟩ := one_box w 28 (repC none 0 0 none 0 0 none 0 0).toArray
  have HR0 : Hid (Bx (w.alloc (.cells (repC none 0 0 none 0 0 none 0 0).toArray 28)) w.heap.size 28 (repC none 0 0 none 0 0 none 0 0) ∧ Below w.heap.size w (w.alloc (.cells (repC none 0 0 none 0 0 none 0 0).toArray 28)) ∧ (w.alloc (.cells (repC none 0 0 none 0 0 none 0 0).toArray 28)).heap.size = w.heap.size + 1) := ⟨hR, hB, hW⟩
  have HLI : Hid (Lies w ad0 N 1 (fun i => [.string (str (l.getD i []))])) := hL
  have HN : Hid (N = l.length) := hN
  have HL : Hid (∀ v, v ∈ l → v.length ≤ 1048576) := hl
  clear hR hW hB hL hN hl
  go_enter Try.func24, Try.ntmps24
  go_wp2_with fail
  refine (creplay_any l ad0 N cap0 _ (HLI.out.below HR0.out.2.1) HN.out HL.out hb).mono ?_
  rintro e w1 ⟨⟨a1, n1, c1, a2, n2, c2, a3, n3, c3, rfl, hL1⟩, hb1⟩
  generalize hx : replayRd l = x at *
  have HX : Hid (replayRd l = x) := hx
  clear hx
  have hr := HR0.out.1.below hb1 HR0.out.1.lt
  have HB : Hid (Below w.heap.size w w1) := HR0.out.2.1.trans (hb1.mono HR0.out.2.1.size)
  have HL1 : Hid (Lists w1 (w.heap.size + 1) x.K x.C x.E a1 n1 c1 a2 n2 c2 a3 n3 c3) := by rw [HR0.out.2.2] at hL1; exact hL1
  clear hL1 hb1 HR0
  go_wp2_with (refine wpList_bstore (by rfl) _ _ _ (by rfl) w.heap.size 28 (by rfl) _ _ (by rfl) hr 3 (by rfl) (by kernel_rfl) (by rfl) (by intro x hx; simp at hx; rcases hx with rfl | rfl | rfl <;> rfl) ?_; intro w9 hr9 hu9)
  exact bodyPost_ret (v := .tuple #[.agg #[.slice a1 n1 c1, .slice a2 n2 c2, .slice a3 n3 c3], .int .i64 x.err, .int .i64 x.place]) (results_box3 (by rfl) _ _ w.heap.size 28 _ _ _ _ (by rfl) hr9 (by rfl) (by rfl) Try.underlying28 (by rfl) 3 (by rfl) (by kernel_rfl)) rfl ⟨by rw [HX.out]; exact ⟨a1, n1, c1, a2, n2, c2, a3, n3, c3, rfl, (HL1.out.upd hu9 (by omega)).mono (by omega)⟩, hu9.below HB.out (Nat.le_refl _)⟩
end Go.Proofs.Ytdjpkgaicmklmab

/- cardFollows, Follows, newState of the program: walked. -/
namespace Go.Proofs.Ytdjpkgaicmklmab
open Go.RowKit

set_option maxRecDepth 100000 in
set_option maxHeartbeats 4000000 in
theorem cardFollows_any (x y : Cd) (w : World) :
    Calls Try.prog 93 #[cdV x, cdV y] w fun e w' => e = .returned (.bool (laterB y x || decide (y = x))) ∧ Below w.heap.size w w' := by
  obtain ⟨hA, hB, hs, hb⟩ := two_boxes w 68 68 x.cells.toArray y.cells.toArray
  have a0 := hA.cell 0; have a1 := hA.cell 1; have a2 := hA.cell 2; have a3 := hA.cell 3; have a4 := hA.cell 4
  have b0 := hB.cell 0; have b1 := hB.cell 1; have b2 := hB.cell 2; have b3 := hB.cell 3; have b4 := hB.cell 4
  dsimp only [List.getElem?_cons_zero, List.getElem?_cons_succ] at a0 a1 a2 a3 a4 b0 b1 b2 b3 b4
  have HA : Hid (∀ w', Below ((w.alloc (.cells x.cells.toArray 68)).alloc (.cells y.cells.toArray 68)).heap.size ((w.alloc (.cells x.cells.toArray 68)).alloc (.cells y.cells.toArray 68)) w' → Bx w' w.heap.size 68 x.cells ∧ Bx w' (w.heap.size + 1) 68 y.cells ∧ Below w.heap.size w w') := fun w' h => ⟨hA.below h hA.lt, hB.below h hB.lt, hb.trans (h.mono hb.size)⟩
  clear hA hB hs hb
  cases hl : laterB y x with
  | true =>
    have HL : Hid (laterB y x = true) := hl
    clear hl
    go_enter Try.func93, Try.ntmps93
    go_wp2_with fail
    refine (plater_any y x _).mono ?_
    rintro e w1 ⟨rfl, hb1⟩
    rw [HL.out]
    obtain ⟨-, -, hbw⟩ := HA.out w1 hb1
    clear hb1
    go_wp2_with fail
    go_ret
    exact ⟨rfl, hbw⟩
  | false =>
    have HL : Hid (laterB y x = false) := hl
    clear hl
    go_enter Try.func93, Try.ntmps93
    go_wp2_with fail
    refine (plater_any y x _).mono ?_
    rintro e w1 ⟨rfl, hb1⟩
    rw [HL.out]
    obtain ⟨hA, hB, hbw⟩ := HA.out w1 hb1
    clear hb1 a0 a1 a2 a3 a4 b0 b1 b2 b3 b4
    have a0 := hA.cell 0; have a1 := hA.cell 1; have a2 := hA.cell 2; have a3 := hA.cell 3; have a4 := hA.cell 4
    have b0 := hB.cell 0; have b1 := hB.cell 1; have b2 := hB.cell 2; have b3 := hB.cell 3; have b4 := hB.cell 4
    dsimp only [List.getElem?_cons_zero, List.getElem?_cons_succ] at a0 a1 a2 a3 a4 b0 b1 b2 b3 b4
    clear hA hB
    have HBW : Hid (Below w.heap.size w w1) := hbw
    clear hbw
    go_wp2_with fail
    refine (sameCard_any x y _).mono ?_
    rintro e w2 ⟨rfl, hb2⟩
    have hbw2 := HBW.out.trans (hb2.mono HBW.out.size)
    clear hb2
    have HE : Hid (decide (x = y) = decide (y = x)) := by
      show _ = _
      by_cases h : x = y
      · subst h; rfl
      · rw [decide_eq_false h, decide_eq_false (fun h2 => h h2.symm)]
    go_wp2_with fail
    go_ret
    exact ⟨by rw [Bool.false_or, ← HE.out]; rfl, hbw2⟩

/-- One card of the elder: is it there, as it is or later? -/
def fcB (r : List Cd) (c : Cd) : Bool := match look Cd.id r c.id with
  | some d => laterB d c || decide (d = c)
  | none => false
theorem fc_in {r : List Cd} {c : Cd} (h : cardIx r c.id < r.length) : fcB r c = (laterB (r.getD (cardIx r c.id) cd0) c || decide (r.getD (cardIx r c.id) cd0 = c)) := by
  unfold fcB; rw [cardIx_look, if_pos h]
theorem fc_end {r : List Cd} {c : Cd} (h : ¬ cardIx r c.id < r.length) : fcB r c = false := by
  unfold fcB; rw [cardIx_look, if_neg h]
def fkB (r : List Ck) (c : Ck) : Bool := match look Ck.site r c.site with
  | some d => decide (c.count ≤ d.count)
  | none => false
theorem fk_clk {r : List Ck} {c : Ck} (hp : 1 ≤ c.count) : fkB r c = decide (¬ clkOf r c.site < c.count) := by
  unfold fkB clkOf
  cases look Ck.site r c.site with
  | some d => simp only; congr 1; exact propext ⟨fun h => by omega, fun h => by omega⟩
  | none => simp only; rw [decide_eq_false (by omega)]
theorem follow_no1 {o r : Tri} {i : Nat} (hi : i < o.K.length) (hp : 1 ≤ (o.K.getD i ck0).count) (h : clkOf r.K (o.K.getD i ck0).site < (o.K.getD i ck0).count) : followB o r = false := by
  have : followK o.K r.K = false := by
    unfold followK
    rw [List.all_eq_false]
    refine ⟨o.K.getD i ck0, getD_mem hi, ?_⟩
    show ¬ fkB r.K (o.K.getD i ck0) = true
    rw [fk_clk hp, decide_eq_false (by omega)]; decide
  unfold followB
  rw [this]; rfl
theorem follow_no2 {o r : Tri} {i : Nat} (hi : i < o.C.length) (h : fcB r.C (o.C.getD i cd0) = false) : followB o r = false := by
  have : followC o.C r.C = false := by
    unfold followC
    rw [List.all_eq_false]
    exact ⟨o.C.getD i cd0, getD_mem hi, by show ¬ fcB r.C (o.C.getD i cd0) = true; rw [h]; decide⟩
  unfold followB
  rw [this, Bool.and_false]
theorem follow_yes {o r : Tri} (hp : ∀ x ∈ o.K, 1 ≤ x.count) (h1 : ∀ i, i < o.K.length → ¬ clkOf r.K (o.K.getD i ck0).site < (o.K.getD i ck0).count) (h2 : ∀ i, i < o.C.length → fcB r.C (o.C.getD i cd0) = true) : followB o r = true := by
  unfold followB followK followC
  rw [Bool.and_eq_true, List.all_eq_true, List.all_eq_true]
  constructor
  · intro x hx
    obtain ⟨i, hi, rfl⟩ := List.mem_iff_getElem.1 hx
    have e : o.K.getD i ck0 = o.K[i] := by simp [List.getD, hi]
    have := h1 i hi
    rw [e] at this
    show fkB r.K o.K[i] = true
    rw [fk_clk (hp _ hx)]; exact decide_eq_true this
  · intro x hx
    obtain ⟨i, hi, rfl⟩ := List.mem_iff_getElem.1 hx
    have e : o.C.getD i cd0 = o.C[i] := by simp [List.getD, hi]
    have := h2 i hi
    rw [e] at this
    exact this
theorem counts_of {R : Tri} (h : R.rep.chk = 0) : ∀ x ∈ R.K, 1 ≤ x.count := fun x hx => by
  obtain ⟨i, hi, rfl⟩ := List.mem_iff_getElem.1 hx
  have := ((Rep.nums h).1 i hi).2.2
  simpa [Tri.rep, repOf, List.getD, hi] using this
end Go.Proofs.Ytdjpkgaicmklmab

/- Follows of the program: walked. -/
namespace Go.Proofs.Ytdjpkgaicmklmab
open Go.RowKit

set_option maxRecDepth 100000 in
set_option maxHeartbeats 8000000 in
theorem pfollows_any (O R : Tri) (a1 a2 a3 b1 b2 b3 : Option Addr) (k1 k2 k3 l1 l2 l3 : Nat) (w : World) (hO : Has w O.rep a1 a2 a3) (hR : Has w R.rep b1 b2 b3) (hp : ∀ x ∈ O.K, 1 ≤ x.count) (f1 : O.K.length ≤ 1000 ∧ O.C.length ≤ 1000) (f2 : R.K.length ≤ 1000 ∧ R.C.length ≤ 1000) :
    Calls Try.prog 69 #[repV O.rep a1 a2 a3 k1 k2 k3, repV R.rep b1 b2 b3 l1 l2 l3] w fun e w' => e = .returned (.bool (followB O R)) ∧ Below w.heap.size w w' := by
  obtain ⟨u1, u2⟩ := f1
  obtain ⟨v1, v2⟩ := f2
  have h0 : BoxT w O.rep R.rep a1 a2 a3 b1 b2 b3 k1 k2 k3 l1 l2 l3 ((w.alloc (.cells #[.slice a1 O.rep.n1 k1, .slice a2 O.rep.n2 k2, .slice a3 O.rep.n3 k3] 28)).alloc (.cells #[.slice b1 R.rep.n1 l1, .slice b2 R.rep.n2 l2, .slice b3 R.rep.n3 l3] 28)) := Below.refl _ _
  have H0 : Hid (BoxT w O.rep R.rep a1 a2 a3 b1 b2 b3 k1 k2 k3 l1 l2 l3 ((w.alloc (.cells #[.slice a1 O.rep.n1 k1, .slice a2 O.rep.n2 k2, .slice a3 O.rep.n3 k3] 28)).alloc (.cells #[.slice b1 R.rep.n1 l1, .slice b2 R.rep.n2 l2, .slice b3 R.rep.n3 l3] 28))) := h0
  have HO : Hid (Has w O.rep a1 a2 a3) := hO
  have HR : Hid (Has w R.rep b1 b2 b3) := hR
  have HP : Hid (∀ x ∈ O.K, 1 ≤ x.count) := hp
  have y1 : O.rep.n1 ≤ 1000 := u1
  have y2 : O.rep.n2 ≤ 1000 := u2
  have y3 : R.rep.n1 ≤ 1000 := v1
  have y4 : R.rep.n2 ≤ 1000 := v2
  clear h0 hO hR hp u1 u2 v1 v2
  go_enter Try.func69, Try.ntmps69
  go_wp2_with fail
  go_loopw [5, 6] (fun u _ wr => ∃ i : Nat, i ≤ O.rep.n1 ∧ u = .int .i64 i ∧ (∀ j, j < i → (O.K.getD j ck0).count ≤ clkOf R.K (O.K.getD j ck0).site) ∧ BoxT w O.rep R.rep a1 a2 a3 b1 b2 b3 k1 k2 k3 l1 l2 l3 wr) (fun u _ _ => O.rep.n1 - (intOf u).toNat)
  case atStart => exact ⟨0, Nat.zero_le _, rfl, fun j hj => by omega, H0.out⟩
  case round =>
    clear H0
    obtain ⟨i, hi, rfl, hno, hb⟩ := hrel
    have HNO : Hid (∀ j, j < i → (O.K.getD j ck0).count ≤ clkOf R.K (O.K.getD j ck0).site) := hno
    clear hno
    obtain ⟨⟨x1, x2, x3⟩, z1, z2, z3⟩ := hb.cells
    by_cases hlt : i < O.rep.n1
    · obtain ⟨b, o, hbl, hix, c0, c1⟩ := Lies.clock (c := fun i => O.K.getD i ck0) (HO.out.below hb.old).l1 k1 hlt
      have HC : Hid (1 ≤ (O.K.getD i ck0).count) := HP.out _ (getD_mem hlt)
      have HNOF : Hid (clkOf R.K (O.K.getD i ck0).site < (O.K.getD i ck0).count → followB O R = false) := fun h => follow_no1 hlt HC.out h
      have HGO : Hid ((O.K.getD i ck0).count ≤ clkOf R.K (O.K.getD i ck0).site → ∀ j, j < i + 1 → (O.K.getD j ck0).count ≤ clkOf R.K (O.K.getD j ck0).site) := fun h j hj => by
        rcases Nat.lt_or_ge j i with h2 | h2
        · exact HNO.out j h2
        · rw [show j = i by omega]; exact h
      have HLR : Hid (∀ q, Lies (wr.drewN q) b1 R.rep.n1 2 (fun i => (R.K.getD i ck0).cells)) := fun q => (HR.out.below hb.old).l1.below (below_drewN (Below.refl _ _) q)
      have HBQ : Hid (∀ q, BoxT w O.rep R.rep a1 a2 a3 b1 b2 b3 k1 k2 k3 l1 l2 l3 (wr.drewN q)) := fun q => below_drewN hb q
      generalize O.K.getD i ck0 = c at *
      have KQ : Hid (∀ q, Calls Try.prog 73 #[.slice b1 R.rep.n1 l1, .int .i64 c.site] (wr.drewN q) fun e w' => e = .returned (.int .i64 (clkOf R.K c.site)) ∧ w' = wr.drewN q) := fun q => (countOf_any b1 R.rep.n1 l1 (fun i => R.K.getD i ck0) c.site _ (by omega) (HLR.out q)).mono fun e w' ⟨h1, h2⟩ => ⟨by rw [h1, clk_list (O := R.K) (n := R.rep.n1) rfl], h2⟩
      clear HNO hb
      go_wp2_with fail
      go_quiet ((go_at_call 73; exact Calls.quiet_of_same (KQ.out _)))
      generalize hwq : wr.drewN _ = wq
      have hbq : BoxT w O.rep R.rep a1 a2 a3 b1 b2 b3 k1 k2 k3 l1 l2 l3 wq := by rw [← hwq]; exact HBQ.out _
      have c1q : wq.cell? ⟨b, o + 1, none⟩ = some (.int .i64 c.count) := by rw [← hwq]; exact c1
      clear hwq KQ HLR HBQ x1 x2 x3 z1 z2 z3 c0 c1
      obtain ⟨⟨x1, x2, x3⟩, z1, z2, z3⟩ := hbq.cells
      by_cases hq : clkOf R.K c.site < c.count
      · have E : Hid (followB O R = false) := HNOF.out hq
        generalize clkOf R.K c.site = y at *
        go_wp2_with fail
        go_ret
        exact ⟨by rw [E.out]; rfl, hbq.old⟩
      · have E : Hid (∀ j, j < i + 1 → (O.K.getD j ck0).count ≤ clkOf R.K (O.K.getD j ck0).site) := HGO.out (by omega)
        generalize clkOf R.K c.site = y at *
        go_wp2_with fail
        go_roundw
        case rel => exact ⟨i + 1, by omega, by go_num, E.out, hbq⟩
        case measure => simp [intOf]; omega
    · obtain rfl : O.rep.n1 = i := by omega
      have HK : Hid (∀ j, j < O.K.length → (O.K.getD j ck0).count ≤ clkOf R.K (O.K.getD j ck0).site) := HNO.out
      have HBB : Hid (BoxT w O.rep R.rep a1 a2 a3 b1 b2 b3 k1 k2 k3 l1 l2 l3 wr) := hb
      clear HNO hb
      go_wp2_with fail
      clear x1 x2 x3 z1 z2 z3
      go_loopw [7, 8] (fun u _ wr => ∃ i : Nat, i ≤ O.rep.n2 ∧ u = .int .i64 i ∧ (∀ j, j < i → fcB R.C (O.C.getD j cd0) = true) ∧ BoxT w O.rep R.rep a1 a2 a3 b1 b2 b3 k1 k2 k3 l1 l2 l3 wr) (fun u _ _ => O.rep.n2 - (intOf u).toNat)
      case atStart => exact ⟨0, Nat.zero_le _, rfl, fun j hj => by omega, HBB.out⟩
      case round =>
        clear HBB
        obtain ⟨i, hi, rfl, hno, hb⟩ := hrel
        have HNO : Hid (∀ j, j < i → fcB R.C (O.C.getD j cd0) = true) := hno
        clear hno
        obtain ⟨⟨x1, x2, x3⟩, z1, z2, z3⟩ := hb.cells
        by_cases hlt : i < O.rep.n2
        · obtain ⟨b, o, hbl, hix, c0, c1, c2, c3, c4⟩ := Lies.card (c := fun i => O.C.getD i cd0) (HO.out.below hb.old).l2 k2 hlt
          have HNOF : Hid (fcB R.C (O.C.getD i cd0) = false → followB O R = false) := fun h => follow_no2 hlt h
          have HGO : Hid (fcB R.C (O.C.getD i cd0) = true → ∀ j, j < i + 1 → fcB R.C (O.C.getD j cd0) = true) := fun h j hj => by
            rcases Nat.lt_or_ge j i with h2 | h2
            · exact HNO.out j h2
            · rw [show j = i by omega]; exact h
          have HLR : Hid (∀ q, Lies (wr.drewN q) b2 R.rep.n2 5 (fun i => (R.C.getD i cd0).cells)) := fun q => (HR.out.below hb.old).l2.below (below_drewN (Below.refl _ _) q)
          have HBQ : Hid (∀ q, BoxT w O.rep R.rep a1 a2 a3 b1 b2 b3 k1 k2 k3 l1 l2 l3 (wr.drewN q)) := fun q => below_drewN hb q
          generalize O.C.getD i cd0 = c at *
          have KQ : Hid (∀ q, Calls Try.prog 83 #[.slice b2 R.rep.n2 l2, .int .i64 c.id] (wr.drewN q) fun e w' => e = .returned (.int .i64 (cardIx R.C c.id : Int)) ∧ w' = wr.drewN q) := fun q => pcardAt_any R.C b2 R.rep.n2 l2 c.id _ rfl (by omega) (HLR.out q)
          have HLE : Hid (cardIx R.C c.id ≤ R.rep.n2) := cardIx_le _ _
          clear HNO hb
          go_wp2_with fail
          go_quiet ((go_at_call 83; exact Calls.quiet_of_same (KQ.out _)))
          generalize hwq : wr.drewN _ = wq
          have hbq : BoxT w O.rep R.rep a1 a2 a3 b1 b2 b3 k1 k2 k3 l1 l2 l3 wq := by rw [← hwq]; exact HBQ.out _
          have d0 : wq.cell? ⟨b, o, none⟩ = some (.int .i64 c.id) := by rw [← hwq]; exact c0
          have d1 : wq.cell? ⟨b, o + 1, none⟩ = some (.int .i64 c.site) := by rw [← hwq]; exact c1
          have d2 : wq.cell? ⟨b, o + 2, none⟩ = some (.int .i64 c.count) := by rw [← hwq]; exact c2
          have d3 : wq.cell? ⟨b, o + 3, none⟩ = some (.bool c.gone) := by rw [← hwq]; exact c3
          have d4 : wq.cell? ⟨b, o + 4, none⟩ = some (.string c.text) := by rw [← hwq]; exact c4
          have hblq : b < wq.heap.size := by rw [← hwq]; exact hbl
          have HRQ : Hid (Lies wq b2 R.rep.n2 5 (fun i => (R.C.getD i cd0).cells)) := by rw [← hwq]; exact HLR.out _
          clear hwq KQ HLR HBQ x1 x2 x3 z1 z2 z3 c0 c1 c2 c3 c4 hbl
          obtain ⟨⟨x1, x2, x3⟩, z1, z2, z3⟩ := hbq.cells
          by_cases hq : cardIx R.C c.id < R.rep.n2
          · obtain ⟨bo, oo, hblo, hixo, g0, g1, g2, g3, g4⟩ := Lies.card (c := fun i => R.C.getD i cd0) HRQ.out l2 hq
            have HF : Hid (fcB R.C c = (laterB (R.C.getD (cardIx R.C c.id) cd0) c || decide (R.C.getD (cardIx R.C c.id) cd0 = c))) := fc_in hq
            generalize R.C.getD (cardIx R.C c.id) cd0 = d at *
            generalize cardIx R.C c.id = qx at *
            have hqn : ((qx : Int) == (R.rep.n2 : Int)) = false := by rw [beq_eq_false_iff_ne]; omega
            have HXW : Hid (∀ X, Below wq.heap.size wq X → BoxT w O.rep R.rep a1 a2 a3 b1 b2 b3 k1 k2 k3 l1 l2 l3 X) := fun X h => Below.trans hbq (h.mono (by have := hbq.size; simp at this; omega))
            have HS : Hid (∀ X, Below wq.heap.size wq X → (X.cell? ⟨w.heap.size, 1, none⟩ = some (.slice a2 O.rep.n2 k2) ∧ X.cell? ⟨w.heap.size + 1, 1, none⟩ = some (.slice b2 R.rep.n2 l2)) ∧ (X.cell? ⟨b, o, none⟩ = some (.int .i64 c.id) ∧ X.cell? ⟨b, o + 1, none⟩ = some (.int .i64 c.site) ∧ X.cell? ⟨b, o + 2, none⟩ = some (.int .i64 c.count) ∧ X.cell? ⟨b, o + 3, none⟩ = some (.bool c.gone) ∧ X.cell? ⟨b, o + 4, none⟩ = some (.string c.text)) ∧ (X.cell? ⟨bo, oo, none⟩ = some (.int .i64 d.id) ∧ X.cell? ⟨bo, oo + 1, none⟩ = some (.int .i64 d.site) ∧ X.cell? ⟨bo, oo + 2, none⟩ = some (.int .i64 d.count) ∧ X.cell? ⟨bo, oo + 3, none⟩ = some (.bool d.gone) ∧ X.cell? ⟨bo, oo + 4, none⟩ = some (.string d.text))) := fun X h =>
              ⟨⟨(HXW.out X h).cells.1.2.1, (HXW.out X h).cells.2.2.1⟩, ⟨(h.cell (p := ⟨b, o, none⟩) hblq).trans d0, (h.cell (p := ⟨b, o + 1, none⟩) hblq).trans d1, (h.cell (p := ⟨b, o + 2, none⟩) hblq).trans d2, (h.cell (p := ⟨b, o + 3, none⟩) hblq).trans d3, (h.cell (p := ⟨b, o + 4, none⟩) hblq).trans d4⟩, (h.cell (p := ⟨bo, oo, none⟩) hblo).trans g0, (h.cell (p := ⟨bo, oo + 1, none⟩) hblo).trans g1, (h.cell (p := ⟨bo, oo + 2, none⟩) hblo).trans g2, (h.cell (p := ⟨bo, oo + 3, none⟩) hblo).trans g3, (h.cell (p := ⟨bo, oo + 4, none⟩) hblo).trans g4⟩
            cases hf : (laterB d c || decide (d = c)) with
            | true =>
              have KF : Hid (∀ X, Calls Try.prog 93 #[cdV c, cdV d] X fun e w' => e = .returned (.bool true) ∧ Below X.heap.size X w') := fun X => (cardFollows_any c d X).mono fun e w' ⟨h1, h2⟩ => ⟨by rw [h1, hf], h2⟩
              have E : Hid (∀ j, j < i + 1 → fcB R.C (O.C.getD j cd0) = true) := HGO.out (by rw [HF.out, hf])
              clear HF hf HGO HNOF
              go_wp2_with fail
              go_region_held3 (fun X => (X.cell? ⟨w.heap.size, 1, none⟩ = some (.slice a2 O.rep.n2 k2) ∧ X.cell? ⟨w.heap.size + 1, 1, none⟩ = some (.slice b2 R.rep.n2 l2)) ∧ (X.cell? ⟨b, o, none⟩ = some (.int .i64 c.id) ∧ X.cell? ⟨b, o + 1, none⟩ = some (.int .i64 c.site) ∧ X.cell? ⟨b, o + 2, none⟩ = some (.int .i64 c.count) ∧ X.cell? ⟨b, o + 3, none⟩ = some (.bool c.gone) ∧ X.cell? ⟨b, o + 4, none⟩ = some (.string c.text)) ∧ (X.cell? ⟨bo, oo, none⟩ = some (.int .i64 d.id) ∧ X.cell? ⟨bo, oo + 1, none⟩ = some (.int .i64 d.site) ∧ X.cell? ⟨bo, oo + 2, none⟩ = some (.int .i64 d.count) ∧ X.cell? ⟨bo, oo + 3, none⟩ = some (.bool d.gone) ∧ X.cell? ⟨bo, oo + 4, none⟩ = some (.string d.text)))
                (first | (refine HS.out _ ?_; (repeat (first | exact Below.refl _ _ | exact hbL | refine Below.drew ?_))))
                (first | (go_at_call 93; refine (KF.out _).mono ?_; rintro e wL ⟨rfl, hb0⟩; have hbL : Below wq.heap.size wq wL := Below.trans (by (repeat (first | exact Below.refl _ _ | refine Below.drew ?_))) hb0; clear hb0))
              have hbx := HXW.out _ hbL
              clear hbL HS HXW
              go_wp2_with fail
              go_roundw
              case rel => exact ⟨i + 1, by omega, by go_num, E.out, hbx⟩
              case measure => simp [intOf]; omega
            | false =>
              have KF : Hid (∀ X, Calls Try.prog 93 #[cdV c, cdV d] X fun e w' => e = .returned (.bool false) ∧ Below X.heap.size X w') := fun X => (cardFollows_any c d X).mono fun e w' ⟨h1, h2⟩ => ⟨by rw [h1, hf], h2⟩
              have E : Hid (followB O R = false) := HNOF.out (by rw [HF.out, hf])
              clear HF hf HGO HNOF
              go_wp2_with fail
              go_region_held3 (fun X => (X.cell? ⟨w.heap.size, 1, none⟩ = some (.slice a2 O.rep.n2 k2) ∧ X.cell? ⟨w.heap.size + 1, 1, none⟩ = some (.slice b2 R.rep.n2 l2)) ∧ (X.cell? ⟨b, o, none⟩ = some (.int .i64 c.id) ∧ X.cell? ⟨b, o + 1, none⟩ = some (.int .i64 c.site) ∧ X.cell? ⟨b, o + 2, none⟩ = some (.int .i64 c.count) ∧ X.cell? ⟨b, o + 3, none⟩ = some (.bool c.gone) ∧ X.cell? ⟨b, o + 4, none⟩ = some (.string c.text)) ∧ (X.cell? ⟨bo, oo, none⟩ = some (.int .i64 d.id) ∧ X.cell? ⟨bo, oo + 1, none⟩ = some (.int .i64 d.site) ∧ X.cell? ⟨bo, oo + 2, none⟩ = some (.int .i64 d.count) ∧ X.cell? ⟨bo, oo + 3, none⟩ = some (.bool d.gone) ∧ X.cell? ⟨bo, oo + 4, none⟩ = some (.string d.text)))
                (first | (refine HS.out _ ?_; (repeat (first | exact Below.refl _ _ | exact hbL | refine Below.drew ?_))))
                (first | (go_at_call 93; refine (KF.out _).mono ?_; rintro e wL ⟨rfl, hb0⟩; have hbL : Below wq.heap.size wq wL := Below.trans (by (repeat (first | exact Below.refl _ _ | refine Below.drew ?_))) hb0; clear hb0))
              have hbx := HXW.out _ hbL
              clear hbL HS HXW
              go_wp2_with fail
              go_ret
              exact ⟨by rw [E.out]; rfl, hbx.old⟩
          · have E : Hid (followB O R = false) := HNOF.out (fc_end hq)
            have hqe : cardIx R.C c.id = R.rep.n2 := by have := HLE.out; omega
            rw [hqe]
            clear hqe hq HLE
            have hqn : ((R.rep.n2 : Int) == (R.rep.n2 : Int)) = true := by simp
            go_wp2_with fail
            go_quiet (fail)
            go_wp2_with fail
            go_ret
            exact ⟨by rw [E.out]; rfl, BoxT.old (below_drewN hbq _)⟩
        · obtain rfl : O.rep.n2 = i := by omega
          have E : Hid (followB O R = true) := follow_yes HP.out (fun j hj => by have := HK.out j hj; omega) HNO.out
          go_wp2_with fail
          go_ret
          exact ⟨by rw [E.out]; rfl, hb.old⟩
end Go.Proofs.Ytdjpkgaicmklmab

/- newState of the program: walked. -/
namespace Go.Proofs.Ytdjpkgaicmklmab
open Go.RowKit

set_option maxRecDepth 100000 in
set_option maxHeartbeats 8000000 in
theorem newState_any (A B : Tri) (a1 a2 a3 b1 b2 b3 : Option Addr) (k1 k2 k3 l1 l2 l3 : Nat) (w : World) (hA : Has w A.rep a1 a2 a3) (hB : Has w B.rep b1 b2 b3) (f1 : A.K.length ≤ 1000 ∧ A.C.length ≤ 1000) (g0 : B.K.length ≤ 1000 ∧ B.C.length ≤ 1000 ∧ B.E.length ≤ 1000) :
    Calls Try.prog 70 #[repV A.rep a1 a2 a3 k1 k2 k3, repV B.rep b1 b2 b3 l1 l2 l3] w fun e w' => ∃ c1 n1 d1 c2 n2 d2 c3 n3 d3, e = .returned (.agg #[.slice c1 n1 d1, .slice c2 n2 d2, .slice c3 n3 d3]) ∧ Lists w' w.heap.size (newK A.K B.K) (newC A.C B.C) B.E c1 n1 d1 c2 n2 d2 c3 n3 d3 ∧ Below w.heap.size w w' := by
  obtain ⟨f1, f2⟩ := f1
  obtain ⟨g1, g2, g3⟩ := g0
  have HA : Hid (Has w A.rep a1 a2 a3) := hA
  have HB : Hid (Has w B.rep b1 b2 b3) := hB
  have H0 : Hid (M3 w (repC a1 A.rep.n1 k1 a2 A.rep.n2 k2 a3 A.rep.n3 k3) (repC b1 B.rep.n1 l1 b2 B.rep.n2 l2 b3 B.rep.n3 l3) (repC none 0 0 none 0 0 none 0 0) (((w.alloc (.cells #[.slice a1 A.rep.n1 k1, .slice a2 A.rep.n2 k2, .slice a3 A.rep.n3 k3] 28)).alloc (.cells #[.slice b1 B.rep.n1 l1, .slice b2 B.rep.n2 l2, .slice b3 B.rep.n3 l3] 28)).alloc (.cells #[.slice none 0 0, .slice none 0 0, .slice none 0 0] 28))) := M3.start w _ _ _
  have x0 := H0.out.a.cell 0; have y0 := H0.out.b.cell 0
  dsimp only [List.getElem?_cons_zero, List.getElem?_cons_succ] at x0 y0
  clear hA hB
  go_enter Try.func70, Try.ntmps70
  go_wp2_with fail
  refine (newerClocks_any A.K B.K a1 b1 A.K.length B.K.length k1 l1 _ (HA.out.l1.below H0.out.old) (HB.out.l1.below H0.out.old) rfl rfl (by omega) (by omega)).mono ?_
  rintro e w1 ⟨c1, d1, n1, rfl, hn1, hv1, hb1⟩
  have hz0 := H0.out.sz
  have HV1 : Hid (Vec w1 (w.heap.size + 3) 72 2 c1 n1 d1 (kcells (newK A.K B.K))) := hv1.mono hz0
  have HN1 : Hid (n1 = (newK A.K B.K).length) := hn1
  have hM1 : Hid (M3 w (repC a1 A.rep.n1 k1 a2 A.rep.n2 k2 a3 A.rep.n3 k3) (repC b1 B.rep.n1 l1 b2 B.rep.n2 l2 b3 B.rep.n3 l3) (repC none 0 0 none 0 0 none 0 0) w1) := H0.out.step hb1
  clear hv1 hn1 hb1 H0 x0 y0 hz0
  have x1 := hM1.out.a.cell 1; have y1 := hM1.out.b.cell 1
  dsimp only [List.getElem?_cons_zero, List.getElem?_cons_succ] at x1 y1
  go_wp2_with fail
  refine (newerCards_any A.C B.C a2 b2 A.C.length B.C.length k2 l2 _ (HA.out.l2.below hM1.out.old) (HB.out.l2.below hM1.out.old) rfl rfl (by omega) (by omega)).mono ?_
  rintro e w2 ⟨c2, d2, n2, rfl, hn2, hv2, hb2⟩
  have hz0 := hM1.out.sz
  have HV2 : Hid (Vec w2 (w.heap.size + 3) 68 5 c2 n2 d2 (ccells (newC A.C B.C))) := hv2.mono hz0
  have HV1b : Hid (Vec w2 (w.heap.size + 3) 72 2 c1 n1 d1 (kcells (newK A.K B.K))) := HV1.out.keep hb2
  have HN2 : Hid (n2 = (newC A.C B.C).length) := hn2
  have hM2 : Hid (M3 w (repC a1 A.rep.n1 k1 a2 A.rep.n2 k2 a3 A.rep.n3 k3) (repC b1 B.rep.n1 l1 b2 B.rep.n2 l2 b3 B.rep.n3 l3) (repC none 0 0 none 0 0 none 0 0) w2) := hM1.out.step hb2
  clear hv2 hn2 hb2 hM1 HV1 x1 y1 hz0
  have x2 := (hM2.out.b.alloc (.cells #[] 61)).cell 2
  dsimp only [List.getElem?_cons_zero, List.getElem?_cons_succ] at x2
  have hV0 : Hid (Vec (w2.alloc (.cells #[] 61)) w2.heap.size 61 2 (some ⟨w2.heap.size, 0, none⟩) 0 0 []) := Vec.lit w2 w2.heap.size 61 2 0 [] (Nat.le_refl _) (by omega) rfl
  have hz0 := hM2.out.sz
  have HSZ : Hid (w2.heap.size ≤ (w2.alloc (.cells #[] 61)).heap.size) := by show _ ≤ _; simp
  have HLE : Hid (Lies (w2.alloc (.cells #[] 61)) b3 B.E.length 2 (fun i => (B.E.getD i ed0).cells)) := (HB.out.l3.below hM2.out.old).below ((Below.refl _ _).alloc (Nat.le_refl _) _)
  have HR2 : Hid (Bx (w2.alloc (.cells #[] 61)) (w.heap.size + 2) 28 (repC none 0 0 none 0 0 none 0 0)) := hM2.out.r.alloc _
  go_wp2_with (first
    | (at_builtin; refine wpList_pushAll (by rfl) _ _ 26 (by rfl) w2.heap.size 61 2 24 (.agg #[.int .i64 0, .string ⟨#[]⟩]) Try.underlying26 (by kernel_rfl) rfl (by decide) _ 0 0 [] (by rfl) hV0.out b3 B.E.length l3 (fun i => (B.E.getD i ed0).cells) (by rfl) HLE.out (fun _ _ => rfl) (fun j _ => ones_ed _) ?_ ?_ ?_ B.E.length ?_ ?_; (omega); (omega); (exact HSZ.out); (omega); intro c3 d3 w3 hv3 hb3 hs3; have hr3 := HR2.out.below hb3 (by omega))
    | (refine wpList_bstore (by rfl) _ _ _ (by rfl) (w.heap.size + 2) 28 (by rfl) _ _ (by rfl) hr3 3 (by rfl) (by kernel_rfl) (by rfl) (by intro x hx; simp at hx; rcases hx with rfl | rfl | rfl <;> rfl) ?_; intro w9 hr9 hu9))
  rw [List.nil_append, range_ecells] at hv3
  have hbA : Below w2.heap.size w2 w3 := ((Below.refl _ w2).alloc (Nat.le_refl _) _).trans hb3
  exact bodyPost_ret (v := .agg #[.slice c1 n1 d1, .slice c2 n2 d2, .slice c3 B.E.length d3]) (results_box1 (by rfl) _ _ (w.heap.size + 2) 28 _ _ (by rfl) hr9 Try.underlying28 (by rfl) 3 (by rfl) (by kernel_rfl)) rfl ⟨c1, n1, d1, c2, n2, d2, c3, B.E.length, d3, rfl, ⟨((HV1b.out.keep hbA).upd hu9 (by omega)).mono (by omega), ((HV2.out.keep hbA).upd hu9 (by omega)).mono (by omega), ((hv3.mono hz0).upd hu9 (by omega)).mono (by omega), HN1.out, HN2.out, rfl⟩, hu9.below (hM2.out.old.trans (hbA.mono hM2.out.old.size)) (by omega)⟩

end Go.Proofs.Ytdjpkgaicmklmab

/- Extend of the program: walked. -/
namespace Go.Proofs.Ytdjpkgaicmklmab
open Go.RowKit

theorem replay_sound {l : List (List UInt8)} (h : (replayRd l).err = 0) : (replayRd l).st.rep.chk = 0 := by
  by_cases h16 : 16 < l.length
  · rw [replay_many h16] at h; cases h
  · by_cases h4 : lkErr l = 0
    · cases h5 : firstOf (bad5 l) l.length with
      | some i => rw [replay_twice h16 h4 h5] at h; cases h
      | none =>
        by_cases h6 : l.length = 0 ∨ (firstOf (bad6 l) l.length).isSome = true
        · rw [replay_missing h16 h4 h5 h6] at h; cases h
        · cases h7 : firstOf (bad7 l) l.length with
          | some i => rw [replay_base h16 h4 h5 h6 h7] at h; cases h
          | none =>
            rw [replay_last h16 h4 h5 h6 h7] at h ⊢
            by_cases hc : (chainSt l (l.length - 1)).rep.chk = 0
            · rw [if_pos hc]; exact hc
            · rw [if_neg hc] at h; exact absurd h hc
    · rw [replay_read h16 h4] at h; exact absurd h h4
/-- What Extend answers. -/
abbrev XtV (x : Xt) : Value := .tuple #[.string (str x.b), .int .i64 x.err, .int .i64 x.place]

set_option maxRecDepth 100000 in
set_option maxHeartbeats 8000000 in
theorem cextend_any (l : List (List UInt8)) (R : Tri) (ad0 : Option Addr) (N cap0 : Nat) (b1 b2 b3 : Option Addr) (l1 l2 l3 : Nat) (w : World) (hL : Lies w ad0 N 1 (fun i => [.string (str (l.getD i []))])) (hN : N = l.length) (hl : ∀ v, v ∈ l → v.length ≤ 1048576) (hb : N ≤ 1048576) (hR : Has w R.rep b1 b2 b3) :
    Calls Try.prog 39 #[.slice ad0 N cap0, repV R.rep b1 b2 b3 l1 l2 l3] w fun e w' => e = .returned (XtV (extendRd l R)) ∧ Below w.heap.size w w' := by
  obtain ⟨hX, hW, hB⟩ := one_box w 28 (repC b1 R.rep.n1 l1 b2 R.rep.n2 l2 b3 R.rep.n3 l3).toArray
  have HX0 : Hid (Bx (w.alloc (.cells (repC b1 R.rep.n1 l1 b2 R.rep.n2 l2 b3 R.rep.n3 l3).toArray 28)) w.heap.size 28 (repC b1 R.rep.n1 l1 b2 R.rep.n2 l2 b3 R.rep.n3 l3) ∧ Below w.heap.size w (w.alloc (.cells (repC b1 R.rep.n1 l1 b2 R.rep.n2 l2 b3 R.rep.n3 l3).toArray 28))) := ⟨hX, hB⟩
  have HLI : Hid (Lies w ad0 N 1 (fun i => [.string (str (l.getD i []))])) := hL
  have HN : Hid (N = l.length) := hN
  have HL : Hid (∀ v, v ∈ l → v.length ≤ 1048576) := hl
  have HR : Hid (Has w R.rep b1 b2 b3) := hR
  clear hX hW hB hL hN hl hR
  go_enter Try.func39, Try.ntmps39
  go_wp2_with fail
  refine (chainOf_any l ad0 N cap0 _ (HLI.out.below HX0.out.2) HN.out HL.out hb).mono ?_
  rintro e w1 ⟨⟨a1, n1, c1, a2, n2, c2, a3, n3, c3, q, rfl, hL1, hq⟩, hb1⟩
  have hal : Below w1.heap.size w1 (w1.alloc (.cells (chC a1 n1 c1 a2 n2 c2 a3 n3 c3 q).toArray 101)) := (Below.refl _ _).alloc (Nat.le_refl _) _
  have hs := hb1.trans (hal.mono hb1.size)
  have HX1 : Hid (Bx (w1.alloc (.cells (chC a1 n1 c1 a2 n2 c2 a3 n3 c3 q).toArray 101)) w.heap.size 28 (repC b1 R.rep.n1 l1 b2 R.rep.n2 l2 b3 R.rep.n3 l3) ∧ Below w.heap.size w (w1.alloc (.cells (chC a1 n1 c1 a2 n2 c2 a3 n3 c3 q).toArray 101))) := ⟨HX0.out.1.below hs HX0.out.1.lt, HX0.out.2.trans (hs.mono HX0.out.2.size)⟩
  have HC1 : Hid (Bx (w1.alloc (.cells (chC a1 n1 c1 a2 n2 c2 a3 n3 c3 q).toArray 101)) w1.heap.size 101 (chC a1 n1 c1 a2 n2 c2 a3 n3 c3 q)) := Bx.new _ _ _
  have HL1 : Hid (Lists (w1.alloc (.cells (chC a1 n1 c1 a2 n2 c2 a3 n3 c3 q).toArray 101)) 0 (replayRd l).K (replayRd l).C (replayRd l).E a1 n1 c1 a2 n2 c2 a3 n3 c3) := (hL1.mono (Nat.zero_le _)).keep hal
  have HQ : Hid ((replayRd l).err = 0 → q = sealR (linkR l ((l.length - 1 : Nat) : Int))) := hq
  clear hL1 hq hb1 hal hs HX0
  by_cases he : (replayRd l).err = 0
  · have HE : Hid ((replayRd l).err = 0) := he
    have HSND : Hid ((replayRd l).st.rep.chk = 0) := replay_sound he
    rw [he]
    clear he
    by_cases h16 : 16 ≤ N
    · have E : Hid (extendRd l R = ⟨[], 1, 0⟩) := by show _ = _; unfold extendRd; rw [if_pos HE.out, if_pos (by rw [← HN.out]; exact h16)]
      go_wp2_with fail
      refine bodyPost_ret (v := .tuple #[.string (str []), .int .i64 1, .int .i64 0]) (by simp [results, Try.results39, go_sem]; rfl) rfl ⟨by rw [E.out], HX1.out.2⟩
    · have h16' : ¬ (16 : Int) ≤ (N : Int) := by omega
      have x0 := HX1.out.1.cell 0; have x1 := HX1.out.1.cell 1; have x2 := HX1.out.1.cell 2
      dsimp only [List.getElem?_cons_zero, List.getElem?_cons_succ] at x0 x1 x2
      have HPL : Hid ((replayRd l).place = (replayRd l).place) := rfl
      generalize (replayRd l).place = pl at *
      go_wp2_with fail
      generalize w1.alloc (.cells (chC a1 n1 c1 a2 n2 c2 a3 n3 c3 q).toArray 101) = X1 at *
      generalize w1.heap.size = gc at *
      clear w1 x0 x1 x2
      refine (check_any R.rep b1 b2 b3 l1 l2 l3 _ (HR.out.below HX1.out.2)).mono ?_
      rintro e w2 ⟨rfl, hb2⟩
      have HX2 : Hid (Bx w2 w.heap.size 28 (repC b1 R.rep.n1 l1 b2 R.rep.n2 l2 b3 R.rep.n3 l3) ∧ Below w.heap.size w w2) := ⟨HX1.out.1.below hb2 HX1.out.1.lt, HX1.out.2.trans (hb2.mono HX1.out.2.size)⟩
      have HC2 : Hid (Bx w2 gc 101 (chC a1 n1 c1 a2 n2 c2 a3 n3 c3 q)) := HC1.out.below hb2 HC1.out.lt
      have HL2 : Hid (Lists w2 0 (replayRd l).K (replayRd l).C (replayRd l).E a1 n1 c1 a2 n2 c2 a3 n3 c3) := HL1.out.keep hb2
      clear hb2 HX1 HC1 HL1
      by_cases hc : R.rep.chk = 0
      · have HCR : Hid (R.rep.chk = 0) := hc
        rw [hc]
        clear hc
        have x0 := HX2.out.1.cell 0; have x1 := HX2.out.1.cell 1; have x2 := HX2.out.1.cell 2
        have y0 := HC2.out.cell 0; have y1 := HC2.out.cell 1; have y2 := HC2.out.cell 2
        dsimp only [List.getElem?_cons_zero, List.getElem?_cons_succ] at x0 x1 x2 y0 y1 y2
        go_wp2_with fail
        clear x0 x1 x2 y0 y1 y2
        obtain ⟨f1, f2, f3⟩ := few_of HSND.out
        obtain ⟨g1, g2, g3⟩ := few_of HCR.out
        obtain ⟨hA, hAV⟩ := HL2.out.has (by have := HL2.out.e1; simp only [Ans.st] at f1; omega) (by have := HL2.out.e2; simp only [Ans.st] at f2; omega) (by have := HL2.out.e3; simp only [Ans.st] at f3; omega)
        have HA : Hid (Has w2 (replayRd l).st.rep a1 a2 a3) := hA
        have HAV : Hid (repV (replayRd l).st.rep a1 a2 a3 c1 c2 c3 = .agg #[.slice a1 n1 c1, .slice a2 n2 c2, .slice a3 n3 c3]) := hAV
        clear hA hAV
        rw [← HAV.out]
        refine (pfollows_any (replayRd l).st R a1 a2 a3 b1 b2 b3 c1 c2 c3 l1 l2 l3 _ HA.out (HR.out.below HX2.out.2) (counts_of HSND.out) ⟨by omega, by omega⟩ ⟨by omega, by omega⟩).mono ?_
        rintro e w3 ⟨rfl, hb3⟩
        have HX3 : Hid (Bx w3 w.heap.size 28 (repC b1 R.rep.n1 l1 b2 R.rep.n2 l2 b3 R.rep.n3 l3) ∧ Below w.heap.size w w3) := ⟨HX2.out.1.below hb3 HX2.out.1.lt, HX2.out.2.trans (hb3.mono HX2.out.2.size)⟩
        have HC3 : Hid (Bx w3 gc 101 (chC a1 n1 c1 a2 n2 c2 a3 n3 c3 q)) := HC2.out.below hb3 HC2.out.lt
        have HA3 : Hid (Has w3 (replayRd l).st.rep a1 a2 a3) := HA.out.below hb3
        rw [HAV.out]
        clear hb3 HX2 HC2 HL2 HA
        cases hf : followB (replayRd l).st R with
        | false =>
          have E : Hid (extendRd l R = ⟨[], 18, 0⟩) := by show _ = _; unfold extendRd; rw [if_pos HE.out, if_neg (by rw [← HN.out]; exact h16), if_pos HCR.out, if_neg (by rw [hf]; decide)]
          clear hf
          go_wp2_with fail
          refine bodyPost_ret (v := .tuple #[.string (str []), .int .i64 18, .int .i64 0]) (by simp [results, Try.results39, go_sem]; rfl) rfl ⟨by rw [E.out], HX3.out.2⟩
        | true =>
          have E : Hid (extendRd l R = ⟨nextB l.length (linkR l ((l.length - 1 : Nat) : Int)) (replayRd l).st R, 0, 0⟩) := by show _ = _; unfold extendRd; rw [if_pos HE.out, if_neg (by rw [← HN.out]; exact h16), if_pos HCR.out, if_pos hf]
          obtain ⟨d1, d2⟩ := diff_new (Tri.asc HCR.out) (counts_of HCR.out) hf
          have HD : Hid ((⟨newK (replayRd l).st.K R.K, newC (replayRd l).st.C R.C, R.E⟩ : Tri) = diffS (replayRd l).st R) := by show _ = _; rw [d1, d2]; rfl
          have HFIT : Hid (Fit (diffS (replayRd l).st R).rep) := diff_fit HCR.out
          have HQ2 : Hid (q = sealR (linkR l ((l.length - 1 : Nat) : Int))) := HQ.out HE.out
          have HNB : Hid (nextB l.length (linkR l ((l.length - 1 : Nat) : Int)) (replayRd l).st R = bundleB (recsOf (N : Int) q (diffS (replayRd l).st R).rep)) := by show _ = _; unfold nextB; rw [HQ2.out, HN.out]
          have HSB : Hid (0 ≤ q ∧ q ≤ 4294967295) := by rw [HQ2.out]; exact sealR_bound _
          clear hf d1 d2
          have x0 := HX3.out.1.cell 0; have x1 := HX3.out.1.cell 1; have x2 := HX3.out.1.cell 2
          have y0 := HC3.out.cell 0; have y1 := HC3.out.cell 1; have y2 := HC3.out.cell 2
          dsimp only [List.getElem?_cons_zero, List.getElem?_cons_succ] at x0 x1 x2 y0 y1 y2
          go_wp2_with fail
          clear x0 x1 x2 y0 y1 y2
          rw [← HAV.out]
          refine (newState_any (replayRd l).st R a1 a2 a3 b1 b2 b3 c1 c2 c3 l1 l2 l3 _ HA3.out (HR.out.below HX3.out.2) ⟨by omega, by omega⟩ ⟨by omega, by omega, by omega⟩).mono ?_
          rintro e w4 ⟨i1, m1, j1, i2, m2, j2, i3, m3, j3, rfl, hL4, hb4⟩
          have q1 := newK_len (replayRd l).st.K R.K
          have q2 := newC_len (replayRd l).st.C R.C
          obtain ⟨hD, hDV⟩ := hL4.has (by have := hL4.e1; omega) (by have := hL4.e2; omega) (by have := hL4.e3; omega)
          have HDH : Hid (Has w4 (diffS (replayRd l).st R).rep i1 i2 i3) := by rw [← HD.out]; exact hD
          have e1 : m1 = (diffS (replayRd l).st R).rep.n1 := by rw [← HD.out]; exact hL4.e1
          have e2 : m2 = (diffS (replayRd l).st R).rep.n2 := by rw [← HD.out]; exact hL4.e2
          have e3 : m3 = (diffS (replayRd l).st R).rep.n3 := by rw [← HD.out]; exact hL4.e3
          clear hD hDV hL4 q1 q2
          subst e1 e2 e3
          generalize (diffS (replayRd l).st R).rep = DR at *
          have hal : Below w4.heap.size w4 (w4.alloc (.cells #[.slice i1 DR.n1 j1, .slice i2 DR.n2 j2, .slice i3 DR.n3 j3] 28)) := (Below.refl _ _).alloc (Nat.le_refl _) _
          have hs4 := hb4.trans (hal.mono hb4.size)
          have hbw4 : Below w.heap.size w (w4.alloc (.cells #[.slice i1 DR.n1 j1, .slice i2 DR.n2 j2, .slice i3 DR.n3 j3] 28)) := HX3.out.2.trans (hs4.mono HX3.out.2.size)
          have HBW4 : Hid (Below w.heap.size w (w4.alloc (.cells #[.slice i1 DR.n1 j1, .slice i2 DR.n2 j2, .slice i3 DR.n3 j3] 28))) := hbw4
          have HC4 := HC3.out.below hs4 HC3.out.lt
          have HS4 := Bx.new w4 28 #[.slice i1 DR.n1 j1, .slice i2 DR.n2 j2, .slice i3 DR.n3 j3]
          have HD4 : Hid (Has (w4.alloc (.cells #[.slice i1 DR.n1 j1, .slice i2 DR.n2 j2, .slice i3 DR.n3 j3] 28)) DR i1 i2 i3) := HDH.out.below hal
          have y3 := HC4.cell 3
          have z0 := HS4.cell 0; have z1 := HS4.cell 1; have z2 := HS4.cell 2
          dsimp only [List.getElem?_cons_zero, List.getElem?_cons_succ] at y3 z0 z1 z2
          clear hb4 hal hs4 hbw4 HC4 HS4 HX3 HC3 HA3 HDH
          go_wp2_with fail
          refine (bundle_any (N : Int) q DR i1 i2 i3 j1 j2 j3 _ HD4.out HFIT.out ⟨by omega, by omega⟩ HSB.out.1 HSB.out.2).mono ?_
          rintro e w5 ⟨rfl, hb5⟩
          have HB5 : Hid (Below w.heap.size w w5) := HBW4.out.trans (hb5.mono HBW4.out.size)
          clear hb5 y3 z0 z1 z2
          go_wp2_with fail
          refine bodyPost_ret (v := .tuple #[.string (str (bundleB (recsOf (N : Int) q DR))), .int .i64 0, .int .i64 0]) (by simp [results, Try.results39, go_sem]) rfl ⟨by rw [E.out, HNB.out], HB5.out⟩
      · have E : Hid (extendRd l R = ⟨[], R.rep.chk, 0⟩) := by show _ = _; unfold extendRd; rw [if_pos HE.out, if_neg (by rw [← HN.out]; exact h16), if_neg hc]
        have hcb : (R.rep.chk != 0) = true := bne_iff_ne.mpr hc
        clear hc
        go_wp2_with fail
        refine bodyPost_ret (v := .tuple #[.string (str []), .int .i64 R.rep.chk, .int .i64 0]) (by simp [results, Try.results39, go_sem]; rfl) rfl ⟨by rw [E.out], HX2.out.2⟩
  · have E : Hid (extendRd l R = ⟨[], (replayRd l).err, (replayRd l).place⟩) := by show _ = _; unfold extendRd; rw [if_neg he]
    have hcb : ((replayRd l).err != 0) = true := bne_iff_ne.mpr he
    clear he
    go_wp2_with fail
    refine bodyPost_ret (v := .tuple #[.string (str []), .int .i64 (replayRd l).err, .int .i64 (replayRd l).place]) (by simp [results, Try.results39, go_sem]; rfl) rfl ⟨by rw [E.out], HX1.out.2⟩

set_option maxRecDepth 100000 in
set_option maxHeartbeats 4000000 in
theorem pextend_any (l : List (List UInt8)) (R : Tri) (ad0 : Option Addr) (N cap0 : Nat) (b1 b2 b3 : Option Addr) (l1 l2 l3 : Nat) (w : World) (hL : Lies w ad0 N 1 (fun i => [.string (str (l.getD i []))])) (hN : N = l.length) (hl : ∀ v, v ∈ l → v.length ≤ 1048576) (hb : N ≤ 1048576) (hR : Has w R.rep b1 b2 b3) :
    Calls Try.prog 23 #[.slice ad0 N cap0, repV R.rep b1 b2 b3 l1 l2 l3] w fun e w' => e = .returned (XtV (extendRd l R)) ∧ Below w.heap.size w w' := by
  obtain ⟨hX, hW, hB⟩ := one_box w 28 (repC b1 R.rep.n1 l1 b2 R.rep.n2 l2 b3 R.rep.n3 l3).toArray
  have HB : Hid (Below w.heap.size w (w.alloc (.cells (repC b1 R.rep.n1 l1 b2 R.rep.n2 l2 b3 R.rep.n3 l3).toArray 28))) := hB
  have x0 := hX.cell 0; have x1 := hX.cell 1; have x2 := hX.cell 2
  dsimp only [List.getElem?_cons_zero, List.getElem?_cons_succ] at x0 x1 x2
  have HLI : Hid (Lies w ad0 N 1 (fun i => [.string (str (l.getD i []))])) := hL
  have HN : Hid (N = l.length) := hN
  have HL : Hid (∀ v, v ∈ l → v.length ≤ 1048576) := hl
  have HR : Hid (Has w R.rep b1 b2 b3) := hR
  clear hX hW hB hL hN hl hR
  go_enter Try.func23, Try.ntmps23
  go_wp2_with fail
  refine (cextend_any l R ad0 N cap0 b1 b2 b3 l1 l2 l3 _ (HLI.out.below HB.out) HN.out HL.out hb (HR.out.below HB.out)).mono ?_
  rintro e w1 ⟨rfl, hb1⟩
  have HB1 : Hid (Below w.heap.size w w1) := HB.out.trans (hb1.mono HB.out.size)
  clear hb1 x0 x1 x2
  generalize hx : extendRd l R = x
  have HXX : Hid (extendRd l R = x) := hx
  clear hx
  go_wp2_with fail
  refine bodyPost_ret (v := XtV x) (by simp [results, Try.results23, go_sem]) rfl ⟨by rw [HXX.out], HB1.out⟩
end Go.Proofs.Ytdjpkgaicmklmab

/- Two replicas that part in their last edit's last byte, and a link upon the one: without the program. -/
namespace Go.Proofs.Ytdjpkgaicmklmab
open Go.RowKit

theorem tri_of (T : Tri) : (⟨(List.range T.rep.n1).map T.rep.c, (List.range T.rep.n2).map T.rep.d, (List.range T.rep.n3).map T.rep.e⟩ : Tri) = T := by
  have a := range_getD T.K ck0
  have b := range_getD T.C cd0
  have c := range_getD T.E ed0
  show (⟨(List.range T.K.length).map fun i => T.K.getD i ck0, (List.range T.C.length).map fun i => T.C.getD i cd0, (List.range T.E.length).map fun i => T.E.getD i ed0⟩ : Tri) = T
  rw [a, b, c]
structure Strange (T P Q : Tri) (A B C : List UInt8) : Prop where
  cT : T.rep.chk = 0
  cP : P.rep.chk = 0
  cQ : Q.rep.chk = 0
  eA : A = bundleB (recsOf 0 0 P.rep)
  eB : B = bundleB (recsOf 0 0 Q.rep)
  small : A.length ≤ 6000
  len : B.length = A.length
  ne : A ≠ B
  sum : crc pSum A ≠ crc pSum B
  ext : extendRd [A] T = ⟨C, 0, 0⟩
  rep : replayRd [A, C] = ⟨0, 0, 0, 0, T.K, T.C, T.E⟩
  two : replayRd [B, C] = ansErr 17 1
  one : replayRd [C, B] = ansErr 17 0
theorem edX_ok (x : UInt8) : EdOk [edX x] := by
  intro e he
  simp at he; subst he
  exact ⟨⟨by show (1 : Int) ≤ 1; omega, by show (1 : Int) ≤ 4611686018427387904; omega⟩, by show (⟨#[x]⟩ : ByteArray).size ≤ 60; simp [ByteArray.size]⟩
theorem EdOk.app {a b : List Ed} (ha : EdOk a) (hb : EdOk b) : EdOk (a ++ b) := fun x hx => by
  rcases List.mem_append.1 hx with h | h
  · exact ha x h
  · exact hb x h
theorem strange_all (S : Seen) (hp : ∀ k, 0 ≤ limS S k) (i : Nat) (hi : i ≤ 40) (E : List Ed) (hE : E.length ≤ 8) (hok : EdOk E) :
    Strange (triS S i E) (triS S i (E ++ [edX 97])) (triS S i (E ++ [edX 98])) (bundleB (recsOf 0 0 (triS S i (E ++ [edX 97])).rep)) (bundleB (recsOf 0 0 (triS S i (E ++ [edX 98])).rep)) (nextB 1 (bundleB (recsOf 0 0 (triS S i (E ++ [edX 97])).rep)) (triS S i (E ++ [edX 97])) (triS S i E)) := by
  have cT := triS_chk S i hi E (by omega) hok
  have cP := triS_chk S i hi (E ++ [edX 97]) (by simp; omega) (hok.app (edX_ok 97))
  have cQ := triS_chk S i hi (E ++ [edX 98]) (by simp; omega) (hok.app (edX_ok 98))
  obtain ⟨s1, s2, s3⟩ := strange_parts (triS S i E).K (triS S i E).C E
  have hless : Less S S := ⟨rfl, fun k _ => Int.le_refl _, hp, hp⟩
  have hf : followB (triS S i (E ++ [edX 97])) (triS S i E) = true := less_follows hless i _ _
  obtain ⟨l1, c1⟩ := links_one cP
  rw [tri_of] at c1
  have ho : (chainSt [bundleB (recsOf 0 0 (triS S i (E ++ [edX 97])).rep)] (1 - 1)).rep.chk = 0 := by rw [c1]; exact cP
  have hx := extend_links l1 (List.Perm.refl _) (by simp) ho cT (by rw [show [bundleB (recsOf 0 0 (triS S i (E ++ [edX 97])).rep)].length - 1 = 0 from rfl, c1]; exact hf)
  obtain ⟨l2, c2⟩ := links_next l1 (by simp) ho cT (by rw [show [bundleB (recsOf 0 0 (triS S i (E ++ [edX 97])).rep)].length - 1 = 0 from rfl, c1]; exact hf)
  rw [show [bundleB (recsOf 0 0 (triS S i (E ++ [edX 97])).rep)].length - 1 = 0 from rfl, c1] at hx l2 c2
  have hr := replay_links l2 (List.Perm.refl _) (by rw [show ([bundleB (recsOf 0 0 (triS S i (E ++ [edX 97])).rep)] ++ [nextB [bundleB (recsOf 0 0 (triS S i (E ++ [edX 97])).rep)].length ([bundleB (recsOf 0 0 (triS S i (E ++ [edX 97])).rep)].getD 0 []) (triS S i (E ++ [edX 97])) (triS S i E)]).length - 1 = [bundleB (recsOf 0 0 (triS S i (E ++ [edX 97])).rep)].length from rfl, c2]; exact cT)
  rw [show ([bundleB (recsOf 0 0 (triS S i (E ++ [edX 97])).rep)] ++ [nextB [bundleB (recsOf 0 0 (triS S i (E ++ [edX 97])).rep)].length ([bundleB (recsOf 0 0 (triS S i (E ++ [edX 97])).rep)].getD 0 []) (triS S i (E ++ [edX 97])) (triS S i E)]).length - 1 = [bundleB (recsOf 0 0 (triS S i (E ++ [edX 97])).rep)].length from rfl, c2] at hr
  have hn := next_read (n := 1) (by omega) (by omega) (last := bundleB (recsOf 0 0 (triS S i (E ++ [edX 97])).rep)) (o := triS S i (E ++ [edX 97])) (r := triS S i E) cT
  obtain ⟨lB, -⟩ := links_one cQ
  have hB1 := lB.err 0 (by simp)
  have hB2 := lB.seq 0 (by simp)
  have hst := strange_replay (b := bundleB (recsOf 0 0 (triS S i (E ++ [edX 98])).rep)) (c := nextB 1 (bundleB (recsOf 0 0 (triS S i (E ++ [edX 97])).rep)) (triS S i (E ++ [edX 97])) (triS S i E)) hB1 hB2 (by rw [hn]) (by rw [hn]; rfl) (by rw [hn]; exact s2)
  exact ⟨cT, cP, cQ, rfl, rfl, bundle_small cP, s1.symm, fun e => s3 (by rw [show recsOf 0 0 (repOf (triS S i E).K (triS S i E).C (E ++ [edX 97])) = recsOf 0 0 (triS S i (E ++ [edX 97])).rep from rfl, e]; rfl), s3, hx, hr, hst.1, hst.2⟩
theorem next_small {n : Nat} (hn : n ≤ 16) {last : List UInt8} {o r : Tri} (hr : r.rep.chk = 0) : (nextB n last o r).length ≤ 7000 := by
  obtain ⟨m1, m2, m3⟩ := few_of hr
  have hb := sealR_bound last
  have hok := (diff_fit (o := o) hr).ok (s := (n : Int)) (b := sealR last) ⟨by omega, by omega⟩ hb.1 hb.2
  have h := bodyB_length _ hok
  have e : (recsOf (n : Int) (sealR last) (diffS o r).rep).length ≤ 65 := by
    rw [recsOf_length]
    have q1 : (diffS o r).rep.n1 ≤ r.K.length := List.length_filter_le _ _
    have q2 : (diffS o r).rep.n2 ≤ r.C.length := List.length_filter_le _ _
    have q3 : (diffS o r).rep.n3 = r.E.length := rfl
    omega
  unfold nextB bundleB
  rw [List.length_append]
  have : (fourI (crc pSeal (bodyB (recsOf (n : Int) (sealR last) (diffS o r).rep)))).length = 4 := fourI_len _
  omega
end Go.Proofs.Ytdjpkgaicmklmab

/- Merge of the program: walked. -/
namespace Go.Proofs.Ytdjpkgaicmklmab
open Go.RowKit

theorem merge_clash {A B : Tri} (hA : A.rep.chk = 0) (hB : B.rep.chk = 0) (h : clashB2 A.C B.C = true) : mergeRd A B = ansErr 6 0 := by
  unfold mergeRd; rw [if_pos hA, if_pos hB, if_pos h]
theorem merge_many {A B : Tri} (hA : A.rep.chk = 0) (hB : B.rep.chk = 0) (h : clashB2 A.C B.C = false) (hm : (repOf (mergeK A.K B.K) (mergeC A.C B.C) (bothE A.E B.E)).manyB = true) : mergeRd A B = ansErr 1 0 := by
  unfold mergeRd; rw [if_pos hA, if_pos hB, if_neg (by rw [h]; decide), if_pos]
  simp only [Rep.manyB, repOf, Bool.or_eq_true] at hm
  rcases hm with h | h | h
  · exact Or.inl (of_decide_eq_true h)
  · exact Or.inr (Or.inl (of_decide_eq_true h))
  · exact Or.inr (Or.inr (of_decide_eq_true h))
theorem merge_ok {A B : Tri} (hA : A.rep.chk = 0) (hB : B.rep.chk = 0) (h : clashB2 A.C B.C = false) (hm : (repOf (mergeK A.K B.K) (mergeC A.C B.C) (bothE A.E B.E)).manyB = false) : mergeRd A B = ⟨0, 0, 0, 0, mergeK A.K B.K, mergeC A.C B.C, bothE A.E B.E⟩ := by
  unfold mergeRd; rw [if_pos hA, if_pos hB, if_neg (by rw [h]; decide), if_neg]
  simp only [Rep.manyB, repOf, Bool.or_eq_false_iff] at hm
  have h1 := of_decide_eq_false hm.1
  have h2 := of_decide_eq_false hm.2.1
  have h3 := of_decide_eq_false hm.2.2
  omega
set_option maxRecDepth 100000 in
set_option maxHeartbeats 8000000 in
theorem pmerge_any (A B : Tri) (a1 a2 a3 b1 b2 b3 : Option Addr) (k1 k2 k3 l1 l2 l3 : Nat) (w : World) (hA : Has w A.rep a1 a2 a3) (hB : Has w B.rep b1 b2 b3) (hk1 : A.K.length ≤ k1) (hk2 : A.C.length ≤ k2) :
    Calls Try.prog 20 #[repV A.rep a1 a2 a3 k1 k2 k3, repV B.rep b1 b2 b3 l1 l2 l3] w fun e w' => MergeAns (mergeRd A B) w.heap.size e w' ∧ Below w.heap.size w w' := by
  have HA : Hid (Has w A.rep a1 a2 a3) := hA
  have HB : Hid (Has w B.rep b1 b2 b3) := hB
  have H0 : Hid (M3 w (repC a1 A.rep.n1 k1 a2 A.rep.n2 k2 a3 A.rep.n3 k3) (repC b1 B.rep.n1 l1 b2 B.rep.n2 l2 b3 B.rep.n3 l3) (repC none 0 0 none 0 0 none 0 0) (((w.alloc (.cells #[.slice a1 A.rep.n1 k1, .slice a2 A.rep.n2 k2, .slice a3 A.rep.n3 k3] 28)).alloc (.cells #[.slice b1 B.rep.n1 l1, .slice b2 B.rep.n2 l2, .slice b3 B.rep.n3 l3] 28)).alloc (.cells #[.slice none 0 0, .slice none 0 0, .slice none 0 0] 28))) := M3.start w _ _ _
  have x0 := H0.out.a.cell 0; have x1 := H0.out.a.cell 1; have x2 := H0.out.a.cell 2
  dsimp only [List.getElem?_cons_zero, List.getElem?_cons_succ] at x0 x1 x2
  clear hA hB
  go_enter Try.func20, Try.ntmps20
  go_wp2_with fail
  refine (check_any A.rep a1 a2 a3 k1 k2 k3 _ (HA.out.below H0.out.old)).mono ?_
  rintro e w1 ⟨rfl, hb1⟩
  have hM1 : Hid (M3 w (repC a1 A.rep.n1 k1 a2 A.rep.n2 k2 a3 A.rep.n3 k3) (repC b1 B.rep.n1 l1 b2 B.rep.n2 l2 b3 B.rep.n3 l3) (repC none 0 0 none 0 0 none 0 0) w1) := H0.out.step hb1
  clear hb1 H0 x0 x1 x2
  by_cases hc : A.rep.chk = 0
  · have HCA : Hid (A.rep.chk = 0) := hc
    rw [hc]
    clear hc
    have y0 := hM1.out.b.cell 0; have y1 := hM1.out.b.cell 1; have y2 := hM1.out.b.cell 2
    dsimp only [List.getElem?_cons_zero, List.getElem?_cons_succ] at y0 y1 y2
    go_wp2_with fail
    refine (check_any B.rep b1 b2 b3 l1 l2 l3 _ (HB.out.below hM1.out.old)).mono ?_
    rintro e w2 ⟨rfl, hb2⟩
    have hM2 : Hid (M3 w (repC a1 A.rep.n1 k1 a2 A.rep.n2 k2 a3 A.rep.n3 k3) (repC b1 B.rep.n1 l1 b2 B.rep.n2 l2 b3 B.rep.n3 l3) (repC none 0 0 none 0 0 none 0 0) w2) := hM1.out.step hb2
    clear hb2 hM1 y0 y1 y2
    by_cases hc : B.rep.chk = 0
    · have HCB : Hid (B.rep.chk = 0) := hc
      rw [hc]
      clear hc
      obtain ⟨f1, f2, f3⟩ := few_of HCA.out
      obtain ⟨g1, g2, g3⟩ := few_of HCB.out
      have x1 := hM2.out.a.cell 1; have y1 := hM2.out.b.cell 1
      dsimp only [List.getElem?_cons_zero, List.getElem?_cons_succ] at x1 y1
      go_wp2_with fail
      refine (pclash_any A.C B.C a2 b2 A.C.length B.C.length k2 l2 _ (HA.out.l2.below hM2.out.old) (HB.out.l2.below hM2.out.old) rfl rfl (by omega) (by omega)).mono ?_
      rintro e w3 ⟨rfl, hb3⟩
      have hM3 : Hid (M3 w (repC a1 A.rep.n1 k1 a2 A.rep.n2 k2 a3 A.rep.n3 k3) (repC b1 B.rep.n1 l1 b2 B.rep.n2 l2 b3 B.rep.n3 l3) (repC none 0 0 none 0 0 none 0 0) w3) := hM2.out.step hb3
      clear hb3 hM2 x1 y1
      cases hcl : clashB2 A.C B.C with
      | true =>
        have E : Hid (mergeRd A B = ansErr 6 0) := merge_clash HCA.out HCB.out hcl
        clear hcl
        have hr := hM3.out.r
        go_wp2_with (refine wpList_bstore (by rfl) _ _ _ (by rfl) (w.heap.size + 2) 28 (by rfl) _ _ (by rfl) hr 3 (by rfl) (by kernel_rfl) (by rfl) (by intro x hx; simp at hx; subst hx; rfl) ?_; intro w9 hr9 hu9)
        exact bodyPost_ret (v := .tuple #[.agg #[.slice none 0 0, .slice none 0 0, .slice none 0 0], .int .i64 6]) (results_box2 (by rfl) _ _ (w.heap.size + 2) 28 _ _ _ (by rfl) hr9 (by rfl) Try.underlying28 (by rfl) 3 (by rfl) (by kernel_rfl)) rfl ⟨⟨none, 0, 0, none, 0, 0, none, 0, 0, by rw [E.out]; rfl, by rw [E.out]; exact Lists.nil _ _⟩, (hM3.out.put hu9 hr9).old⟩
      | false =>
        have HCL : Hid (clashB2 A.C B.C = false) := hcl
        clear hcl
        have x0 := hM3.out.a.cell 0; have x1 := hM3.out.a.cell 1; have x2 := hM3.out.a.cell 2
        have y0 := hM3.out.b.cell 0; have y1 := hM3.out.b.cell 1; have y2 := hM3.out.b.cell 2
        dsimp only [List.getElem?_cons_zero, List.getElem?_cons_succ] at x0 x1 x2 y0 y1 y2
        go_wp2_with fail
        refine (merged_any A B a1 a2 a3 b1 b2 b3 k1 k2 k3 l1 l2 l3 _ (HA.out.below hM3.out.old) (HB.out.below hM3.out.old) hk1 hk2 HCA.out HCB.out).mono ?_
        rintro e w4 ⟨i1, m1, j1, i2, m2, j2, i3, m3, j3, rfl, hL, hb4⟩
        have hM4 : Hid (M3 w (repC a1 A.rep.n1 k1 a2 A.rep.n2 k2 a3 A.rep.n3 k3) (repC b1 B.rep.n1 l1 b2 B.rep.n2 l2 b3 B.rep.n3 l3) (repC none 0 0 none 0 0 none 0 0) w4) := hM3.out.step hb4
        have HL : Hid (Lists w4 (w.heap.size + 3) (mergeK A.K B.K) (mergeC A.C B.C) (bothE A.E B.E) i1 m1 j1 i2 m2 j2 i3 m3 j3) := hL.mono hM3.out.sz
        clear hb4 hM3 x0 x1 x2 y0 y1 y2 hL
        have hV : Bx (w4.alloc (.cells #[.slice none 0 0, .slice none 0 0, .slice none 0 0] 28)) w4.heap.size 28 (repC none 0 0 none 0 0 none 0 0) := Bx.new _ _ _
        have HAL : Hid (Below w4.heap.size w4 (w4.alloc (.cells #[.slice none 0 0, .slice none 0 0, .slice none 0 0] 28))) := (Below.refl _ _).alloc (Nat.le_refl _) _
        have b1' := layK_len Ck.site keepK B.K A.K
        have b2' := layK_len Cd.id keepC B.C A.C
        have b3' := both_len B.E A.E
        have HB1 : Hid ((mergeK A.K B.K).length ≤ 16 ∧ (mergeC A.C B.C).length ≤ 80 ∧ (bothE A.E B.E).length ≤ 32) := ⟨Nat.le_trans b1' (by omega), Nat.le_trans b2' (by omega), by omega⟩
        clear b1' b2' b3'
        go_wp2_with (refine wpList_bstore (by rfl) _ _ _ (by rfl) w4.heap.size 28 (by rfl) _ _ (by rfl) hV 3 (by rfl) (by kernel_rfl) (by rfl) (by intro x hx; simp at hx; rcases hx with rfl | rfl | rfl <;> rfl) ?_; intro w5 hV5 hu5; have hz5 := hM4.out.sz; have z0 := hV5.cell 0; have z1 := hV5.cell 1; have z2 := hV5.cell 2; dsimp only [List.getElem?_cons_zero, List.getElem?_cons_succ] at z0 z1 z2)
        have hb5 : Below w4.heap.size w4 w5 := hu5.below HAL.out (Nat.le_refl _)
        have HL5 : Hid (Lists w5 (w.heap.size + 3) (mergeK A.K B.K) (mergeC A.C B.C) (bothE A.E B.E) i1 m1 j1 i2 m2 j2 i3 m3 j3) := HL.out.keep hb5
        have hM5 : Hid (M3 w (repC a1 A.rep.n1 k1 a2 A.rep.n2 k2 a3 A.rep.n3 k3) (repC b1 B.rep.n1 l1 b2 B.rep.n2 l2 b3 B.rep.n3 l3) (repC none 0 0 none 0 0 none 0 0) w5) := hM4.out.step hb5
        clear hb5 hu5 HL hM4 HAL hV
        obtain ⟨hD, hDV⟩ := HL5.out.has (by have := HL5.out.e1; have := HB1.out; omega) (by have := HL5.out.e2; have := HB1.out; omega) (by have := HL5.out.e3; have := HB1.out; omega)
        rw [← hDV]
        refine (tooMany_any (repOf (mergeK A.K B.K) (mergeC A.C B.C) (bothE A.E B.E)) i1 i2 i3 j1 j2 j3 _ hD).mono ?_
        rintro e w6 ⟨rfl, hb6⟩
        rw [hDV]
        have hM6 : Hid (M3 w (repC a1 A.rep.n1 k1 a2 A.rep.n2 k2 a3 A.rep.n3 k3) (repC b1 B.rep.n1 l1 b2 B.rep.n2 l2 b3 B.rep.n3 l3) (repC none 0 0 none 0 0 none 0 0) w6) := hM5.out.step hb6
        have HL6 : Hid (Lists w6 (w.heap.size + 3) (mergeK A.K B.K) (mergeC A.C B.C) (bothE A.E B.E) i1 m1 j1 i2 m2 j2 i3 m3 j3) := HL5.out.keep hb6
        have hV6 := hV5.below hb6 hV5.lt
        clear z0 z1 z2 hb6 hV5 hM5 HL5 hD hDV
        have z0 := hV6.cell 0; have z1 := hV6.cell 1; have z2 := hV6.cell 2
        dsimp only [List.getElem?_cons_zero, List.getElem?_cons_succ] at z0 z1 z2
        have hr := hM6.out.r
        clear hV6
        cases hmn : (repOf (mergeK A.K B.K) (mergeC A.C B.C) (bothE A.E B.E)).manyB with
        | true =>
          have E : Hid (mergeRd A B = ansErr 1 0) := merge_many HCA.out HCB.out HCL.out hmn
          clear hmn
          go_wp2_with (refine wpList_bstore (by rfl) _ _ _ (by rfl) (w.heap.size + 2) 28 (by rfl) _ _ (by rfl) hr 3 (by rfl) (by kernel_rfl) (by rfl) (by intro x hx; simp at hx; subst hx; rfl) ?_; intro w9 hr9 hu9)
          exact bodyPost_ret (v := .tuple #[.agg #[.slice none 0 0, .slice none 0 0, .slice none 0 0], .int .i64 1]) (results_box2 (by rfl) _ _ (w.heap.size + 2) 28 _ _ _ (by rfl) hr9 (by rfl) Try.underlying28 (by rfl) 3 (by rfl) (by kernel_rfl)) rfl ⟨⟨none, 0, 0, none, 0, 0, none, 0, 0, by rw [E.out]; rfl, by rw [E.out]; exact Lists.nil _ _⟩, (hM6.out.put hu9 hr9).old⟩
        | false =>
          have E : Hid (mergeRd A B = ⟨0, 0, 0, 0, mergeK A.K B.K, mergeC A.C B.C, bothE A.E B.E⟩) := merge_ok HCA.out HCB.out HCL.out hmn
          clear hmn
          go_wp2_with (refine wpList_bstore (by rfl) _ _ _ (by rfl) (w.heap.size + 2) 28 (by rfl) _ _ (by rfl) hr 3 (by rfl) (by kernel_rfl) (by rfl) (by intro x hx; simp at hx; rcases hx with rfl | rfl | rfl <;> rfl) ?_; intro w9 hr9 hu9)
          exact bodyPost_ret (v := .tuple #[.agg #[.slice i1 m1 j1, .slice i2 m2 j2, .slice i3 m3 j3], .int .i64 0]) (results_box2 (by rfl) _ _ (w.heap.size + 2) 28 _ _ _ (by rfl) hr9 (by rfl) Try.underlying28 (by rfl) 3 (by rfl) (by kernel_rfl)) rfl ⟨⟨i1, m1, j1, i2, m2, j2, i3, m3, j3, by rw [E.out], by rw [E.out]; exact ((HL6.out.upd hu9 (by omega)).mono (by omega))⟩, (hM6.out.put hu9 hr9).old⟩
    · have E : Hid (mergeRd A B = ansErr B.rep.chk 0) := by show _ = _; unfold mergeRd; rw [if_pos HCA.out, if_neg hc]
      have hcb : (B.rep.chk != 0) = true := by simp [hc]
      clear hc
      have hr := hM2.out.r
      go_wp2_with (refine wpList_bstore (by rfl) _ _ _ (by rfl) (w.heap.size + 2) 28 (by rfl) _ _ (by rfl) hr 3 (by rfl) (by kernel_rfl) (by rfl) (by intro x hx; simp at hx; subst hx; rfl) ?_; intro w9 hr9 hu9)
      exact bodyPost_ret (v := .tuple #[.agg #[.slice none 0 0, .slice none 0 0, .slice none 0 0], .int .i64 B.rep.chk]) (results_box2 (by rfl) _ _ (w.heap.size + 2) 28 _ _ _ (by rfl) hr9 (by rfl) Try.underlying28 (by rfl) 3 (by rfl) (by kernel_rfl)) rfl ⟨⟨none, 0, 0, none, 0, 0, none, 0, 0, by rw [E.out]; rfl, by rw [E.out]; exact Lists.nil _ _⟩, (hM2.out.put hu9 hr9).old⟩
  · have E : Hid (mergeRd A B = ansErr A.rep.chk 0) := by show _ = _; unfold mergeRd; rw [if_neg hc]
    have hcb : (A.rep.chk != 0) = true := by simp [hc]
    clear hc
    have hr := hM1.out.r
    go_wp2_with (refine wpList_bstore (by rfl) _ _ _ (by rfl) (w.heap.size + 2) 28 (by rfl) _ _ (by rfl) hr 3 (by rfl) (by kernel_rfl) (by rfl) (by intro x hx; simp at hx; subst hx; rfl) ?_; intro w9 hr9 hu9)
    exact bodyPost_ret (v := .tuple #[.agg #[.slice none 0 0, .slice none 0 0, .slice none 0 0], .int .i64 A.rep.chk]) (results_box2 (by rfl) _ _ (w.heap.size + 2) 28 _ _ _ (by rfl) hr9 (by rfl) Try.underlying28 (by rfl) 3 (by rfl) (by kernel_rfl)) rfl ⟨⟨none, 0, 0, none, 0, 0, none, 0, 0, by rw [E.out]; rfl, by rw [E.out]; exact Lists.nil _ _⟩, (hM1.out.put hu9 hr9).old⟩
end Go.Proofs.Ytdjpkgaicmklmab

/- parcelkeep's both and most: walked. -/
namespace Go.Proofs.Ytdjpkgaicmklmab
open Go.RowKit

set_option maxRecDepth 100000 in
set_option maxHeartbeats 4000000 in
theorem kboth_any (EA EB : List Ed) (a b : Option Addr) (n m ca cb : Nat) (w : World) (hA : Lies w a n 2 (fun i => (EA.getD i ed0).cells)) (hB : Lies w b m 2 (fun i => (EB.getD i ed0).cells)) (hn : n = EA.length) (hm : m = EB.length) (hn2 : n ≤ 1000) (hm2 : m ≤ 1000) :
    Calls Try.prog 22 #[.slice a n ca, .slice b m cb] w fun e w' => ∃ ad cap N, e = .returned (.slice ad N cap) ∧ N = (bothE EA EB).length ∧ Vec w' w.heap.size 61 2 ad N cap (ecells (bothE EA EB)) ∧ Below w.heap.size w w' := by
  have HN : Hid (n = EA.length) := hn
  have HM : Hid (m = EB.length) := hm
  have HA : Hid (Lies w a n 2 (fun i => (EA.getD i ed0).cells)) := hA
  have HB : Hid (Lies w b m 2 (fun i => (EB.getD i ed0).cells)) := hB
  clear hn hm hA hB
  go_enter Try.func22, Try.ntmps22
  go_wp2_with (at_builtin; refine wpList_pushAll (by rfl) _ _ 26 (by rfl) w.heap.size 61 2 24 (.agg #[.int .i64 0, .string ⟨#[]⟩]) Try.underlying26 (by kernel_rfl) rfl (by decide) none 0 0 [] (by rfl) (Vec.nil _ _ _ _) a n ca (fun i => (EA.getD i ed0).cells) (by rfl) HA.out (fun _ _ => rfl) (fun j _ => ones_ed _) ?_ ?_ ?_ n ?_ ?_; (omega); (omega); (exact Nat.le_refl _); (omega); intro ad1 cap1 w1 hv1 hb1 hs1)
  rw [List.nil_append, HN.out, range_ecells, ← HN.out] at hv1
  have HV1 : Hid (Vec w1 w.heap.size 61 2 ad1 n cap1 (ecells EA)) := hv1
  have HB1 : Hid (Below w.heap.size w w1) := hb1
  clear hv1 hb1 hs1
  go_loopw [5, 6, 7, 8] (fun v u _ _ wr => ∃ (i : Nat) (ad : Option Addr) (cap N : Nat), i ≤ m ∧ u = .int .i64 i ∧ v = .slice ad N cap ∧ N = (bothE EA (EB.take i)).length ∧ N ≤ 2000 ∧ Vec wr w.heap.size 61 2 ad N cap (ecells (bothE EA (EB.take i))) ∧ Below w.heap.size w wr) (fun _ u _ _ _ => m - (intOf u).toNat)
  case atStart => exact ⟨0, ad1, cap1, n, by omega, rfl, rfl, by simpa [bothE] using HN.out, by omega, by simpa [bothE] using HV1.out, HB1.out⟩
  case round =>
    obtain ⟨i, ad, cap, N, hi, rfl, rfl, hN, hN2, hv, hbw⟩ := hrel
    have HNN : Hid (N = (bothE EA (EB.take i)).length) := hN
    have HNB : Hid (N ≤ n + m) := by show _ ≤ _; have := both_len (EB.take i) EA; rw [hN, HN.out, HM.out]; simp at this; omega
    clear hN
    by_cases hlt : i < m
    · have hil : i < EB.length := by rw [← HM.out]; exact hlt
      have HT : Hid (bothE EA (EB.take (i + 1)) = if EB.getD i ed0 ∈ bothE EA (EB.take i) then bothE EA (EB.take i) else bothE EA (EB.take i) ++ [EB.getD i ed0]) := by
        show _ = _; rw [take_edit EB i hil, both_snoc]
      obtain ⟨bb, ob, hblb, hixb, e0, e1⟩ := Lies.edit (c := fun i => EB.getD i ed0) (HB.out.below hbw) cb hlt
      have HLV : Hid (Lies wr ad N 2 (fun i => ((bothE EA (EB.take i)).getD i ed0).cells) ∨ True) := Or.inr trivial
      generalize hL : bothE EA (EB.take i) = L at *
      have HL : Hid (Lies wr ad N 2 (fun k => (L.getD k ed0).cells)) := evec_lies hv HNN.out.symm
      generalize EB.getD i ed0 = ee at *
      clear hL HLV hil
      have HV5 : Hid (Vec wr w.heap.size 61 2 ad N cap (ecells L)) := hv
      have HBW : Hid (Below w.heap.size w wr) := hbw
      clear hv hbw
      generalize hwr : wr = w5 at *
      clear hwr
      go_wp2_with fail
      go_loopw [7, 8] (fun t u w2 => ∃ (k : Nat), k ≤ N ∧ u = .int .i64 k ∧ t = .bool (decide (ee ∈ L.take k)) ∧ Below w5.heap.size w5 w2) (fun _ u _ => N - (intOf u).toNat)
      case atStart => exact ⟨0, by omega, rfl, by simp, Below.refl _ _⟩
      case round =>
        obtain ⟨k, hk, rfl, rfl, hb2⟩ := hrel
        have f0 : wr.cell? ⟨bb, ob, none⟩ = some (.int .i64 ee.id) := (hb2.cell (p := ⟨bb, ob, none⟩) hblb).trans e0
        have f1 : wr.cell? ⟨bb, ob + 1, none⟩ = some (.string ee.text) := (hb2.cell (p := ⟨bb, ob + 1, none⟩) hblb).trans e1
        by_cases hlt2 : k < N
        · have hkl : k < L.length := by rw [← HNN.out]; exact hlt2
          have HTK : Hid (L.take (k + 1) = L.take k ++ [L.getD k ed0]) := take_edit L k hkl
          obtain ⟨bo, oo, hblo, hixo, g0, g1⟩ := Lies.edit (c := fun i => L.getD i ed0) (HL.out.below hb2) cap hlt2
          clear hkl
          generalize L.getD k ed0 = le at *
          cases hth : decide (ee ∈ L.take k) with
          | true =>
            have HD : Hid (decide (ee ∈ L.take (k + 1)) = true) := by
              have h : ee ∈ L.take k := of_decide_eq_true hth
              show _ = _; rw [HTK.out]; simp [h]
            clear hth
            go_wp2_with fail
            go_quiet (fail)
            go_wp2_with fail
            go_roundw
            case rel => exact ⟨k + 1, by omega, by go_num, by rw [HD.out], below_drewN hb2 _⟩
            case measure => simp [intOf]; omega
          | false =>
            have hno : ¬ ee ∈ L.take k := of_decide_eq_false hth
            by_cases heq : le = ee
            · have HD : Hid (decide (ee ∈ L.take (k + 1)) = true) := by show _ = _; rw [HTK.out, heq]; simp
              rw [heq] at g0 g1
              clear hth hno heq
              go_wp2_with fail
              go_quiet (fail)
              go_wp2_with fail
              go_roundw
              case rel => exact ⟨k + 1, by omega, by go_num, by rw [HD.out], below_drewN hb2 _⟩
              case measure => simp [intOf]; omega
            · have HD : Hid (decide (ee ∈ L.take (k + 1)) = false) := by
                show _ = _; rw [HTK.out, decide_eq_false_iff_not]
                simp only [List.mem_append, List.mem_singleton]
                rintro (h | h)
                · exact hno h
                · exact heq h.symm
              have hne := ed_ne heq
              clear hth hno heq
              rcases hne with hne | ⟨r1, hne⟩
              · have hq : (le.id == ee.id) = false := by rw [beq_eq_false_iff_ne]; exact hne
                clear hne
                go_wp2_with fail
                go_quiet (fail)
                go_wp2_with fail
                go_roundw
                case rel => exact ⟨k + 1, by omega, by go_num, by rw [HD.out], below_drewN hb2 _⟩
                case measure => simp [intOf]; omega
              · rw [r1] at g0
                have hnb := ba_beq hne
                have hnl := bl_beq hne
                clear hne r1
                go_wp2_with fail
                go_quiet (fail)
                go_wp2_with fail
                go_roundw
                case rel => exact ⟨k + 1, by omega, by go_num, by rw [HD.out], below_drewN hb2 _⟩
                case measure => simp [intOf]; omega
        · obtain rfl : N = k := by omega
          have HTL : Hid (L.take N = L) := by show _ = _; rw [HNN.out]; exact List.take_length
          have hv2 := HV5.out.keep hb2
          have hbw2 := HBW.out.trans (hb2.mono HBW.out.size)
          have hz2 := hbw2.size
          have HB2 : Hid (Below w5.heap.size w5 wr) := hb2
          clear hb2
          cases hth : decide (ee ∈ L.take N) with
          | true =>
            have HE : Hid (bothE EA (EB.take (i + 1)) = L) := by
              have h : ee ∈ L.take N := of_decide_eq_true hth
              rw [HTL.out] at h
              show _ = _; rw [HT.out, if_pos h]
            clear hth
            go_wp2_with fail
            go_roundw
            case rel => exact ⟨i + 1, ad, cap, N, by omega, by go_num, rfl, by rw [HE.out]; exact HNN.out, by omega, by rw [HE.out]; exact hv2, hbw2⟩
            case measure => simp [intOf]; omega
          | false =>
            have HE : Hid (bothE EA (EB.take (i + 1)) = L ++ [ee]) := by
              have h : ¬ ee ∈ L.take N := of_decide_eq_false hth
              rw [HTL.out] at h
              show _ = _; rw [HT.out, if_neg h]
            have HN3 : Hid (N + 1 ≤ 2000) := by
              have h1 := both_len (EB.take (i + 1)) EA
              rw [HE.out] at h1
              simp at h1
              have := HNN.out; have := HN.out; have := HM.out
              show _ ≤ _; omega
            have hN4 := HN3.out
            clear hth
            go_wp2_with (at_builtin; refine wpList_push (by rfl) _ _ 26 (by rfl) w.heap.size 61 2 24 (.agg #[.int .i64 0, .string ⟨#[]⟩]) Try.underlying26 (by kernel_rfl) rfl (by decide) ad N cap _ (by rfl) (hv2.keep ((Below.refl _ _).alloc (Nat.le_refl _) _)) _ _ ee.cells (by rfl) rfl ?_ ?_ ?_ ?_ ?_ ?_; exact new_cells _ _ _; exact ones3 _; (omega); (omega); (simp; omega); intro ad' cap' w' hv' hb' hs')
            go_roundw
            case rel => exact ⟨i + 1, ad', cap', N + 1, by omega, by go_num, rfl, by rw [HE.out, List.length_append, ← HNN.out]; rfl, by omega, by rw [HE.out, ecells_app]; simpa [ecells] using hv', (hbw2.alloc hz2 _).trans hb'⟩
            case measure => simp [intOf]; omega
    · obtain rfl : m = i := by omega
      have HE : Hid (bothE EA (EB.take m) = bothE EA EB) := by show _ = _; rw [HM.out, List.take_length]
      go_wp2_with fail
      go_ret
      exact ⟨ad, cap, N, rfl, by rw [← HE.out]; exact HNN.out, by rw [← HE.out]; exact hv, hbw⟩

/-- By site the greater of two numbers. -/
def mostF (nm nn : Nat) (fm fn : Nat → Int) (k : Nat) : Int := max (seenI nm fm k) (seenI nn fn k)
def mostTo (nm nn : Nat) (fm fn : Nat → Int) (k : Nat) : List Int := (List.range 8).map fun j => if j < k then mostF nm nn fm fn j else 0
theorem mostTo_len (nm nn : Nat) (fm fn : Nat → Int) (k : Nat) : (mostTo nm nn fm fn k).length = 8 := by simp [mostTo]
theorem mostTo_set (nm nn : Nat) (fm fn : Nat → Int) (k : Nat) : (mostTo nm nn fm fn k).set k (mostF nm nn fm fn k) = mostTo nm nn fm fn (k + 1) := by
  apply List.ext_getElem?
  intro i
  by_cases hi : i < 8
  · by_cases e : k = i
    · subst e; simp [mostTo, hi]
    · rw [List.getElem?_set_ne e]
      have : (i < k + 1) ↔ (i < k) := by omega
      simp [mostTo, hi, this]
  · simp [mostTo, hi]
theorem mostTo_zero (nm nn : Nat) (fm fn : Nat → Int) : irows (mostTo nm nn fm fn 0) = List.replicate 8 [.int .i64 0] := by simp [mostTo, irows, List.range, List.range.loop]
theorem mostTo_at (nm nn : Nat) (fm fn : Nat → Int) (k : Nat) (hk : k < 8) : (mostTo nm nn fm fn 8).getD k 0 = mostF nm nn fm fn k := by simp [mostTo, List.getD, hk]

set_option maxRecDepth 100000 in
set_option maxHeartbeats 4000000 in
theorem most_any (nm nn : Nat) (fm fn : Nat → Int) (am an : Option Addr) (cm cn : Nat) (w : World) (hM : Lies w am nm 1 (iCells fm)) (hN : Lies w an nn 1 (iCells fn)) (hfm : ∀ i, i < nm → I64 (fm i)) (hfn : ∀ i, i < nn → I64 (fn i)) :
    Calls Try.prog 21 #[.slice am nm cm, .slice an nn cn] w fun e w' => ∃ g, e = .returned (.slice (some ⟨g, 0, none⟩) 8 8) ∧ Own w' g 3 1 (irows (mostTo nm nn fm fn 8)) ∧ Below w.heap.size w w' := by
  have HM : Hid (Lies w am nm 1 (iCells fm)) := hM
  have HN : Hid (Lies w an nn 1 (iCells fn)) := hN
  have HFM : Hid (∀ i, i < nm → I64 (fm i)) := hfm
  have HFN : Hid (∀ i, i < nn → I64 (fn i)) := hfn
  clear hM hN hfm hfn
  go_enter Try.func21, Try.ntmps21
  go_wp2_with (first
    | (at_make; refine wpList_make_ones (by rfl) _ _ 23 (by rfl) 3 (.int .i64 0) 8 Try.underlying23 (by kernel_rfl) rfl 8 8 rfl (by rfl) (by rfl) ?_ ?_ ?_; (omega); (omega); intro g ad w2 ead hg hgl oc hbc))
  have HAD : Hid (ad = some ⟨g, 0, none⟩) := ead
  rw [← mostTo_zero nm nn fm fn] at oc
  have HOC : Hid (Own w2 g 3 1 (irows (mostTo nm nn fm fn 0))) := oc
  have HBC : Hid (Below w.heap.size w w2) := hbc
  have HG : Hid (w.heap.size ≤ g) := hg
  clear ead oc hbc hg hgl
  go_loopw [6, 7, 8] (fun u _ _ wr => ∃ k : Nat, k ≤ 8 ∧ u = .int .i64 k ∧ Own wr g 3 1 (irows (mostTo nm nn fm fn k)) ∧ Below w.heap.size w wr) (fun u _ _ _ => 8 - (intOf u).toNat)
  case atStart => exact ⟨0, by omega, rfl, HOC.out, HBC.out⟩
  case round =>
    clear HOC HBC
    obtain ⟨k, hk, rfl, hO, hb⟩ := hrel
    by_cases hlt : k < 8
    · have HO : Hid (Own wr g 3 1 (irows (mostTo nm nn fm fn k))) := hO
      have HB : Hid (Below w.heap.size w wr) := hb
      have HMF : Hid (mostF nm nn fm fn k = max (seenI nm fm k) (seenI nn fn k)) := rfl
      have hfr := (irows_at hO k (by rw [mostTo_len]; exact hlt)).2
      have hcl := (irows_at hO k (by rw [mostTo_len]; exact hlt)).1
      have hix : ∀ w', (Instr.indexAt 23 (.slice ad 8 8) (.int .i64 (k : Int))).run Try.prog w' = .ok (.pointer (some ⟨g, k, none⟩)) w' := fun w' => by
        have := Own.idx HAD (P := Try.prog) (t := 23) (m := 1) 8 8 (by kernel_rfl) (by kernel_rfl) hlt (k : Int) rfl w'
        rw [Nat.mul_one] at this; exact this
      clear hO hb
      go_wp2_with fail
      refine (seen_any am nm cm fm k _ (HM.out.below HB.out) HFM.out).mono ?_
      rintro e w3 ⟨rfl, rfl⟩
      go_wp2_with fail
      refine (seen_any an nn cn fn k _ (HN.out.below HB.out) HFN.out).mono ?_
      rintro e w4 ⟨rfl, rfl⟩
      generalize seenI nm fm k = x at *
      generalize seenI nn fn k = y at *
      generalize (mostTo nm nn fm fn k).getD k 0 = old at *
      by_cases hxy : x < y
      · have HE : Hid (mostF nm nn fm fn k = y) := by show _ = _; rw [HMF.out]; omega
        go_wp2_with fail
        go_roundw
        case rel => exact ⟨k + 1, by omega, by go_num, by rw [← mostTo_set nm nn fm fn k, HE.out]; exact irows_set HO.out k y, ((Upd.refl g _).setCell _ rfl _).below HB.out HG.out⟩
        case measure => simp [intOf]; omega
      · have HE : Hid (mostF nm nn fm fn k = x) := by show _ = _; rw [HMF.out]; omega
        go_wp2_with fail
        go_roundw
        case rel => exact ⟨k + 1, by omega, by go_num, by rw [← mostTo_set nm nn fm fn k, HE.out]; exact irows_set HO.out k x, ((Upd.refl g _).setCell _ rfl _).below HB.out HG.out⟩
        case measure => simp [intOf]; omega
    · obtain rfl : k = 8 := by omega
      go_wp2_with fail
      go_ret
      exact ⟨g, by rw [HAD.out]; rfl, hO, hb⟩
end Go.Proofs.Ytdjpkgaicmklmab

