/- Texts of the proof, one behind the other; what each holds is said at its head. -/
import Derived.Test.YtdjpkgaicmklmaaGreatPartExtendsupto3
import Derived.Test.YtdjpkgaicmklmaaGreatPartExtendsupto2
import Derived.Test.YtdjpkgaicmklmaaGreatPartExtendsupto0
import Derived.Deep.RegionHeld3
import Derived.BigQuiet
import Derived.Deep.QuietTactic
/- The program's FrameAt, walked. -/
namespace Go.Proofs.YtdjpkgaicmklmaaGreat
open Go.RowKit

set_option maxRecDepth 100000 in
set_option maxHeartbeats 4000000 in
theorem frameAt_any (b : List UInt8) (i : Nat) (w : World) (hb : b.length ≤ 1099511627776) (hi : i ≤ b.length) :
    Calls Tryz.prog 96 #[.string (str b), .int .i64 i] w fun e w' => e = .returned (standV i (standRd (b.drop i))) ∧ Below w.heap.size w w' := by
  have hz := str_size b
  have HZ : Hid ((str b).size = b.length) := hz
  obtain ⟨hR, hW, hB⟩ := one_box w 64 fd0.cells.toArray
  have hib : i ≤ (str b).size := by omega
  have hbb : (str b).size ≤ 1099511627776 := by omega
  by_cases h8 : (str b).size ≤ i + 2
  · have HN : Hid (standRd (b.drop i) = none) := standRd_short _ (by simp; omega)
    clear hz
    go_enter Tryz.func96, Tryz.ntmps96
    go_wp2_with fail
    exact bodyPost_ret (v := .tuple #[fdV fd0, .int .i64 0]) (results_box2 (by rfl) _ _ w.heap.size 64 _ _ _ (by rfl) hR (by rfl) Tryz.underlying64 (by rfl) 9 (by rfl) (by kernel_rfl)) rfl ⟨by rw [HN.out]; rfl, hB⟩
  · obtain ⟨x, y, k, t, hd, ht⟩ : ∃ x y k t, b.drop i = x :: y :: k :: t ∧ t.length + 3 + i = b.length := by
      have hl : (b.drop i).length = b.length - i := by simp
      match hh : b.drop i with
      | [] | [_] | [_, _] => rw [hh] at hl; simp at hl; omega
      | x :: y :: k :: t => exact ⟨x, y, k, t, rfl, by rw [hh] at hl; simp at hl; omega⟩
    have l2 : i + 2 < (str b).size := by omega
    have ek : ((str b)[i + 2]'l2) = k := by
      have hv : (b.drop i)[2]? = some k := by rw [hd]; rfl
      rw [List.getElem?_drop] at hv
      exact (List.getElem?_eq_some_iff.1 hv).2
    have x0 : (str b).extract i (i + 2) = str [x, y] := by rw [str_extract, hd, show i + 2 - i = 2 by omega]; rfl
    rw [hd]
    by_cases hxy : x = 245 ∧ y = 95
    · obtain ⟨hx, hy⟩ := hxy
      subst hx hy
      have hmk : ((str [245, 95]).toList == [245, 95]) = true := by rw [str_toList]; rfl
      have hkl := k.toNat_lt
      have hk' : wrap64 (((str b)[i + 2]'l2).toNat : Int) = (k.toNat : Int) := by rw [ek]; unfold wrap64; omega
      clear ek
      by_cases hn : (str b).size < i + k.toNat + 7
      · have HN : Hid (standRd (245 :: 95 :: k :: t) = none) := by show _ = _; simp only [standRd]; simp [show t.length < k.toNat + 4 by omega]
        clear hz hd
        go_enter Tryz.func96, Tryz.ntmps96
        go_wp2_with fail
        exact bodyPost_ret (v := .tuple #[fdV fd0, .int .i64 0]) (results_box2 (by rfl) _ _ w.heap.size 64 _ _ _ (by rfl) hR (by rfl) Tryz.underlying64 (by rfl) 9 (by rfl) (by kernel_rfl)) rfl ⟨by rw [HN.out]; rfl, hB⟩
      · have hdt (j : Nat) : b.drop (i + (j + 3)) = t.drop j := by rw [← List.drop_drop, hd]; rfl
        have x1 : (str b).extract (i + 2 + 1) (i + 2 + 1 + k.toNat) = str (t.take k.toNat) := by rw [str_extract, show i + 2 + 1 = i + (0 + 3) by omega, hdt 0]; simp
        have x2 : (str b).extract (i + 2) (i + 2 + 1 + k.toNat) = str (k :: t.take k.toNat) := by
          rw [str_extract, ← List.drop_drop, hd, show i + 2 + 1 + k.toNat - (i + 2) = k.toNat + 1 by omega]; rfl
        have x3 : (str b).extract (i + 2 + 1 + k.toNat) (i + 2 + 1 + k.toNat + 4) = str ((t.drop k.toNat).take 4) := by
          rw [str_extract, show i + 2 + 1 + k.toNat = i + (k.toNat + 3) by omega, hdt, show i + (k.toNat + 3) + 4 - (i + (k.toNat + 3)) = 4 by omega]
        have hlt : (k :: t.take k.toNat).length ≤ 9223372036854775807 := by simp; omega
        have hlr : (t.take k.toNat).length ≤ 9223372036854775806 := by simp; omega
        have hl4 : ((t.drop k.toNat).take 4).length = 4 := by simp; omega
        have hfl : ¬ t.length < k.toNat + 4 := by omega
        have HL : Hid (t.length + 3 + i = (str b).size) := by show _ = _; omega
        clear hz hd hdt
        go_enter Tryz.func96, Tryz.ntmps96
        go_wp2_with fail
        refine (foundIn_any (t.take k.toNat) _ hlr).mono ?_
        rintro e w1 ⟨rfl, hb1⟩
        replace hR := hR.below hb1 hR.lt
        replace hB := hB.trans (hb1.mono (Nat.le_trans (Nat.le_succ _) (Nat.le_of_eq hW.symm)))
        clear hb1
        cases hf : recRd (t.take k.toNat) with
        | none =>
          have HN : Hid (standRd (245 :: 95 :: k :: t) = none) := by
            show _ = _; simp only [standRd, hf]; simp
          clear hf
          simp only [foundV]
          go_wp2_with (first
            | (refine wpList_bstore (by rfl) _ _ _ (by rfl) w.heap.size 64 (by rfl) _ _ (by rfl) hR 9 (by rfl) (by kernel_rfl) (by rfl) (by intro x hx; simp at hx; rcases hx with rfl | rfl | rfl | rfl | rfl | rfl | rfl | rfl | rfl <;> rfl) ?_; intro w9 hR9 hU9; replace hR := hR9; replace hB := hU9.below hB (Nat.le_refl _); clear hR9 hU9)
            | (refine wpList_bstore (by rfl) _ _ _ (by rfl) w.heap.size 64 (by rfl) _ _ (by rfl) (hR.alloc _) 9 (by rfl) (by kernel_rfl) (by rfl) (by intro x hx; simp at hx; rcases hx with rfl | rfl | rfl | rfl | rfl | rfl | rfl | rfl | rfl <;> rfl) ?_; intro w9 hR9 hU9; replace hR := hR9; replace hB := hU9.below (hB.alloc hB.size _) (Nat.le_refl _); clear hR9 hU9))
          exact bodyPost_ret (v := .tuple #[fdV fd0, .int .i64 0]) (results_box2 (by rfl) _ _ w.heap.size 64 _ _ _ (by rfl) hR (by rfl) Tryz.underlying64 (by rfl) 9 (by rfl) (by kernel_rfl)) rfl ⟨by rw [HN.out]; rfl, hB⟩
        | some f =>
          have hk0 : k.toNat ≠ 0 := by
            intro h0
            rw [h0] at hf
            simp [recRd] at hf
          have hfl2 : ¬ (k.toNat = 0 ∨ t.length < k.toNat + 4) := by omega
          simp only [foundV]
          go_wp2_with fail
          refine (sum_any (k :: t.take k.toNat) _ hlt).mono ?_
          rintro e w2 ⟨rfl, hw2⟩
          subst hw2
          go_wp2_with fail
          refine (fromFour_any ((t.drop k.toNat).take 4) _ hl4).mono ?_
          rintro e w3 ⟨rfl, hw3⟩
          subst hw3
          have hc := crc_lt (p := pSum) (by decide) (k :: t.take k.toNat)
          have hiff := fourRd_iff hl4 (crc pSum (k :: t.take k.toNat)) (by omega) (by omega)
          by_cases hq : fourRd ((t.drop k.toNat).take 4) = (crc pSum (k :: t.take k.toNat) : Int)
          · have hqb : (fourRd ((t.drop k.toNat).take 4) != (crc pSum (k :: t.take k.toNat) : Int)) = false := by rw [hq]; simp
            have HN : Hid (standRd (245 :: 95 :: k :: t) = some (f, k.toNat + 7)) := by
              show _ = _; simp only [standRd, if_neg hfl2, if_pos (hiff.1 hq)]; rw [hf]; rfl
            clear hf hiff
            go_wp2_with (first
              | (refine wpList_bstore (by rfl) _ _ _ (by rfl) w.heap.size 64 (by rfl) _ _ (by rfl) hR 9 (by rfl) (by kernel_rfl) (by rfl) (by intro x hx; simp at hx; rcases hx with rfl | rfl | rfl | rfl | rfl | rfl | rfl | rfl | rfl <;> rfl) ?_; intro w9 hR9 hU9; replace hR := hR9; replace hB := hU9.below hB (Nat.le_refl _); clear hR9 hU9)
              | (refine wpList_bstore (by rfl) _ _ _ (by rfl) w.heap.size 64 (by rfl) _ _ (by rfl) (hR.alloc _) 9 (by rfl) (by kernel_rfl) (by rfl) (by intro x hx; simp at hx; rcases hx with rfl | rfl | rfl | rfl | rfl | rfl | rfl | rfl | rfl <;> rfl) ?_; intro w9 hR9 hU9; replace hR := hR9; replace hB := hU9.below (hB.alloc hB.size _) (Nat.le_refl _); clear hR9 hU9))
            exact bodyPost_ret (v := .tuple #[fdV (f.putI i), .int .i64 ((i : Int) + 2 + 1 + (k.toNat : Int) + 4 - (i : Int))]) (results_box2 (by rfl) _ _ w.heap.size 64 _ _ _ (by rfl) hR (by rfl) Tryz.underlying64 (by rfl) 9 (by rfl) (by kernel_rfl)) rfl ⟨by rw [HN.out]; simp only [standV]; rw [show ((i : Int) + 2 + 1 + (k.toNat : Int) + 4 - (i : Int)) = ((k.toNat + 7 : Nat) : Int) by omega], hB⟩
          · have hqb : (fourRd ((t.drop k.toNat).take 4) != (crc pSum (k :: t.take k.toNat) : Int)) = true := by rw [bne_iff_ne]; exact hq
            have HN : Hid (standRd (245 :: 95 :: k :: t) = none) := by
              show _ = _; simp only [standRd, if_neg hfl2, if_neg (fun h => hq (hiff.2 h))]; rfl
            clear hf hiff hq
            go_wp2_with (first
              | (refine wpList_bstore (by rfl) _ _ _ (by rfl) w.heap.size 64 (by rfl) _ _ (by rfl) hR 9 (by rfl) (by kernel_rfl) (by rfl) (by intro x hx; simp at hx; rcases hx with rfl | rfl | rfl | rfl | rfl | rfl | rfl | rfl | rfl <;> rfl) ?_; intro w9 hR9 hU9; replace hR := hR9; replace hB := hU9.below hB (Nat.le_refl _); clear hR9 hU9)
              | (refine wpList_bstore (by rfl) _ _ _ (by rfl) w.heap.size 64 (by rfl) _ _ (by rfl) (hR.alloc _) 9 (by rfl) (by kernel_rfl) (by rfl) (by intro x hx; simp at hx; rcases hx with rfl | rfl | rfl | rfl | rfl | rfl | rfl | rfl | rfl <;> rfl) ?_; intro w9 hR9 hU9; replace hR := hR9; replace hB := hU9.below (hB.alloc hB.size _) (Nat.le_refl _); clear hR9 hU9))
            exact bodyPost_ret (v := .tuple #[fdV fd0, .int .i64 0]) (results_box2 (by rfl) _ _ w.heap.size 64 _ _ _ (by rfl) hR (by rfl) Tryz.underlying64 (by rfl) 9 (by rfl) (by kernel_rfl)) rfl ⟨by rw [HN.out]; rfl, hB⟩
    · have hmk : ((str [x, y]).toList == [245, 95]) = false := by
        rw [str_toList, beq_eq_false_iff_ne]; simpa using hxy
      have HN : Hid (standRd (x :: y :: k :: t) = none) := by show _ = _; simp only [standRd, if_neg hxy]
      clear hz hd ek hxy
      go_enter Tryz.func96, Tryz.ntmps96
      go_wp2_with fail
      exact bodyPost_ret (v := .tuple #[fdV fd0, .int .i64 0]) (results_box2 (by rfl) _ _ w.heap.size 64 _ _ _ (by rfl) hR (by rfl) Tryz.underlying64 (by rfl) 9 (by rfl) (by kernel_rfl)) rfl ⟨by rw [HN.out]; rfl, hB⟩
end Go.Proofs.YtdjpkgaicmklmaaGreat

/- Salvage, of the reference and of the program, walked. -/
namespace Go.Proofs.YtdjpkgaicmklmaaGreat
open Go.RowKit

/-- What is found from a place on. -/
def salvF : Nat → Nat → List UInt8 → List Fd
  | 0, _, _ => []
  | k + 1, i, s => if s = [] then [] else match standRd s with
    | some (f, n) => f.putI i :: salvF k (i + n) (s.drop n)
    | none => salvF k (i + 1) (s.drop 1)
def salv (b : List UInt8) : List Fd := salvF b.length 0 b
theorem salvF_nil (k i : Nat) : salvF k i [] = [] := by cases k <;> rfl
theorem salvF_none {k i : Nat} {s : List UInt8} (hne : s ≠ []) (h : standRd s = none) : salvF (k + 1) i s = salvF k (i + 1) (s.drop 1) := by simp only [salvF, if_neg hne, h]
theorem salvF_some {k i : Nat} {s : List UInt8} {f : Fd} {n : Nat} (hne : s ≠ []) (h : standRd s = some (f, n)) : salvF (k + 1) i s = f.putI i :: salvF k (i + n) (s.drop n) := by simp only [salvF, if_neg hne, h]
theorem standRd_le {s : List UInt8} {f : Fd} {n : Nat} (h : standRd s = some (f, n)) : 7 < n ∧ n ≤ s.length := by
  match s, h with
  | x :: y :: k :: t, h =>
    simp only [standRd] at h
    split at h
    · split at h
      · cases h
      · split at h
        · cases hr : recRd (t.take k.toNat) with
          | none => rw [hr] at h; cases h
          | some g => rw [hr] at h; simp at h; obtain ⟨_, rfl⟩ := h; simp; omega
        · cases h
    · cases h
theorem onesF (f : Fd) : ∀ v, v ∈ f.cells → v.oneCell' = true := by intro v h; simp at h; rcases h with rfl | rfl | rfl | rfl | rfl | rfl | rfl | rfl | rfl <;> rfl

end Go.Proofs.YtdjpkgaicmklmaaGreat

/- The reference's bundle, walked. -/
namespace Go.Proofs.YtdjpkgaicmklmaaGreat
open Go.RowKit
attribute [local go_sem] str_size str_append mk_append_str str_append_mk

set_option maxRecDepth 100000 in
set_option maxHeartbeats 4000000 in
theorem rbundle_any (s b : Int) (R : Rep) (a1 a2 a3 : Option Addr) (k1 k2 k3 : Nat) (w : World) (hR : Has w R a1 a2 a3) (hF : Fit R) (hs : Num s) (hb1 : 0 ≤ b) (hb2 : b ≤ 4294967295) :
    Calls Tryz.prog 18 #[.agg (lnkA s b R a1 a2 a3 k1 k2 k3)] w fun e w' => e = .returned (.string (str (bundleB (recsOf s b R)))) ∧ Below w.heap.size w w' := by
  have m1 := hF.n1; have m2 := hF.n2; have m3 := hF.n3
  have h0 : BoxL w s b R a1 a2 a3 k1 k2 k3 (w.alloc (.cells (lnkA s b R a1 a2 a3 k1 k2 k3) 46)) := Below.refl _ _
  have hrec := records_any s b R a1 a2 a3 k1 k2 k3 (w.alloc (.cells (lnkA s b R a1 a2 a3 k1 k2 k3) 46)) (hR.below (box_old h0)) hF
  go_enter Tryz.func18, Tryz.ntmps18
  go_wp2_with fail
  refine hrec.mono ?_
  rintro e w1 ⟨ad, cap, N, rfl, hN, hv, hh⟩
  have h1 := box_old (box_step h0 hh)
  clear hh h0 hrec
  have hok := hF.ok hs hb1 hb2
  have hNb : N ≤ 3000001 := by rw [hN, recsOf_length]; omega
  generalize hll : recsOf s b R = l at *
  have HLL : Hid (recsOf s b R = l) := hll
  clear hll
  have HN : Hid (N = l.length) := hN
  have HO : Hid (∀ f, f ∈ l → FdOk f) := hok
  clear hN hok
  go_wp2_with fail
  go_loopw [3, 5, 6] (fun v u _ wr => ∃ (k : Nat) (B : List UInt8), k ≤ N ∧ u = .int .i64 k ∧ v = .string (str B) ∧ B = bodyB (l.take k) ∧ B.length ≤ 400000000 ∧ Below w1.heap.size w1 wr) (fun _ u _ _ => N - (intOf u).toNat)
  case atStart => exact ⟨0, [80, 82, 67, 49], Nat.zero_le _, rfl, rfl, rfl, by simp, Below.refl _ _⟩
  case round =>
    obtain ⟨k, B, hk, rfl, rfl, hB, hBl, hb⟩ := hrel
    have HB : Hid (B = bodyB (l.take k)) := hB
    clear hB
    by_cases hlt : k < N
    · have hl : k < l.length := by rw [← HN.out]; exact hlt
      have hvr := hv.keep hb
      obtain ⟨bb, o, _, hbl, hix, hc, _, _⟩ := hvr.at (P := Tryz.prog) (t := 62) (by kernel_rfl) (by kernel_rfl) hlt (k : Int) rfl
      have hcj : ∀ j, j < 9 → wr.cell? ⟨bb, o + j, none⟩ = l[k].cells[j]? := fun j hj => by
        rw [hc j hj]
        have hE : Even 9 (l.map Fd.cells) := by intro x hx; obtain ⟨y, _, rfl⟩ := List.mem_map.1 hx; rfl
        have h9 := hE.at k j hj (by simpa using hl)
        rw [show fcells l = (l.map Fd.cells).flatten from rfl, h9]
        simp [List.getD, hl]
      have c0 : wr.cell? ⟨bb, o, none⟩ = some (.int .i64 l[k].at_) := hcj 0 (by omega)
      have c1 : wr.cell? ⟨bb, o + 1, none⟩ = some (.int .i64 l[k].kind) := hcj 1 (by omega)
      have c2 : wr.cell? ⟨bb, o + 2, none⟩ = some (.int .i64 l[k].seq) := hcj 2 (by omega)
      have c3 : wr.cell? ⟨bb, o + 3, none⟩ = some (.int .i64 l[k].base) := hcj 3 (by omega)
      have c4 : wr.cell? ⟨bb, o + 4, none⟩ = some (.int .i64 l[k].id) := hcj 4 (by omega)
      have c5 : wr.cell? ⟨bb, o + 5, none⟩ = some (.int .i64 l[k].site) := hcj 5 (by omega)
      have c6 : wr.cell? ⟨bb, o + 6, none⟩ = some (.int .i64 l[k].count) := hcj 6 (by omega)
      have c7 : wr.cell? ⟨bb, o + 7, none⟩ = some (.bool l[k].gone) := hcj 7 (by omega)
      have c8 : wr.cell? ⟨bb, o + 8, none⟩ = some (.string l[k].text) := hcj 8 (by omega)
      have hfk := HO.out l[k] (List.getElem_mem hl)
      have hfl := recF_length hfk
      have hbod : bodyB (l.take (k + 1)) = B ++ frameB (recF l[k]) := by
        rw [List.take_succ_eq_append_getElem hl, bodyB_succ, HB.out]
      have hbl2 := bodyB_length (l.take (k + 1)) (fun f hf => HO.out f (List.mem_of_mem_take hf))
      rw [hbod] at hbl2
      have hfr := frameB_length (recF l[k])
      have hk3 : (l.take (k + 1)).length ≤ 3000001 := by rw [List.length_take]; have := HN.out; omega
      have hbl3 : (B ++ frameB (recF l[k])).length ≤ 400000000 := by omega
      have HD : Hid (bodyB (l.take (k + 1)) = B ++ frameB (recF l[k])) := hbod
      have hfr2 : (frameB (recF l[k])).length ≤ 200 := by omega
      have hcall := fun w0 => rframe_any l[k] w0 hfk
      have HCa : Hid (∀ w0, Calls Tryz.prog 38 #[.agg l[k].cells.toArray] w0 fun e w' => e = .returned (.string (str (frameB (recF l[k])))) ∧ Below w0.heap.size w0 w') := hcall
      clear hc hcj hbod hbl2 hk3 hvr HB hfk hfr hfl hcall
      generalize frameB (recF l[k]) = fr at *
      generalize l[k] = fk at *
      go_wp2_with fail
      refine (HCa.out _).mono ?_
      rintro e w2 ⟨rfl, hh⟩
      have hb3 : Below w1.heap.size w1 w2 := hb.trans (hh.mono hb.size)
      clear hh
      rw [List.length_append] at hbl3
      go_wp2_with fail
      go_roundw
      case rel => exact ⟨k + 1, B ++ fr, by omega, by go_num, rfl, HD.out.symm, by simp; omega, hb3⟩
      case measure => simp [intOf]; omega
    · have e1 : k = N := by omega
      have E : Hid (B = bodyB l) := by
        have h := HB.out
        rw [e1, HN.out, List.take_of_length_le (Nat.le_refl _)] at h; exact h
      clear e1 HB
      go_wp2_with fail
      refine (rseal_any B _ (by omega)).mono ?_
      rintro e w2 ⟨rfl, hs2⟩
      obtain ⟨c1, c2⟩ := crc_le pSeal (by decide) B
      have F : Hid (B ++ fourI (crc pSeal B) = bundleB l) := by show _ = _; rw [E.out]; rfl
      generalize crc pSeal B = C at *
      go_wp2_with fail
      refine (rfour_any _ _ c1 c2).mono ?_
      rintro e w3 ⟨rfl, hh⟩
      have l5 : (fourI (C : Int)).length ≤ 4 := Nat.le_refl _
      generalize fourI (C : Int) = t at *
      go_wp2_with fail
      go_ret
      exact ⟨ret_str (by rw [HLL.out]; exact F.out), h1.trans ((hb.trans ((hs2.mono hb.size).trans (hh.mono (Nat.le_trans hb.size hs2.size)))).mono h1.size)⟩
end Go.Proofs.YtdjpkgaicmklmaaGreat

/- parcellaw.handed: a copy of a replica with spare room, walked. -/
namespace Go.Proofs.YtdjpkgaicmklmaaGreat
open Go.RowKit

abbrev mk1 : List Value := [.int .i64 (-7), .int .i64 0]
abbrev mk2 : List Value := [.int .i64 (-7), .int .i64 0, .int .i64 0, .bool false, .string ⟨#[]⟩]
abbrev mk3 : List Value := [.int .i64 (-7), .string ⟨#[]⟩]
abbrev z1 : List Value := [.int .i64 0, .int .i64 0]
abbrev z2 : List Value := [.int .i64 0, .int .i64 0, .int .i64 0, .bool false, .string ⟨#[]⟩]
abbrev z3 : List Value := [.int .i64 0, .string ⟨#[]⟩]

/-- A copy of a replica, with two marks behind each row. -/
structure Handed (w : World) (R : Rep) (b1 b2 b3 : Option Addr) (g1 g2 g3 : Nat) : Prop where
  e1 : b1 = some ⟨g1, 0, none⟩
  e2 : b2 = some ⟨g2, 0, none⟩
  e3 : b3 = some ⟨g3, 0, none⟩
  o1 : Own w g1 37 2 ((List.range R.n1).map (fun i => (R.c i).cells) ++ [mk1, mk1])
  o2 : Own w g2 39 5 ((List.range R.n2).map (fun i => (R.d i).cells) ++ [mk2, mk2])
  o3 : Own w g3 41 2 ((List.range R.n3).map (fun i => (R.e i).cells) ++ [mk3, mk3])
  d12 : g1 < g2
  d23 : g2 < g3

/-- Two places behind a row, the first i of them marked. -/
def mrk (i : Nat) (m z : List Value) : List (List Value) := if i = 0 then [z, z] else if i = 1 then [m, z] else [m, m]
theorem mrk_start (n : Nat) (f : Nat → List Value) (m z : List Value) : (List.range n).map f ++ (List.replicate (n + 2) z).drop n = (List.range n).map f ++ mrk 0 m z := by
  congr 1
  rw [List.drop_replicate, show n + 2 - n = 2 by omega]; rfl
theorem mrk_length (n i : Nat) (f : Nat → List Value) (m z : List Value) : ((List.range n).map f ++ mrk i m z).length = n + 2 := by
  unfold mrk; split; (simp); split <;> simp
theorem mrk_step (n i : Nat) (f : Nat → List Value) (m z : List Value) (hi : i < 2) : ((List.range n).map f ++ mrk i m z).set (n + i) m = (List.range n).map f ++ mrk (i + 1) m z := by
  rw [List.set_append]
  simp only [List.length_map, List.length_range]
  rw [if_neg (by omega), show n + i - n = i by omega]
  congr 1
  rcases (by omega : i = 0 ∨ i = 1) with rfl | rfl <;> rfl
theorem mrk_end (m z : List Value) : mrk 2 m z = [m, m] := rfl

/-- The world behind the parameter's box and the result's cell. -/
abbrev W2 (w : World) (R : Rep) (a1 a2 a3 : Option Addr) (k1 k2 k3 : Nat) : World :=
  (w.alloc (.cells #[.slice a1 R.n1 k1, .slice a2 R.n2 k2, .slice a3 R.n3 k3] 27)).alloc (.cells #[.slice none 0 0, .slice none 0 0, .slice none 0 0] 27)
abbrev Box2 (w : World) (R : Rep) (a1 a2 a3 : Option Addr) (k1 k2 k3 : Nat) (wr : World) : Prop := Below (w.heap.size + 2) (W2 w R a1 a2 a3 k1 k2 k3) wr

theorem Box2.cells {w : World} {R : Rep} {a1 a2 a3 : Option Addr} {k1 k2 k3 : Nat} {wr : World} (hb : Box2 w R a1 a2 a3 k1 k2 k3 wr) :
    wr.cell? ⟨w.heap.size, 0, none⟩ = some (.slice a1 R.n1 k1) ∧ wr.cell? ⟨w.heap.size, 1, none⟩ = some (.slice a2 R.n2 k2) ∧ wr.cell? ⟨w.heap.size, 2, none⟩ = some (.slice a3 R.n3 k3) := by
  refine ⟨?_, ?_, ?_⟩
  · rw [hb.cell (p := ⟨w.heap.size, 0, none⟩) (by simp)]; simp
  · rw [hb.cell (p := ⟨w.heap.size, 1, none⟩) (by simp)]; simp
  · rw [hb.cell (p := ⟨w.heap.size, 2, none⟩) (by simp)]; simp
theorem Box2.size {w : World} {R : Rep} {a1 a2 a3 : Option Addr} {k1 k2 k3 : Nat} {wr : World} (hb : Box2 w R a1 a2 a3 k1 k2 k3 wr) : w.heap.size + 2 ≤ wr.heap.size := by
  have := Below.size hb; simpa using this
theorem Box2.res {w : World} {R : Rep} {a1 a2 a3 : Option Addr} {k1 k2 k3 : Nat} {wr : World} (hb : Box2 w R a1 a2 a3 k1 k2 k3 wr) :
    (wr.cell? ⟨w.heap.size + 1, 0, none⟩ = some (.slice none 0 0) ∧ wr.cell? ⟨w.heap.size + 1, 1, none⟩ = some (.slice none 0 0) ∧ wr.cell? ⟨w.heap.size + 1, 2, none⟩ = some (.slice none 0 0)) ∧
    (∀ j, wr.frozen? ⟨w.heap.size + 1, j, none⟩ = false) := by
  refine ⟨⟨?_, ?_, ?_⟩, fun j => ?_⟩
  · rw [hb.cell (p := ⟨w.heap.size + 1, 0, none⟩) (by simp)]; simp
  · rw [hb.cell (p := ⟨w.heap.size + 1, 1, none⟩) (by simp)]; simp
  · rw [hb.cell (p := ⟨w.heap.size + 1, 2, none⟩) (by simp)]; simp
  · rw [hb.frozen (p := ⟨w.heap.size + 1, j, none⟩) (by simp)]; simp
theorem Box2.old {w : World} {R : Rep} {a1 a2 a3 : Option Addr} {k1 k2 k3 : Nat} {wr : World} (hb : Box2 w R a1 a2 a3 k1 k2 k3 wr) : Below w.heap.size w wr :=
  (((Below.refl _ w).alloc (Nat.le_refl _) _).alloc (by simp) _).trans (hb.mono (by omega))
theorem Box2.step {w : World} {R : Rep} {a1 a2 a3 : Option Addr} {k1 k2 k3 : Nat} {wr w' : World} (hb : Box2 w R a1 a2 a3 k1 k2 k3 wr) (h : Below wr.heap.size wr w') : Box2 w R a1 a2 a3 k1 k2 k3 w' :=
  Below.trans hb (h.mono hb.size)

theorem set3 (wr : World) (b : Nat) (x y z u0 u1 u2 : Value) (h0 : wr.cell? ⟨b, 0, none⟩ = some u0) (h1 : wr.cell? ⟨b, 1, none⟩ = some u1) (h2 : wr.cell? ⟨b, 2, none⟩ = some u2) :
    ∃ X, X = (((wr.setCell ⟨b, 0, none⟩ x).setCell ⟨b, 1, none⟩ y).setCell ⟨b, 2, none⟩ z).drew ∧ X.cell? ⟨b, 0, none⟩ = some x ∧ X.cell? ⟨b, 1, none⟩ = some y ∧ X.cell? ⟨b, 2, none⟩ = some z ∧ Upd b wr X := by
  refine ⟨_, rfl, ?_, ?_, ?_, ((((Upd.refl b wr).setCell ⟨b, 0, none⟩ rfl x).setCell ⟨b, 1, none⟩ rfl y).setCell ⟨b, 2, none⟩ rfl z).drew⟩ <;> simp [go_sem, h0, h1, h2]
theorem cells_len1 (x : Ck) : x.cells.length = 2 := rfl
theorem ones1 (x : Ck) : ∀ v, v ∈ x.cells → v.oneCell' = true := by intro v h; simp at h; rcases h with rfl | rfl <;> rfl
theorem ones2 (x : Cd) : ∀ v, v ∈ x.cells → v.oneCell' = true := by intro v h; simp at h; rcases h with rfl | rfl | rfl | rfl | rfl <;> rfl
theorem ones3 (x : Ed) : ∀ v, v ∈ x.cells → v.oneCell' = true := by intro v h; simp at h; rcases h with rfl | rfl <;> rfl

set_option maxRecDepth 100000 in
set_option maxHeartbeats 4000000 in
theorem handed_any (R : Rep) (a1 a2 a3 : Option Addr) (k1 k2 k3 : Nat) (w : World) (hR : Has w R a1 a2 a3) :
    Calls Tryz.prog 5 #[repV R a1 a2 a3 k1 k2 k3] w fun e w' => ∃ b1 b2 b3 g1 g2 g3, e = .returned (repV R b1 b2 b3 (R.n1 + 2) (R.n2 + 2) (R.n3 + 2)) ∧ Handed w' R b1 b2 b3 g1 g2 g3 ∧ w.heap.size ≤ g1 ∧ Below w.heap.size w w' := by
  have b1 := hR.b1; have b2 := hR.b2; have b3 := hR.b3; have y1 := hR.y1; have y2 := hR.y2; have y3 := hR.y3
  go_enter Tryz.func5, Tryz.ntmps5
  go_wp2_with (first
    | (at_make; refine wpList_make_rows (by rfl) _ _ 23 (by rfl) 37 z1 2 16 Tryz.underlying23 (by kernel_rfl) rfl (by decide) (R.n1 + 2) _ ?_ (by rfl) (by rfl) ?_ ?_ ?_; (omega); (omega); (omega); intro g1 ad1 w1 e1 hg1 hl1 o1 hb1; have q1 : Box2 w R a1 a2 a3 k1 k2 k3 w1 := hb1.mono (by simp); clear hb1; obtain ⟨c11, c12, c13⟩ := q1.cells; have hL1 := (hR.below q1.old).l1; simp only [World.size_alloc] at hg1)
    | (at_make; refine wpList_make_rows (by rfl) _ _ 24 (by rfl) 39 z2 5 48 Tryz.underlying24 (by kernel_rfl) rfl (by decide) (R.n2 + 2) _ ?_ (by rfl) (by rfl) ?_ ?_ ?_; (omega); (omega); (omega); intro g2 ad2 w3 e2 hg2 hl3 o2 hb3; have q3 : Box2 w R a1 a2 a3 k1 k2 k3 w3 := q2.step hb3; have o13 := o1'.below hb3 hl2; obtain ⟨c31, c32, c33⟩ := q3.cells; have hL3 := (hR.below q3.old).l2; have hg12 : g1 < g2 := (by omega); clear q2 c21 c22 c23 hL2 o1' hb3 hl2 hg2)
    | (at_make; refine wpList_make_rows (by rfl) _ _ 25 (by rfl) 41 z3 2 24 Tryz.underlying25 (by kernel_rfl) rfl (by decide) (R.n3 + 2) _ ?_ (by rfl) (by rfl) ?_ ?_ ?_; (omega); (omega); (omega); intro g3 ad3 w5 e3 hg3 hl5 o3 hb5; have q5 : Box2 w R a1 a2 a3 k1 k2 k3 w5 := q4.step hb5; have o15 := o14.below hb5 (by omega); have o25 := o2'.below hb5 hl4; obtain ⟨c51, c52, c53⟩ := q5.cells; have hL5 := (hR.below q5.old).l3; have hg23 : g2 < g3 := (by omega); clear q4 c41 c42 c43 o14 o2' hb5 hl4 hg3)
    | (refine wpList_copy_rows (by rfl) _ _ 23 23 (by rfl) 37 2 Tryz.underlying23 (by kernel_rfl) g1 ad1 e1 (R.n1 + 2) _ R.n1 _ _ (by rfl) (by rfl) (fun i => (R.c i).cells) _ o1 ?_ ?_ hL1 ?_ ?_ ?_; (simp); (omega); (intro i _; rfl); (intro i _; exact ones1 _); intro w2 o1' u2; have q2 : Box2 w R a1 a2 a3 k1 k2 k3 w2 := u2.below q1 (by omega); obtain ⟨c21, c22, c23⟩ := q2.cells; have hl2 : g1 < w2.heap.size := o1'.lt; have hL2 := (hR.below q2.old).l2; clear q1 c11 c12 c13 hL1 o1 u2 hl1)
    | (refine wpList_copy_rows (by rfl) _ _ 24 24 (by rfl) 39 5 Tryz.underlying24 (by kernel_rfl) g2 ad2 e2 (R.n2 + 2) _ R.n2 _ _ (by rfl) (by rfl) (fun i => (R.d i).cells) _ o2 ?_ ?_ hL3 ?_ ?_ ?_; (simp); (omega); (intro i _; rfl); (intro i _; exact ones2 _); intro w4 o2' u4; have q4 : Box2 w R a1 a2 a3 k1 k2 k3 w4 := u4.below q3 (by omega); obtain ⟨c41, c42, c43⟩ := q4.cells; have hl4 : g2 < w4.heap.size := o2'.lt; have o14 := o13.upd u4 (by omega); clear q3 c31 c32 c33 hL3 o2 u4 o13 hl3)
    | (refine wpList_copy_rows (by rfl) _ _ 25 25 (by rfl) 41 2 Tryz.underlying25 (by kernel_rfl) g3 ad3 e3 (R.n3 + 2) _ R.n3 _ _ (by rfl) (by rfl) (fun i => (R.e i).cells) _ o3 ?_ ?_ hL5 ?_ ?_ ?_; (simp); (omega); (intro i _; rfl); (intro i _; exact ones3 _); intro w6 o3' u6; have q6 : Box2 w R a1 a2 a3 k1 k2 k3 w6 := u6.below q5 (by omega); have o16 := o15.upd u6 (by omega); have o26 := o25.upd u6 (by omega); clear q5 c51 c52 c53 hL5 o3 u6 o15 o25 hl5))
  rw [mrk_start _ _ mk1] at o16
  rw [mrk_start _ _ mk2] at o26
  rw [mrk_start _ _ mk3] at o3'
  go_loopw [6] (fun v wr => ∃ i : Nat, i ≤ 2 ∧ v = .int .i64 i ∧ Own wr g1 37 2 ((List.range R.n1).map (fun i => (R.c i).cells) ++ mrk i mk1 z1) ∧ Own wr g2 39 5 ((List.range R.n2).map (fun i => (R.d i).cells) ++ mrk i mk2 z2) ∧ Own wr g3 41 2 ((List.range R.n3).map (fun i => (R.e i).cells) ++ mrk i mk3 z3) ∧ Box2 w R a1 a2 a3 k1 k2 k3 wr) (fun v _ => 2 - (intOf v).toNat)
  case atStart => exact ⟨0, by omega, rfl, o16, o26, o3', q6⟩
  case round =>
    clear o16 o26 o3' q6
    obtain ⟨i, hi, rfl, o1, o2, o3, q⟩ := hrel
    obtain ⟨c1, c2, c3⟩ := q.cells
    by_cases hlt : i < 2
    · have x1 := fun w' => Own.idx e1 (P := Tryz.prog) (t := 23) (m := 2) (R.n1 + 2) (R.n1 + 2) (by kernel_rfl) (by kernel_rfl) (k := R.n1 + i) (by omega) ((R.n1 : Int) + (i : Int)) (by omega) w'
      have x2 := fun w' => Own.idx e2 (P := Tryz.prog) (t := 24) (m := 5) (R.n2 + 2) (R.n2 + 2) (by kernel_rfl) (by kernel_rfl) (k := R.n2 + i) (by omega) ((R.n2 : Int) + (i : Int)) (by omega) w'
      have x3 := fun w' => Own.idx e3 (P := Tryz.prog) (t := 25) (m := 2) (R.n3 + 2) (R.n3 + 2) (by kernel_rfl) (by kernel_rfl) (k := R.n3 + i) (by omega) ((R.n3 : Int) + (i : Int)) (by omega) w'
      go_wp2_with (first
        | (refine wpList_store_rows (by rfl) _ _ 37 (by rfl) 37 2 (by kernel_rfl) g1 (R.n1 + i) _ rfl (by rfl) mk1 (by rfl) rfl ?_ _ o1 ?_ ?_; (simp [Value.oneCell']); (rw [mrk_length]; omega); rw [mrk_step _ _ _ _ _ hlt]; intro wa oa ua; have ob := o2.upd ua (by omega); have oc := o3.upd ua (by omega); have qa : Box2 w R a1 a2 a3 k1 k2 k3 wa := ua.below q (by omega); obtain ⟨ca1, ca2, ca3⟩ := qa.cells; clear o1 o2 o3 q c1 c2 c3 ua)
        | (refine wpList_store_rows (by rfl) _ _ 39 (by rfl) 39 5 (by kernel_rfl) g2 (R.n2 + i) _ rfl (by rfl) mk2 (by rfl) rfl ?_ _ ob ?_ ?_; (simp [Value.oneCell']); (rw [mrk_length]; omega); rw [mrk_step _ _ _ _ _ hlt]; intro wb od ub; have oe := oa.upd ub (by omega); have of := oc.upd ub (by omega); have qb : Box2 w R a1 a2 a3 k1 k2 k3 wb := ub.below qa (by omega); obtain ⟨cb1, cb2, cb3⟩ := qb.cells; clear oa ob oc qa ca1 ca2 ca3 ub)
        | (refine wpList_store_rows (by rfl) _ _ 41 (by rfl) 41 2 (by kernel_rfl) g3 (R.n3 + i) _ rfl (by rfl) mk3 (by rfl) rfl ?_ _ of ?_ ?_; (simp [Value.oneCell']); (rw [mrk_length]; omega); rw [mrk_step _ _ _ _ _ hlt]; intro wc og uc; have oh := oe.upd uc (by omega); have oi := od.upd uc (by omega); have qc : Box2 w R a1 a2 a3 k1 k2 k3 wc := uc.below qb (by omega); clear od oe of qb cb1 cb2 cb3 uc))
      go_roundw
      case rel => exact ⟨i + 1, by omega, by go_num, oh, oi, og, qc⟩
      case measure => simp [intOf]; omega
    · obtain rfl : i = 2 := by omega
      rw [mrk_end] at o1 o2 o3
      obtain ⟨⟨r1, r2, r3⟩, rf⟩ := q.res
      have rf0 := rf 0; have rf1 := rf 1; have rf2 := rf 2
      have u1 : (0 : Int) ≤ (R.n1 : Int) := by omega
      have u2 : (R.n1 : Int) ≤ (R.n1 : Int) + 2 := by omega
      have u3 : (0 : Int) ≤ (R.n2 : Int) := by omega
      have u4 : (R.n2 : Int) ≤ (R.n2 : Int) + 2 := by omega
      have u5 : (0 : Int) ≤ (R.n3 : Int) := by omega
      have u6 : (R.n3 : Int) ≤ (R.n3 : Int) + 2 := by omega
      have hz := q.size
      go_wp2_with fail
      go_region_held3 (fun w' => w'.cell? ⟨w.heap.size, 0, none⟩ = some (.slice a1 R.n1 k1) ∧ w'.cell? ⟨w.heap.size, 1, none⟩ = some (.slice a2 R.n2 k2) ∧ w'.cell? ⟨w.heap.size, 2, none⟩ = some (.slice a3 R.n3 k3))
         (first | (go_keep; done))
         (fail)
      go_wp2_with fail
      obtain ⟨X, hX, x0, x1, x2, hu⟩ := set3 wr (w.heap.size + 1) (.slice ad1 R.n1 (R.n1 + 2)) (.slice ad2 R.n2 (R.n2 + 2)) (.slice ad3 R.n3 (R.n3 + 2)) _ _ _ r1 r2 r3
      rw [← hX]
      clear hX
      have hH : Handed X R ad1 ad2 ad3 g1 g2 g3 := ⟨e1.out, e2.out, e3.out, o1.upd hu (by omega), o2.upd hu (by omega), o3.upd hu (by omega), hg12, hg23⟩
      have hB : Below w.heap.size w X := hu.below q.old (by omega)
      have hgg : w.heap.size ≤ g1 := by omega
      refine bodyPost_ret (v := repV R ad1 ad2 ad3 (R.n1 + 2) (R.n2 + 2) (R.n3 + 2)) ?_ rfl ⟨ad1, ad2, ad3, g1, g2, g3, rfl, hH, hgg, hB⟩
      simp [results, Tryz.results5, go_sem, x0, x1, x2]
end Go.Proofs.YtdjpkgaicmklmaaGreat

/- parcellaw.sameReplica and parcellaw.still, walked, where the two replicas are the same. -/
namespace Go.Proofs.YtdjpkgaicmklmaaGreat
open Go.RowKit

/-- Two boxes. -/
abbrev BoxS (w : World) (R : Rep) (a1 a2 a3 b1 b2 b3 : Option Addr) (k1 k2 k3 l1 l2 l3 : Nat) (wr : World) : Prop :=
  Below (w.heap.size + 2) ((w.alloc (.cells #[.slice a1 R.n1 k1, .slice a2 R.n2 k2, .slice a3 R.n3 k3] 27)).alloc (.cells #[.slice b1 R.n1 l1, .slice b2 R.n2 l2, .slice b3 R.n3 l3] 27)) wr

theorem BoxS.cells {w : World} {R : Rep} {a1 a2 a3 b1 b2 b3 : Option Addr} {k1 k2 k3 l1 l2 l3 : Nat} {wr : World} (hb : BoxS w R a1 a2 a3 b1 b2 b3 k1 k2 k3 l1 l2 l3 wr) :
    (wr.cell? ⟨w.heap.size, 0, none⟩ = some (.slice a1 R.n1 k1) ∧ wr.cell? ⟨w.heap.size, 1, none⟩ = some (.slice a2 R.n2 k2) ∧ wr.cell? ⟨w.heap.size, 2, none⟩ = some (.slice a3 R.n3 k3)) ∧
    wr.cell? ⟨w.heap.size + 1, 0, none⟩ = some (.slice b1 R.n1 l1) ∧ wr.cell? ⟨w.heap.size + 1, 1, none⟩ = some (.slice b2 R.n2 l2) ∧ wr.cell? ⟨w.heap.size + 1, 2, none⟩ = some (.slice b3 R.n3 l3) := by
  refine ⟨⟨?_, ?_, ?_⟩, ?_, ?_, ?_⟩
  · rw [hb.cell (p := ⟨w.heap.size, 0, none⟩) (by simp)]; simp
  · rw [hb.cell (p := ⟨w.heap.size, 1, none⟩) (by simp)]; simp
  · rw [hb.cell (p := ⟨w.heap.size, 2, none⟩) (by simp)]; simp
  · rw [hb.cell (p := ⟨w.heap.size + 1, 0, none⟩) (by simp)]; simp
  · rw [hb.cell (p := ⟨w.heap.size + 1, 1, none⟩) (by simp)]; simp
  · rw [hb.cell (p := ⟨w.heap.size + 1, 2, none⟩) (by simp)]; simp
theorem BoxS.old {w : World} {R : Rep} {a1 a2 a3 b1 b2 b3 : Option Addr} {k1 k2 k3 l1 l2 l3 : Nat} {wr : World} (hb : BoxS w R a1 a2 a3 b1 b2 b3 k1 k2 k3 l1 l2 l3 wr) : Below w.heap.size w wr :=
  (((Below.refl _ w).alloc (Nat.le_refl _) _).alloc (by simp) _).trans (hb.mono (by omega))
theorem BoxS.size {w : World} {R : Rep} {a1 a2 a3 b1 b2 b3 : Option Addr} {k1 k2 k3 l1 l2 l3 : Nat} {wr : World} (hb : BoxS w R a1 a2 a3 b1 b2 b3 k1 k2 k3 l1 l2 l3 wr) : w.heap.size + 2 ≤ wr.heap.size := by
  have := Below.size hb; simpa using this

set_option maxRecDepth 100000 in
set_option maxHeartbeats 4000000 in
theorem sameReplica_any (R : Rep) (a1 a2 a3 b1 b2 b3 : Option Addr) (k1 k2 k3 l1 l2 l3 : Nat) (w : World) (hA : Has w R a1 a2 a3) (hB : Has w R b1 b2 b3) :
    Calls Tryz.prog 20 #[repV R a1 a2 a3 k1 k2 k3, repV R b1 b2 b3 l1 l2 l3] w fun e w' => e = .returned (.bool true) ∧ Below w.heap.size w w' := by
  have y1 := hA.b1; have y2 := hA.b2; have y3 := hA.b3
  go_enter Tryz.func20, Tryz.ntmps20
  go_wp2
  go_loopw [5] (fun i wr => ∃ k : Nat, k ≤ R.n1 ∧ i = .int .i64 k ∧ BoxS w R a1 a2 a3 b1 b2 b3 k1 k2 k3 l1 l2 l3 wr) (fun i _ => R.n1 - (intOf i).toNat)
  case atStart => exact ⟨0, Nat.zero_le _, rfl, Below.refl _ _⟩
  case round =>
    obtain ⟨k, hk, rfl, hb⟩ := hrel
    obtain ⟨⟨x1, x2, x3⟩, z1, z2, z3⟩ := hb.cells
    by_cases hlt : k < R.n1
    · obtain ⟨b, o, hbl, hix, hs, hc⟩ := (hA.below hb.old).l1.clock k1 hlt
      obtain ⟨b', o', hbl', hix', hs', hc'⟩ := (hB.below hb.old).l1.clock l1 hlt
      go_wp2
      go_quiet (fail)
      go_wp2
      go_roundw
      case rel => exact ⟨k + 1, by omega, by go_num, below_drewN hb _⟩
      case measure => simp [intOf]; omega
    · go_wp2
      go_loopw [6] (fun i wr => ∃ k : Nat, k ≤ R.n2 ∧ i = .int .i64 k ∧ BoxS w R a1 a2 a3 b1 b2 b3 k1 k2 k3 l1 l2 l3 wr) (fun i _ => R.n2 - (intOf i).toNat)
      case atStart => exact ⟨0, Nat.zero_le _, rfl, hb⟩
      case round =>
        clear x1 x2 x3 z1 z2 z3 hb hk hlt
        obtain ⟨k, hk, rfl, hb⟩ := hrel
        obtain ⟨⟨x1, x2, x3⟩, z1, z2, z3⟩ := hb.cells
        by_cases hlt : k < R.n2
        · obtain ⟨b, o, hbl, hix, c1, c2, c3, c4, c5⟩ := (hA.below hb.old).l2.card k2 hlt
          obtain ⟨b', o', hbl', hix', d1, d2, d3, d4, d5⟩ := (hB.below hb.old).l2.card l2 hlt
          go_wp2
          go_quiet (fail)
          go_wp2
          go_roundw
          case rel => exact ⟨k + 1, by omega, by go_num, below_drewN hb _⟩
          case measure => simp [intOf]; omega
        · go_wp2
          go_loopw [7] (fun i wr => ∃ k : Nat, k ≤ R.n3 ∧ i = .int .i64 k ∧ BoxS w R a1 a2 a3 b1 b2 b3 k1 k2 k3 l1 l2 l3 wr) (fun i _ => R.n3 - (intOf i).toNat)
          case atStart => exact ⟨0, Nat.zero_le _, rfl, hb⟩
          case round =>
            clear x1 x2 x3 z1 z2 z3 hb hk hlt
            obtain ⟨k, hk, rfl, hb⟩ := hrel
            obtain ⟨⟨x1, x2, x3⟩, z1, z2, z3⟩ := hb.cells
            by_cases hlt : k < R.n3
            · obtain ⟨b, o, hbl, hix, c1, c2⟩ := (hA.below hb.old).l3.edit k3 hlt
              obtain ⟨b', o', hbl', hix', d1, d2⟩ := (hB.below hb.old).l3.edit l3 hlt
              go_wp2
              go_quiet (fail)
              go_wp2
              go_roundw
              case rel => exact ⟨k + 1, by omega, by go_num, below_drewN hb _⟩
              case measure => simp [intOf]; omega
            · go_wp2
              go_ret
              exact ⟨rfl, hb.old⟩

theorem Own.mark {w : World} {g e m n i : Nat} {f : Nat → List Value} {mk : List Value} (h : Own w g e m ((List.range n).map f ++ [mk, mk])) (hi : i < 2) (hm : 0 < m) {v : Value} (hv : mk[0]? = some v) : w.cell? ⟨g, (n + i) * m, none⟩ = some v := by
  have hc := h.cell (n + i) 0 (by simp; omega) hm
  rw [Nat.add_zero] at hc
  rw [hc]
  have hg : ((List.range n).map f ++ [mk, mk]).getD (n + i) [] = mk := by
    rw [List.getD, List.getElem?_append_right (by simp)]
    simp only [List.length_map, List.length_range, show n + i - n = i by omega]
    rcases (by omega : i = 0 ∨ i = 1) with rfl | rfl <;> rfl
  rw [hg, hv]

theorem Handed.has {w : World} {R : Rep} {a1 a2 a3 b1 b2 b3 : Option Addr} {g1 g2 g3 : Nat} (h : Handed w R b1 b2 b3 g1 g2 g3) {w0 : World} (hR : Has w0 R a1 a2 a3) : Has w R b1 b2 b3 := by
  refine ⟨?_, ?_, ?_, hR.b1, hR.b2, hR.b3, hR.y1, hR.y2, hR.y3⟩
  · rw [h.e1]; refine h.o1.lies R.n1 _ (by simp) fun i hi => ?_
    rw [List.getD, List.getElem?_append_left (by simpa using hi)]; simp [hi]
  · rw [h.e2]; refine h.o2.lies R.n2 _ (by simp) fun i hi => ?_
    rw [List.getD, List.getElem?_append_left (by simpa using hi)]; simp [hi]
  · rw [h.e3]; refine h.o3.lies R.n3 _ (by simp) fun i hi => ?_
    rw [List.getD, List.getElem?_append_left (by simpa using hi)]; simp [hi]

theorem Handed.below {w w' : World} {R : Rep} {b1 b2 b3 : Option Addr} {g1 g2 g3 : Nat} (h : Handed w R b1 b2 b3 g1 g2 g3) (hb : Below w.heap.size w w') : Handed w' R b1 b2 b3 g1 g2 g3 :=
  ⟨h.e1, h.e2, h.e3, h.o1.below hb h.o1.lt, h.o2.below hb h.o2.lt, h.o3.below hb h.o3.lt, h.d12, h.d23⟩

theorem boxS_step {w : World} {R : Rep} {a1 a2 a3 b1 b2 b3 : Option Addr} {k1 k2 k3 l1 l2 l3 : Nat} {wr w' : World} (hb : BoxS w R a1 a2 a3 b1 b2 b3 k1 k2 k3 l1 l2 l3 wr) (h : Below wr.heap.size wr w') : BoxS w R a1 a2 a3 b1 b2 b3 k1 k2 k3 l1 l2 l3 w' :=
  Below.trans hb (h.mono hb.size)

set_option maxRecDepth 100000 in
set_option maxHeartbeats 4000000 in
theorem still_any (R : Rep) (a1 a2 a3 b1 b2 b3 : Option Addr) (g1 g2 g3 k1 k2 k3 : Nat) (w : World) (hA : Has w R a1 a2 a3) (hH : Handed w R b1 b2 b3 g1 g2 g3) :
    Calls Tryz.prog 9 #[repV R b1 b2 b3 (R.n1 + 2) (R.n2 + 2) (R.n3 + 2), repV R a1 a2 a3 k1 k2 k3] w fun e w' => e = .returned (.bool true) ∧ Below w.heap.size w w' := by
  have y1 := hA.b1; have y2 := hA.b2; have y3 := hA.b3
  have u1 : (0 : Int) ≤ (R.n1 : Int) + 2 := by omega
  have u3 : (0 : Int) ≤ (R.n2 : Int) + 2 := by omega
  have u5 : (0 : Int) ≤ (R.n3 : Int) + 2 := by omega
  have hb0 : BoxS w R b1 b2 b3 a1 a2 a3 (R.n1 + 2) (R.n2 + 2) (R.n3 + 2) k1 k2 k3 ((w.alloc (.cells #[.slice b1 R.n1 (R.n1 + 2), .slice b2 R.n2 (R.n2 + 2), .slice b3 R.n3 (R.n3 + 2)] 27)).alloc (.cells #[.slice a1 R.n1 k1, .slice a2 R.n2 k2, .slice a3 R.n3 k3] 27)) := Below.refl _ _
  go_enter Tryz.func9, Tryz.ntmps9
  go_wp2_with fail
  refine (sameReplica_any R b1 b2 b3 a1 a2 a3 _ _ _ _ _ _ _ ((hH.has hA).below hb0.old) (hA.below hb0.old)).mono ?_
  rintro e w1 ⟨rfl, h1⟩
  have hb1 := boxS_step hb0 h1
  clear h1 hb0
  obtain ⟨⟨x1, x2, x3⟩, z1, z2, z3⟩ := hb1.cells
  go_wp2_with fail
  go_loop [9] (fun v => ∃ i : Nat, i ≤ 2 ∧ v = .int .i64 i) (fun v => 2 - (intOf v).toNat)
  case atStart => exact ⟨0, by omega, rfl⟩
  case round =>
    obtain ⟨i, hi, rfl⟩ := hrel
    have hH1 := hH.below hb1.old
    by_cases hlt : i < 2
    · have e1 : Hid (b1 = some ⟨g1, 0, none⟩) := hH.e1
      have e2 : Hid (b2 = some ⟨g2, 0, none⟩) := hH.e2
      have e3 : Hid (b3 = some ⟨g3, 0, none⟩) := hH.e3
      have v1 := fun w' => Own.idx e1 (P := Tryz.prog) (t := 23) (m := 2) (R.n1 + 2) (R.n1 + 2) (by kernel_rfl) (by kernel_rfl) (k := R.n1 + i) (by omega) ((R.n1 : Int) + (i : Int)) (by omega) w'
      have v2 := fun w' => Own.idx e2 (P := Tryz.prog) (t := 24) (m := 5) (R.n2 + 2) (R.n2 + 2) (by kernel_rfl) (by kernel_rfl) (k := R.n2 + i) (by omega) ((R.n2 : Int) + (i : Int)) (by omega) w'
      have v3 := fun w' => Own.idx e3 (P := Tryz.prog) (t := 25) (m := 2) (R.n3 + 2) (R.n3 + 2) (by kernel_rfl) (by kernel_rfl) (k := R.n3 + i) (by omega) ((R.n3 : Int) + (i : Int)) (by omega) w'
      have c1 := hH1.o1.mark hlt (by omega) (v := .int .i64 (-7)) rfl
      have c2 := hH1.o2.mark hlt (by omega) (v := .int .i64 (-7)) rfl
      have c3 := hH1.o3.mark hlt (by omega) (v := .int .i64 (-7)) rfl
      go_wp2_with fail
      go_round
      case rel => exact ⟨i + 1, by omega, by go_num⟩
      case measure => simp [intOf]; omega
    · go_wp2_with fail
      go_ret
      exact ⟨rfl, hb1.old⟩
end Go.Proofs.YtdjpkgaicmklmaaGreat

/- parcelref.numbered, walked. -/
namespace Go.Proofs.YtdjpkgaicmklmaaGreat
open Go.RowKit

set_option maxHeartbeats 4000000 in
theorem numbered_any (R : Rep) (a1 a2 a3 : Option Addr) (k1 k2 k3 : Nat) (w : World) (hR : Has w R a1 a2 a3) :
    Calls Tryz.prog 28 #[repV R a1 a2 a3 k1 k2 k3] w fun e w' => e = .returned (.bool (!R.numB)) ∧ Below w.heap.size w w' := by
  have b1 := hR.b1; have b2 := hR.b2; have b3 := hR.b3
  go_enter Tryz.func28, Tryz.ntmps28
  go_wp2
  go_loopw [3, 4] (fun v i wr => ∃ (k : Nat) (x : Bool), k ≤ R.n1 ∧ i = .int .i64 k ∧ v = .bool x ∧ (x = !anyTo R.num1 k) ∧ BoxR w R a1 a2 a3 k1 k2 k3 wr) (fun _ i _ => R.n1 - (intOf i).toNat)
  case atStart => exact ⟨0, true, Nat.zero_le _, rfl, rfl, rfl, Below.refl _ _⟩
  case round =>
    obtain ⟨k, x, hk, rfl, rfl, hx, hb⟩ := hrel
    obtain ⟨x1, x2, x3⟩ := box3 hb
    have HX : Hid (x = !anyTo R.num1 k) := hx
    clear hx
    by_cases hlt : k < R.n1
    · obtain ⟨b, o, hbl, hix, hs, hc⟩ := (hR.below (below_box hb)).l1.clock k1 hlt
      go_wp2_with (go_at_call 61; refine (within_out _ _ _).mono ?_; rintro e w' ⟨rfl, rfl⟩)
      all_goals
        go_roundw
        case rel =>
          refine ⟨k + 1, _, by omega, by go_num, rfl, ?_, hb⟩
          have h := HX.out
          simp only [anyTo, Rep.num1, scB]
          revert h
          simp [*]
          try (cases anyTo R.num1 k <;> simp [*])
        case measure => simp [intOf]; omega
    · have e1 : k = R.n1 := by omega
      have N1 : Hid (x = !anyTo R.num1 R.n1) := e1 ▸ HX.out
      clear HX e1
      go_wp2
      go_loopw [3, 7] (fun v i wr => ∃ (k : Nat) (x : Bool), k ≤ R.n2 ∧ i = .int .i64 k ∧ v = .bool x ∧ (x = !(anyTo R.num1 R.n1 || anyTo R.num2 k)) ∧ BoxR w R a1 a2 a3 k1 k2 k3 wr) (fun _ i _ => R.n2 - (intOf i).toNat)
      case atStart => exact ⟨0, x, Nat.zero_le _, rfl, rfl, by rw [N1.out]; simp [anyTo], hb⟩
      case round =>
        clear x1 x2 x3 hb hk hlt N1
        obtain ⟨k, x, hk, rfl, rfl, hx, hb⟩ := hrel
        obtain ⟨x1, x2, x3⟩ := box3 hb
        have HX : Hid (x = !(anyTo R.num1 R.n1 || anyTo R.num2 k)) := hx
        clear hx
        by_cases hlt : k < R.n2
        · obtain ⟨b, o, hbl, hix, hi, hs, hc, -, -⟩ := (hR.below (below_box hb)).l2.card k2 hlt
          go_wp2_with (go_at_call 61; refine (within_out _ _ _).mono ?_; rintro e w' ⟨rfl, rfl⟩)
          all_goals
            go_roundw
            case rel =>
              refine ⟨k + 1, _, by omega, by go_num, rfl, ?_, hb⟩
              have h := HX.out
              simp only [anyTo, Rep.num2, scB]
              revert h
              simp [*]
              try (cases anyTo R.num1 R.n1 <;> cases anyTo R.num2 k <;> simp [*])
            case measure => simp [intOf]; omega
        · have e1 : k = R.n2 := by omega
          have N1 : Hid (x = !(anyTo R.num1 R.n1 || anyTo R.num2 R.n2)) := e1 ▸ HX.out
          clear HX e1
          go_wp2
          go_loopw [3, 11] (fun v i wr => ∃ (k : Nat) (x : Bool), k ≤ R.n3 ∧ i = .int .i64 k ∧ v = .bool x ∧ (x = !(anyTo R.num1 R.n1 || (anyTo R.num2 R.n2 || anyTo R.num3 k))) ∧ BoxR w R a1 a2 a3 k1 k2 k3 wr) (fun _ i _ => R.n3 - (intOf i).toNat)
          case atStart => exact ⟨0, x, Nat.zero_le _, rfl, rfl, by rw [N1.out]; simp [anyTo], hb⟩
          case round =>
            clear x1 x2 x3 hb hk hlt N1
            obtain ⟨k, x, hk, rfl, rfl, hx, hb⟩ := hrel
            obtain ⟨x1, x2, x3⟩ := box3 hb
            have HX : Hid (x = !(anyTo R.num1 R.n1 || (anyTo R.num2 R.n2 || anyTo R.num3 k))) := hx
            clear hx
            by_cases hlt : k < R.n3
            · obtain ⟨b, o, hbl, hix, hi, -⟩ := (hR.below (below_box hb)).l3.edit k3 hlt
              go_wp2_with (go_at_call 61; refine (within_out _ _ _).mono ?_; rintro e w' ⟨rfl, rfl⟩)
              all_goals
                go_roundw
                case rel =>
                  refine ⟨k + 1, _, by omega, by go_num, rfl, ?_, hb⟩
                  have h := HX.out
                  simp only [anyTo, Rep.num3]
                  revert h
                  simp [*]
                  try (cases anyTo R.num1 R.n1 <;> cases anyTo R.num2 R.n2 <;> cases anyTo R.num3 k <;> simp [*])
                case measure => simp [intOf]; omega
            · have e1 : k = R.n3 := by omega
              have N1 : Hid (x = !(anyTo R.num1 R.n1 || (anyTo R.num2 R.n2 || anyTo R.num3 R.n3))) := e1 ▸ HX.out
              clear HX e1
              go_wp2
              go_ret
              exact ⟨ret_bool N1.out, below_box hb⟩
end Go.Proofs.YtdjpkgaicmklmaaGreat

/- parcelref.texted, walked. -/
namespace Go.Proofs.YtdjpkgaicmklmaaGreat
open Go.RowKit

set_option maxHeartbeats 2000000 in
theorem texted_any (R : Rep) (a1 a2 a3 : Option Addr) (k1 k2 k3 : Nat) (w : World) (hR : Has w R a1 a2 a3) :
    Calls Tryz.prog 29 #[repV R a1 a2 a3 k1 k2 k3] w fun e w' => e = .returned (.bool (!R.txtB)) ∧ Below w.heap.size w w' := by
  have b1 := hR.b1; have b2 := hR.b2; have b3 := hR.b3
  go_enter Tryz.func29, Tryz.ntmps29
  go_wp2
  go_loopw [3] (fun i wr => ∃ k : Nat, k ≤ R.n2 ∧ i = .int .i64 k ∧ anyTo R.txt2 k = false ∧ BoxR w R a1 a2 a3 k1 k2 k3 wr) (fun i _ => R.n2 - (intOf i).toNat)
  case atStart => exact ⟨0, Nat.zero_le _, rfl, rfl, Below.refl _ _⟩
  case round =>
    obtain ⟨k, hk, rfl, hno, hb⟩ := hrel
    obtain ⟨x1, x2, x3⟩ := box3 hb
    have HN : Hid (anyTo R.txt2 k = false) := hno
    clear hno
    by_cases hlt : k < R.n2
    · obtain ⟨b, o, hbl, hix, -, -, -, hg, ht⟩ := (hR.below (below_box hb)).l2.card k2 hlt
      go_wp2
      · have h1 : ((R.d k).text.size : Int) ≤ 60 := by assumption
        have h2 : (R.d k).gone = true := by assumption
        have h3 : 60 < ((R.d k).text.size : Int) ∨ (!(R.d k).text.toList.isEmpty) = true := by assumption
        have h4 : (!(R.d k).text.toList.isEmpty) = true := by rcases h3 with h | h; (omega); exact h
        have hp : R.txt2 k = true := by unfold Rep.txt2; simp only [h2, h4]; simp
        go_ret
        exact ⟨ret_bool (by simp [Rep.txtB, anyTo_hit hlt hp]), below_box hb⟩
      · have h1 : ((R.d k).text.size : Int) ≤ 60 := by assumption
        have h3 : ((R.d k).text.size : Int) ≤ 60 ∧ (!(R.d k).text.toList.isEmpty) = false := by assumption
        have hp : R.txt2 k = false := by unfold Rep.txt2 longB; simp only [h3.2]; simp; omega
        go_roundw
        case rel => exact ⟨k + 1, by omega, by go_num, anyTo_no HN.out hp, hb⟩
        case measure => simp [intOf]; omega
      · have h1 : ((R.d k).text.size : Int) ≤ 60 := by assumption
        have h2 : ¬ (R.d k).gone = true := by assumption
        have hp : R.txt2 k = false := by unfold Rep.txt2 longB; simp [h2]; omega
        go_roundw
        case rel => exact ⟨k + 1, by omega, by go_num, anyTo_no HN.out hp, hb⟩
        case measure => simp [intOf]; omega
      · have hp : R.txt2 k = true := by unfold Rep.txt2 longB; simp [‹(60 : Int) < ((R.d k).text.size : Int)›]
        go_ret
        exact ⟨ret_bool (by simp [Rep.txtB, anyTo_hit hlt hp]), below_box hb⟩
    · have e1 : k = R.n2 := by omega
      have N1 : Hid (anyTo R.txt2 R.n2 = false) := e1 ▸ HN.out
      clear HN e1
      go_wp2
      go_loopw [4] (fun i wr => ∃ k : Nat, k ≤ R.n3 ∧ i = .int .i64 k ∧ anyTo R.txt3 k = false ∧ BoxR w R a1 a2 a3 k1 k2 k3 wr) (fun i _ => R.n3 - (intOf i).toNat)
      case atStart => exact ⟨0, Nat.zero_le _, rfl, rfl, hb⟩
      case round =>
        clear x1 x2 x3 hb hk
        obtain ⟨k, hk, rfl, hno, hb⟩ := hrel
        obtain ⟨x1, x2, x3⟩ := box3 hb
        have HN : Hid (anyTo R.txt3 k = false) := hno
        clear hno
        by_cases hlt : k < R.n3
        · obtain ⟨b, o, hbl, hix, -, ht⟩ := (hR.below (below_box hb)).l3.edit k3 hlt
          go_wp2
          · have hp : R.txt3 k = true := by unfold Rep.txt3 longB; simp [‹(60 : Int) < ((R.e k).text.size : Int)›]
            go_ret
            exact ⟨ret_bool (by simp [Rep.txtB, anyTo_hit hlt hp]), below_box hb⟩
          · have hp : R.txt3 k = false := by
              have h1 : ((R.e k).text.size : Int) ≤ 60 := by assumption
              unfold Rep.txt3 longB; simp; omega
            go_roundw
            case rel => exact ⟨k + 1, by omega, by go_num, anyTo_no HN.out hp, hb⟩
            case measure => simp [intOf]; omega
        · have e1 : k = R.n3 := by omega
          have N2 : Hid (anyTo R.txt3 R.n3 = false) := e1 ▸ HN.out
          clear HN e1
          go_wp2
          go_ret
          exact ⟨ret_bool (by simp [Rep.txtB, N1.out, N2.out]), below_box hb⟩


end Go.Proofs.YtdjpkgaicmklmaaGreat

/- parcelref.rising, walked. -/
namespace Go.Proofs.YtdjpkgaicmklmaaGreat
open Go.RowKit

set_option maxHeartbeats 2000000 in
theorem rising_any (R : Rep) (a1 a2 a3 : Option Addr) (k1 k2 k3 : Nat) (w : World) (hR : Has w R a1 a2 a3) :
    Calls Tryz.prog 30 #[repV R a1 a2 a3 k1 k2 k3] w fun e w' => e = .returned (.bool (!R.risB)) ∧ Below w.heap.size w w' := by
  have b1 := hR.b1; have b2 := hR.b2; have b3 := hR.b3
  go_enter Tryz.func30, Tryz.ntmps30
  go_wp2
  go_loopw [3] (fun i wr => ∃ k : Nat, k ≤ R.n1 - 1 ∧ i = .int .i64 ((k : Int) + 1) ∧ anyTo R.ris1 k = false ∧ BoxR w R a1 a2 a3 k1 k2 k3 wr) (fun i _ => R.n1 - (intOf i).toNat)
  case atStart => exact ⟨0, Nat.zero_le _, rfl, rfl, Below.refl _ _⟩
  case round =>
    obtain ⟨k, hk, rfl, hno, hb⟩ := hrel
    obtain ⟨x1, x2, x3⟩ := box3 hb
    have HN : Hid (anyTo R.ris1 k = false) := hno
    clear hno
    by_cases hlt : k + 1 < R.n1
    · obtain ⟨b, o, hbl, hix, hs, -⟩ := (hR.below (below_box hb)).l1.clock k1 (show k < R.n1 by omega)
      obtain ⟨b', o', hbl', hix', hs', -⟩ := (hR.below (below_box hb)).l1.clock k1 hlt
      rw [show ((k + 1 : Nat) : Int) = (k : Int) + 1 from by omega] at hix'
      go_wp2
      go_quiet (fail)
      go_wp2
      · have hp : R.ris1 k = true := by unfold Rep.ris1; simp [‹(R.c (k + 1)).site ≤ (R.c k).site›]
        go_ret
        exact ⟨ret_bool (by simp [Rep.risB, anyTo_hit (show k < R.n1 - 1 by omega) hp]), below_drewN (below_box hb) _⟩
      · have hp : R.ris1 k = false := by
          have h1 : (R.c k).site < (R.c (k + 1)).site := by assumption
          unfold Rep.ris1; simp; omega
        go_roundw
        case rel => exact ⟨k + 1, by omega, by go_num, anyTo_no HN.out hp, below_drewN hb _⟩
        case measure => simp [intOf]; omega
    · have e1 : k = R.n1 - 1 := by omega
      have N1 : Hid (anyTo R.ris1 (R.n1 - 1) = false) := e1 ▸ HN.out
      clear HN e1
      go_wp2
      go_loopw [4] (fun i wr => ∃ k : Nat, k ≤ R.n2 - 1 ∧ i = .int .i64 ((k : Int) + 1) ∧ anyTo R.ris2 k = false ∧ BoxR w R a1 a2 a3 k1 k2 k3 wr) (fun i _ => R.n2 - (intOf i).toNat)
      case atStart => exact ⟨0, Nat.zero_le _, rfl, rfl, hb⟩
      case round =>
        clear x1 x2 x3 hb hk hlt
        obtain ⟨k, hk, rfl, hno, hb⟩ := hrel
        obtain ⟨x1, x2, x3⟩ := box3 hb
        have HN : Hid (anyTo R.ris2 k = false) := hno
        clear hno
        by_cases hlt : k + 1 < R.n2
        · obtain ⟨b, o, hbl, hix, hs, -, -, -, -⟩ := (hR.below (below_box hb)).l2.card k2 (show k < R.n2 by omega)
          obtain ⟨b', o', hbl', hix', hs', -, -, -, -⟩ := (hR.below (below_box hb)).l2.card k2 hlt
          rw [show ((k + 1 : Nat) : Int) = (k : Int) + 1 from by omega] at hix'
          go_wp2
          go_quiet (fail)
          go_wp2
          · have hp : R.ris2 k = true := by unfold Rep.ris2; simp [‹(R.d (k + 1)).id ≤ (R.d k).id›]
            go_ret
            exact ⟨ret_bool (by simp [Rep.risB, anyTo_hit (show k < R.n2 - 1 by omega) hp]), below_drewN (below_box hb) _⟩
          · have hp : R.ris2 k = false := by
              have h1 : (R.d k).id < (R.d (k + 1)).id := by assumption
              unfold Rep.ris2; simp; omega
            go_roundw
            case rel => exact ⟨k + 1, by omega, by go_num, anyTo_no HN.out hp, below_drewN hb _⟩
            case measure => simp [intOf]; omega
        · have e1 : k = R.n2 - 1 := by omega
          have N2 : Hid (anyTo R.ris2 (R.n2 - 1) = false) := e1 ▸ HN.out
          clear HN e1
          go_wp2
          go_ret
          exact ⟨ret_bool (by simp [Rep.risB, N1.out, N2.out]), below_box hb⟩

end Go.Proofs.YtdjpkgaicmklmaaGreat

/- parcelref.Clocked, walked. -/
namespace Go.Proofs.YtdjpkgaicmklmaaGreat
open Go.RowKit

set_option maxHeartbeats 1000000 in
theorem clocked_any (R : Rep) (a1 a2 a3 : Option Addr) (k1 k2 k3 : Nat) (site : Int) (w : World) (hR : Has w R a1 a2 a3) :
    Calls Tryz.prog 16 #[repV R a1 a2 a3 k1 k2 k3, .int .i64 site] w fun e w' => e = .returned (.int .i64 (R.clk site)) ∧ Below w.heap.size w w' := by
  have b1 := hR.b1; have b2 := hR.b2; have b3 := hR.b3
  go_enter Tryz.func16, Tryz.ntmps16
  go_wp2
  go_loopw [5] (fun i wr => ∃ k : Nat, k ≤ R.n1 ∧ i = .int .i64 k ∧ clockTo R.c site k = none ∧ BoxR w R a1 a2 a3 k1 k2 k3 wr) (fun i _ => R.n1 - (intOf i).toNat)
  case atStart => exact ⟨0, Nat.zero_le _, rfl, rfl, Below.refl _ _⟩
  case round =>
    obtain ⟨k, hk, rfl, hno, hb⟩ := hrel
    obtain ⟨x1, x2, x3⟩ := box3 hb
    have HN : Hid (clockTo R.c site k = none) := hno
    clear hno
    by_cases hlt : k < R.n1
    · obtain ⟨b, o, hbl, hix, hs, hc⟩ := (hR.below (below_box hb)).l1.clock k1 hlt
      go_wp2
      · have hp : (R.c k).site = site := by simpa using ‹((R.c k).site == site) = true›
        go_ret
        exact ⟨ret_int (by unfold Rep.clk; rw [clockTo_hit hlt HN.out hp]; rfl), below_box hb⟩
      · have hp : ¬ (R.c k).site = site := by simpa using ‹((R.c k).site == site) = false›
        go_roundw
        case rel => exact ⟨k + 1, by omega, by go_num, clockTo_no HN.out hp, hb⟩
        case measure => simp [intOf]; omega
    · have e1 : k = R.n1 := by omega
      have N1 : Hid (clockTo R.c site R.n1 = none) := e1 ▸ HN.out
      clear HN e1
      go_wp2
      go_ret
      exact ⟨ret_int (by unfold Rep.clk; rw [N1.out]; rfl), below_box hb⟩
end Go.Proofs.YtdjpkgaicmklmaaGreat

/- sound.wrongNumber, walked. -/
namespace Go.Proofs.YtdjpkgaicmklmaaGreat
open Go.RowKit

set_option maxHeartbeats 2000000 in
theorem wrongNumber_any (R : Rep) (a1 a2 a3 : Option Addr) (k1 k2 k3 : Nat) (w : World) (hR : Has w R a1 a2 a3) :
    Calls Tryz.prog 45 #[repV R a1 a2 a3 k1 k2 k3] w fun e w' => e = .returned (.bool R.numB) ∧ Below w.heap.size w w' := by
  have b1 := hR.b1; have b2 := hR.b2; have b3 := hR.b3
  go_enter Tryz.func45, Tryz.ntmps45
  go_wp2
  go_loopw [3] (fun i wr => ∃ k : Nat, k ≤ R.n1 ∧ i = .int .i64 k ∧ anyTo R.num1 k = false ∧ BoxR w R a1 a2 a3 k1 k2 k3 wr) (fun i _ => R.n1 - (intOf i).toNat)
  case atStart => exact ⟨0, Nat.zero_le _, rfl, rfl, Below.refl _ _⟩
  case round =>
    obtain ⟨k, hk, rfl, hno, hb⟩ := hrel
    obtain ⟨x1, x2, x3⟩ := box3 hb
    have HN : Hid (anyTo R.num1 k = false) := hno
    clear hno
    by_cases hlt : k < R.n1
    · obtain ⟨b, o, hbl, hix, hs, hc⟩ := (hR.below (below_box hb)).l1.clock k1 hlt
      go_wp2
      go_quiet ((go_at_call 70; exact Calls.quiet_of_same (wrongSiteOrCount_any _ _ _)))
      go_wp2
      · have hp : R.num1 k = true := by unfold Rep.num1; assumption
        go_ret
        exact ⟨ret_bool (by simp [Rep.numB, anyTo_hit hlt hp]), below_drewN (below_box hb) _⟩
      · have hp : R.num1 k = false := by unfold Rep.num1; assumption
        go_roundw
        case rel => exact ⟨k + 1, by omega, by go_num, anyTo_no HN.out hp, below_drewN hb _⟩
        case measure => simp [intOf]; omega
    · have e1 : k = R.n1 := by omega
      have N1 : Hid (anyTo R.num1 R.n1 = false) := e1 ▸ HN.out
      clear HN e1
      go_wp2
      go_loopw [4] (fun i wr => ∃ k : Nat, k ≤ R.n2 ∧ i = .int .i64 k ∧ anyTo R.num2 k = false ∧ BoxR w R a1 a2 a3 k1 k2 k3 wr) (fun i _ => R.n2 - (intOf i).toNat)
      case atStart => exact ⟨0, Nat.zero_le _, rfl, rfl, hb⟩
      case round =>
        clear x1 x2 x3 hb hk
        obtain ⟨k, hk, rfl, hno, hb⟩ := hrel
        obtain ⟨x1, x2, x3⟩ := box3 hb
        have HN : Hid (anyTo R.num2 k = false) := hno
        clear hno
        by_cases hlt : k < R.n2
        · obtain ⟨b, o, hbl, hix, hi, hs, hc, -, -⟩ := (hR.below (below_box hb)).l2.card k2 hlt
          go_wp2
          go_quiet ((go_at_call 70; exact Calls.quiet_of_same (wrongSiteOrCount_any _ _ _)))
          go_wp2_with (go_at_call 71; refine (outOfRange_any _ _ _).mono ?_; rintro e w' ⟨rfl, rfl⟩)
          · have hp : R.num2 k = true := by unfold Rep.num2; simp [*]
            go_ret
            exact ⟨ret_bool (by simp [Rep.numB, anyTo_hit hlt hp]), below_drewN (below_box hb) _⟩
          · have hp : R.num2 k = true := by unfold Rep.num2; simp [*]
            go_ret
            exact ⟨ret_bool (by simp [Rep.numB, anyTo_hit hlt hp]), below_drewN (below_box hb) _⟩
          · have hp : R.num2 k = false := by unfold Rep.num2; simp [*]
            go_roundw
            case rel => exact ⟨k + 1, by omega, by go_num, anyTo_no HN.out hp, below_drewN hb _⟩
            case measure => simp [intOf]; omega
        · have e1 : k = R.n2 := by omega
          have N2 : Hid (anyTo R.num2 R.n2 = false) := e1 ▸ HN.out
          clear HN e1
          go_wp2
          go_loopw [5] (fun i wr => ∃ k : Nat, k ≤ R.n3 ∧ i = .int .i64 k ∧ anyTo R.num3 k = false ∧ BoxR w R a1 a2 a3 k1 k2 k3 wr) (fun i _ => R.n3 - (intOf i).toNat)
          case atStart => exact ⟨0, Nat.zero_le _, rfl, rfl, hb⟩
          case round =>
            clear x1 x2 x3 hb hk
            obtain ⟨k, hk, rfl, hno, hb⟩ := hrel
            obtain ⟨x1, x2, x3⟩ := box3 hb
            have HN : Hid (anyTo R.num3 k = false) := hno
            clear hno
            by_cases hlt : k < R.n3
            · obtain ⟨b, o, hbl, hix, hi, -⟩ := (hR.below (below_box hb)).l3.edit k3 hlt
              go_wp2_with (go_at_call 71; refine (outOfRange_any _ _ _).mono ?_; rintro e w' ⟨rfl, rfl⟩)
              · have hp : R.num3 k = true := by unfold Rep.num3; assumption
                go_ret
                exact ⟨ret_bool (by simp [Rep.numB, anyTo_hit hlt hp]), below_box hb⟩
              · have hp : R.num3 k = false := by unfold Rep.num3; assumption
                go_roundw
                case rel => exact ⟨k + 1, by omega, by go_num, anyTo_no HN.out hp, hb⟩
                case measure => simp [intOf]; omega
            · have e1 : k = R.n3 := by omega
              have N3 : Hid (anyTo R.num3 R.n3 = false) := e1 ▸ HN.out
              clear HN e1
              go_wp2
              go_ret
              exact ⟨ret_bool (by simp [Rep.numB, N1.out, N2.out, N3.out]), below_box hb⟩


end Go.Proofs.YtdjpkgaicmklmaaGreat

/- sound.wrongText, walked. -/
namespace Go.Proofs.YtdjpkgaicmklmaaGreat
open Go.RowKit

set_option maxHeartbeats 2000000 in
theorem wrongText_any (R : Rep) (a1 a2 a3 : Option Addr) (k1 k2 k3 : Nat) (w : World) (hR : Has w R a1 a2 a3) :
    Calls Tryz.prog 46 #[repV R a1 a2 a3 k1 k2 k3] w fun e w' => e = .returned (.bool R.txtB) ∧ Below w.heap.size w w' := by
  have b1 := hR.b1; have b2 := hR.b2; have b3 := hR.b3
  go_enter Tryz.func46, Tryz.ntmps46
  go_wp2
  go_loopw [3] (fun i wr => ∃ k : Nat, k ≤ R.n2 ∧ i = .int .i64 k ∧ anyTo R.txt2 k = false ∧ BoxR w R a1 a2 a3 k1 k2 k3 wr) (fun i _ => R.n2 - (intOf i).toNat)
  case atStart => exact ⟨0, Nat.zero_le _, rfl, rfl, Below.refl _ _⟩
  case round =>
    obtain ⟨k, hk, rfl, hno, hb⟩ := hrel
    obtain ⟨x1, x2, x3⟩ := box3 hb
    have HN : Hid (anyTo R.txt2 k = false) := hno
    clear hno
    by_cases hlt : k < R.n2
    · obtain ⟨b, o, hbl, hix, -, -, -, hg, ht⟩ := (hR.below (below_box hb)).l2.card k2 hlt
      go_wp2
      · have hp : R.txt2 k = true := by unfold Rep.txt2 longB; simp [‹(60 : Int) < ((R.d k).text.size : Int)›]
        go_ret
        exact ⟨ret_bool (by simp [Rep.txtB, anyTo_hit hlt hp]), below_box hb⟩
      · have hp : R.txt2 k = true := by unfold Rep.txt2; simp only [‹(R.d k).gone = true›, ‹(!(R.d k).text.toList.isEmpty) = true›]; simp
        go_ret
        exact ⟨ret_bool (by simp [Rep.txtB, anyTo_hit hlt hp]), below_box hb⟩
      · have hp : R.txt2 k = false := by
          have h1 : ((R.d k).text.size : Int) ≤ 60 := by assumption
          unfold Rep.txt2 longB; simp only [‹(!(R.d k).text.toList.isEmpty) = false›]; simp; omega
        go_roundw
        case rel => exact ⟨k + 1, by omega, by go_num, anyTo_no HN.out hp, hb⟩
        case measure => simp [intOf]; omega
      · have hp : R.txt2 k = false := by
          have h1 : ((R.d k).text.size : Int) ≤ 60 := by assumption
          have h2 : ¬ (R.d k).gone = true := by assumption
          unfold Rep.txt2 longB; simp [h2]; omega
        go_roundw
        case rel => exact ⟨k + 1, by omega, by go_num, anyTo_no HN.out hp, hb⟩
        case measure => simp [intOf]; omega
    · have e1 : k = R.n2 := by omega
      have N1 : Hid (anyTo R.txt2 R.n2 = false) := e1 ▸ HN.out
      clear HN e1
      go_wp2
      go_loopw [4] (fun i wr => ∃ k : Nat, k ≤ R.n3 ∧ i = .int .i64 k ∧ anyTo R.txt3 k = false ∧ BoxR w R a1 a2 a3 k1 k2 k3 wr) (fun i _ => R.n3 - (intOf i).toNat)
      case atStart => exact ⟨0, Nat.zero_le _, rfl, rfl, hb⟩
      case round =>
        clear x1 x2 x3 hb hk
        obtain ⟨k, hk, rfl, hno, hb⟩ := hrel
        obtain ⟨x1, x2, x3⟩ := box3 hb
        have HN : Hid (anyTo R.txt3 k = false) := hno
        clear hno
        by_cases hlt : k < R.n3
        · obtain ⟨b, o, hbl, hix, -, ht⟩ := (hR.below (below_box hb)).l3.edit k3 hlt
          go_wp2
          · have hp : R.txt3 k = true := by unfold Rep.txt3 longB; simp [‹(60 : Int) < ((R.e k).text.size : Int)›]
            go_ret
            exact ⟨ret_bool (by simp [Rep.txtB, anyTo_hit hlt hp]), below_box hb⟩
          · have hp : R.txt3 k = false := by
              have h1 : ((R.e k).text.size : Int) ≤ 60 := by assumption
              unfold Rep.txt3 longB; simp; omega
            go_roundw
            case rel => exact ⟨k + 1, by omega, by go_num, anyTo_no HN.out hp, hb⟩
            case measure => simp [intOf]; omega
        · have e1 : k = R.n3 := by omega
          have N2 : Hid (anyTo R.txt3 R.n3 = false) := e1 ▸ HN.out
          clear HN e1
          go_wp2
          go_ret
          exact ⟨ret_bool (by simp [Rep.txtB, N1.out, N2.out]), below_box hb⟩


end Go.Proofs.YtdjpkgaicmklmaaGreat

/- sound.notRising, walked. -/
namespace Go.Proofs.YtdjpkgaicmklmaaGreat
open Go.RowKit

set_option maxHeartbeats 2000000 in
theorem notRising_any (R : Rep) (a1 a2 a3 : Option Addr) (k1 k2 k3 : Nat) (w : World) (hR : Has w R a1 a2 a3) :
    Calls Tryz.prog 47 #[repV R a1 a2 a3 k1 k2 k3] w fun e w' => e = .returned (.bool R.risB) ∧ Below w.heap.size w w' := by
  have b1 := hR.b1; have b2 := hR.b2; have b3 := hR.b3
  go_enter Tryz.func47, Tryz.ntmps47
  go_wp2
  go_loopw [3] (fun i wr => ∃ k : Nat, k ≤ R.n1 - 1 ∧ i = .int .i64 ((k : Int) + 1) ∧ anyTo R.ris1 k = false ∧ BoxR w R a1 a2 a3 k1 k2 k3 wr) (fun i _ => R.n1 - (intOf i).toNat)
  case atStart => exact ⟨0, Nat.zero_le _, rfl, rfl, Below.refl _ _⟩
  case round =>
    obtain ⟨k, hk, rfl, hno, hb⟩ := hrel
    obtain ⟨x1, x2, x3⟩ := box3 hb
    have HN : Hid (anyTo R.ris1 k = false) := hno
    clear hno
    by_cases hlt : k + 1 < R.n1
    · obtain ⟨b, o, hbl, hix, hs, -⟩ := (hR.below (below_box hb)).l1.clock k1 (show k < R.n1 by omega)
      obtain ⟨b', o', hbl', hix', hs', -⟩ := (hR.below (below_box hb)).l1.clock k1 hlt
      rw [show ((k + 1 : Nat) : Int) = (k : Int) + 1 from by omega] at hix'
      go_wp2
      go_quiet (fail)
      go_wp2
      · have hp : R.ris1 k = true := by unfold Rep.ris1; simp [‹(R.c (k + 1)).site ≤ (R.c k).site›]
        go_ret
        exact ⟨ret_bool (by simp [Rep.risB, anyTo_hit (show k < R.n1 - 1 by omega) hp]), below_drewN (below_box hb) _⟩
      · have hp : R.ris1 k = false := by
          have h1 : (R.c k).site < (R.c (k + 1)).site := by assumption
          unfold Rep.ris1; simp; omega
        go_roundw
        case rel => exact ⟨k + 1, by omega, by go_num, anyTo_no HN.out hp, below_drewN hb _⟩
        case measure => simp [intOf]; omega
    · have e1 : k = R.n1 - 1 := by omega
      have N1 : Hid (anyTo R.ris1 (R.n1 - 1) = false) := e1 ▸ HN.out
      clear HN e1
      go_wp2
      go_loopw [4] (fun i wr => ∃ k : Nat, k ≤ R.n2 - 1 ∧ i = .int .i64 ((k : Int) + 1) ∧ anyTo R.ris2 k = false ∧ BoxR w R a1 a2 a3 k1 k2 k3 wr) (fun i _ => R.n2 - (intOf i).toNat)
      case atStart => exact ⟨0, Nat.zero_le _, rfl, rfl, hb⟩
      case round =>
        clear x1 x2 x3 hb hk hlt
        obtain ⟨k, hk, rfl, hno, hb⟩ := hrel
        obtain ⟨x1, x2, x3⟩ := box3 hb
        have HN : Hid (anyTo R.ris2 k = false) := hno
        clear hno
        by_cases hlt : k + 1 < R.n2
        · obtain ⟨b, o, hbl, hix, hs, -, -, -, -⟩ := (hR.below (below_box hb)).l2.card k2 (show k < R.n2 by omega)
          obtain ⟨b', o', hbl', hix', hs', -, -, -, -⟩ := (hR.below (below_box hb)).l2.card k2 hlt
          rw [show ((k + 1 : Nat) : Int) = (k : Int) + 1 from by omega] at hix'
          go_wp2
          go_quiet (fail)
          go_wp2
          · have hp : R.ris2 k = true := by unfold Rep.ris2; simp [‹(R.d (k + 1)).id ≤ (R.d k).id›]
            go_ret
            exact ⟨ret_bool (by simp [Rep.risB, anyTo_hit (show k < R.n2 - 1 by omega) hp]), below_drewN (below_box hb) _⟩
          · have hp : R.ris2 k = false := by
              have h1 : (R.d k).id < (R.d (k + 1)).id := by assumption
              unfold Rep.ris2; simp; omega
            go_roundw
            case rel => exact ⟨k + 1, by omega, by go_num, anyTo_no HN.out hp, below_drewN hb _⟩
            case measure => simp [intOf]; omega
        · have e1 : k = R.n2 - 1 := by omega
          have N2 : Hid (anyTo R.ris2 (R.n2 - 1) = false) := e1 ▸ HN.out
          clear HN e1
          go_wp2
          go_ret
          exact ⟨ret_bool (by simp [Rep.risB, N1.out, N2.out]), below_box hb⟩

end Go.Proofs.YtdjpkgaicmklmaaGreat

/- replicas.CountOf and sound.uncovered, walked. -/
namespace Go.Proofs.YtdjpkgaicmklmaaGreat
open Go.RowKit

set_option maxHeartbeats 1000000 in
theorem countOf_any (a : Option Addr) (n cap : Nat) (c : Nat → Ck) (site : Int) (w : World) (hn : n ≤ 140737488355328) (hL : Lies w a n 2 (fun i => (c i).cells)) :
    Calls Tryz.prog 50 #[.slice a n cap, .int .i64 site] w fun e w' => e = .returned (.int .i64 ((clockTo c site n).getD 0)) ∧ w' = w := by
  go_enter Tryz.func50, Tryz.ntmps50
  go_wp2
  go_loop [5] (fun i => ∃ k : Nat, k ≤ n ∧ i = .int .i64 k ∧ clockTo c site k = none) (fun i => n - (intOf i).toNat)
  case atStart => exact ⟨0, Nat.zero_le _, rfl, rfl⟩
  case round =>
    obtain ⟨k, hk, rfl, hno⟩ := hrel
    have HN : Hid (clockTo c site k = none) := hno
    clear hno
    by_cases hlt : k < n
    · obtain ⟨b, o, hbl, hix, hs, hc⟩ := hL.clock cap hlt
      go_wp2
      · have hp : (c k).site = site := by simpa using ‹((c k).site == site) = true›
        go_ret
        exact ⟨ret_int (by rw [clockTo_hit hlt HN.out hp]; rfl), rfl⟩
      · have hp : ¬ (c k).site = site := by simpa using ‹((c k).site == site) = false›
        go_round
        case rel => exact ⟨k + 1, by omega, by go_num, clockTo_no HN.out hp⟩
        case measure => simp [intOf]; omega
    · have e1 : k = n := by omega
      have N1 : Hid (clockTo c site n = none) := e1 ▸ HN.out
      clear HN e1
      go_wp2
      go_ret
      exact ⟨ret_int (by rw [N1.out]; rfl), rfl⟩

theorem Lies.drewN {w : World} {a : Option Addr} {n m : Nat} {f : Nat → List Value} (h : Lies w a n m f) (q : Nat) : Lies (w.drewN q) a n m f := h.below (below_drewN (Below.refl _ _) _)

set_option maxHeartbeats 1000000 in
theorem uncovered_any (R : Rep) (a1 a2 a3 : Option Addr) (k1 k2 k3 : Nat) (w : World) (hR : Has w R a1 a2 a3) :
    Calls Tryz.prog 48 #[repV R a1 a2 a3 k1 k2 k3] w fun e w' => e = .returned (.bool R.uncB) ∧ Below w.heap.size w w' := by
  have b1 := hR.b1; have b2 := hR.b2; have b3 := hR.b3
  go_enter Tryz.func48, Tryz.ntmps48
  go_wp2
  go_loopw [3] (fun i wr => ∃ k : Nat, k ≤ R.n2 ∧ i = .int .i64 k ∧ anyTo R.unc k = false ∧ BoxR w R a1 a2 a3 k1 k2 k3 wr) (fun i _ => R.n2 - (intOf i).toNat)
  case atStart => exact ⟨0, Nat.zero_le _, rfl, rfl, Below.refl _ _⟩
  case round =>
    obtain ⟨k, hk, rfl, hno, hb⟩ := hrel
    obtain ⟨x1, x2, x3⟩ := box3 hb
    have HN : Hid (anyTo R.unc k = false) := hno
    clear hno
    by_cases hlt : k < R.n2
    · obtain ⟨b, o, hbl, hix, -, hs, hc, -, -⟩ := (hR.below (below_box hb)).l2.card k2 hlt
      have hL := (hR.below (below_box hb)).l1
      go_wp2
      go_quiet ((go_at_call 50; exact Calls.quiet_of_same (countOf_any _ _ _ R.c _ _ (by omega) (by exact hL.drewN _))))
      go_wp2
      · have hp : R.unc k = true := by unfold Rep.unc Rep.clk; simp [‹(clockTo R.c (R.d k).site R.n1).getD 0 < (R.d k).count›]
        go_ret
        exact ⟨ret_bool (by simp [Rep.uncB, anyTo_hit hlt hp]), below_drewN (below_box hb) _⟩
      · have hp : R.unc k = false := by
          have h1 : (R.d k).count ≤ (clockTo R.c (R.d k).site R.n1).getD 0 := by assumption
          unfold Rep.unc Rep.clk; simp; omega
        go_roundw
        case rel => exact ⟨k + 1, by omega, by go_num, anyTo_no HN.out hp, below_drewN hb _⟩
        case measure => simp [intOf]; omega
    · have e1 : k = R.n2 := by omega
      have N1 : Hid (anyTo R.unc R.n2 = false) := e1 ▸ HN.out
      clear HN e1
      go_wp2
      go_ret
      exact ⟨ret_bool (by simp [Rep.uncB, N1.out]), below_box hb⟩

end Go.Proofs.YtdjpkgaicmklmaaGreat

/- sound.TooMany, sound.Check and parcel.Check, walked. -/
namespace Go.Proofs.YtdjpkgaicmklmaaGreat
open Go.RowKit

set_option maxHeartbeats 1000000 in
theorem tooMany_any (R : Rep) (a1 a2 a3 : Option Addr) (k1 k2 k3 : Nat) (w : World) (hR : Has w R a1 a2 a3) :
    Calls Tryz.prog 44 #[repV R a1 a2 a3 k1 k2 k3] w fun e w' => e = .returned (.bool R.manyB) ∧ Below w.heap.size w w' := by
  have b1 := hR.b1; have b2 := hR.b2; have b3 := hR.b3
  go_enter Tryz.func44, Tryz.ntmps44
  go_wp2
  all_goals (go_ret; refine ⟨ret_bool ?_, (Below.refl _ _).alloc (Nat.le_refl _) _⟩; unfold Rep.manyB; rw [Bool.eq_iff_iff]; simp; try omega)

/-- The world behind a call made with the box laid. -/
theorem boxR_step {w wr w1 : World} {R : Rep} {a1 a2 a3 : Option Addr} {k1 k2 k3 : Nat} (hb : BoxR w R a1 a2 a3 k1 k2 k3 wr) (h : Below wr.heap.size wr w1) : BoxR w R a1 a2 a3 k1 k2 k3 w1 :=
  hb.trans (h.mono (by have := hb.size; simpa using this))

set_option maxHeartbeats 2000000 in
theorem check_any (R : Rep) (a1 a2 a3 : Option Addr) (k1 k2 k3 : Nat) (w : World) (hR : Has w R a1 a2 a3) :
    Calls Tryz.prog 22 #[repV R a1 a2 a3 k1 k2 k3] w fun e w' => e = .returned (.int .i64 R.chk) ∧ Below w.heap.size w w' := by
  have hb0 : BoxR w R a1 a2 a3 k1 k2 k3 (w.alloc (.cells #[.slice a1 R.n1 k1, .slice a2 R.n2 k2, .slice a3 R.n3 k3] 27)) := Below.refl _ _
  go_enter Tryz.func22, Tryz.ntmps22
  go_wp2_with fail
  refine (tooMany_any R a1 a2 a3 k1 k2 k3 _ (hR.below (below_box hb0))).mono ?_
  rintro e w1 ⟨rfl, h1⟩
  have hb1 := boxR_step hb0 h1
  obtain ⟨x1, x2, x3⟩ := box3 hb1
  clear h1 hb0
  cases g1 : R.manyB
  case true =>
    go_wp2_with fail
    go_ret
    exact ⟨ret_int (by simp [Rep.chk, g1]), below_box hb1⟩
  go_wp2_with fail
  refine (wrongNumber_any R a1 a2 a3 k1 k2 k3 _ (hR.below (below_box hb1))).mono ?_
  rintro e w2 ⟨rfl, h1⟩
  have hb2 := boxR_step hb1 h1
  clear x1 x2 x3 h1 hb1
  obtain ⟨x1, x2, x3⟩ := box3 hb2
  cases g2 : R.numB
  case true =>
    go_wp2_with fail
    go_ret
    exact ⟨ret_int (by simp [Rep.chk, g1, g2]), below_box hb2⟩
  go_wp2_with fail
  refine (wrongText_any R a1 a2 a3 k1 k2 k3 _ (hR.below (below_box hb2))).mono ?_
  rintro e w3 ⟨rfl, h1⟩
  have hb3 := boxR_step hb2 h1
  clear x1 x2 x3 h1 hb2
  obtain ⟨x1, x2, x3⟩ := box3 hb3
  cases g3 : R.txtB
  case true =>
    go_wp2_with fail
    go_ret
    exact ⟨ret_int (by simp [Rep.chk, g1, g2, g3]), below_box hb3⟩
  go_wp2_with fail
  refine (notRising_any R a1 a2 a3 k1 k2 k3 _ (hR.below (below_box hb3))).mono ?_
  rintro e w4 ⟨rfl, h1⟩
  have hb4 := boxR_step hb3 h1
  clear x1 x2 x3 h1 hb3
  obtain ⟨x1, x2, x3⟩ := box3 hb4
  cases g4 : R.risB
  case true =>
    go_wp2_with fail
    go_ret
    exact ⟨ret_int (by simp [Rep.chk, g1, g2, g3, g4]), below_box hb4⟩
  go_wp2_with fail
  refine (uncovered_any R a1 a2 a3 k1 k2 k3 _ (hR.below (below_box hb4))).mono ?_
  rintro e w5 ⟨rfl, h1⟩
  have hb5 := boxR_step hb4 h1
  clear x1 x2 x3 h1 hb4
  obtain ⟨x1, x2, x3⟩ := box3 hb5
  cases g5 : R.uncB
  case true =>
    go_wp2_with fail
    go_ret
    exact ⟨ret_int (by simp [Rep.chk, g1, g2, g3, g4, g5]), below_box hb5⟩
  go_wp2_with fail
  refine (clashing_any a2 R.n2 k2 R.d _ hR.b2 (hR.below (below_box hb5)).l2).mono ?_
  rintro e w6 ⟨rfl, h1⟩
  have hb6 := boxR_step hb5 h1
  clear x1 x2 x3 h1 hb5
  have hcl : anyTo (fun i => anyTo (fun k => stampB (R.d i) (R.d k)) i) R.n2 = R.clashB := rfl
  rw [hcl]
  clear hcl
  cases g6 : R.clashB
  case true =>
    go_wp2_with fail
    go_ret
    exact ⟨ret_int (by simp [Rep.chk, g1, g2, g3, g4, g5, g6]), below_box hb6⟩
  go_wp2_with fail
  go_ret
  exact ⟨ret_int (by simp [Rep.chk, g1, g2, g3, g4, g5, g6]), below_box hb6⟩

end Go.Proofs.YtdjpkgaicmklmaaGreat

/- parcelref.Check, walked. -/
namespace Go.Proofs.YtdjpkgaicmklmaaGreat
open Go.RowKit

set_option maxHeartbeats 4000000 in
theorem rcheck_any (R : Rep) (a1 a2 a3 : Option Addr) (k1 k2 k3 : Nat) (w : World) (hR : Has w R a1 a2 a3) :
    Calls Tryz.prog 12 #[repV R a1 a2 a3 k1 k2 k3] w fun e w' => e = .returned (.int .i64 R.chk) ∧ Below w.heap.size w w' := by
  have b1 := hR.b1; have b2 := hR.b2; have b3 := hR.b3
  have hb0 : BoxR w R a1 a2 a3 k1 k2 k3 (w.alloc (.cells #[.slice a1 R.n1 k1, .slice a2 R.n2 k2, .slice a3 R.n3 k3] 27)) := Below.refl _ _
  cases g1 : R.manyB
  case true =>
    have hm : (8 : Int) < (R.n1 : Int) ∨ (R.n1 : Int) ≤ 8 ∧ ((40 : Int) < (R.n2 : Int) ∨ (R.n2 : Int) ≤ 40 ∧ (16 : Int) < (R.n3 : Int)) := by
      unfold Rep.manyB at g1; simp at g1; omega
    rcases hm with h | ⟨h, h' | ⟨h', h''⟩⟩
    all_goals
      go_enter Tryz.func12, Tryz.ntmps12
      go_wp2_with fail
      go_ret
      exact ⟨ret_int (by simp [Rep.chk, g1]), below_box hb0⟩
  have hm : (R.n1 : Int) ≤ 8 ∧ (R.n2 : Int) ≤ 40 ∧ (R.n3 : Int) ≤ 16 := by
    unfold Rep.manyB at g1; simp at g1; omega
  obtain ⟨m1, m2, m3⟩ := hm
  go_enter Tryz.func12, Tryz.ntmps12
  go_wp2_with fail
  refine (numbered_any R a1 a2 a3 k1 k2 k3 _ (hR.below (below_box hb0))).mono ?_
  rintro e w2 ⟨rfl, h1⟩
  have hb2 := boxR_step hb0 h1
  clear h1 hb0
  obtain ⟨x1, x2, x3⟩ := box3 hb2
  cases g2 : R.numB
  case true =>
    go_wp2_with fail
    go_ret
    exact ⟨ret_int (by simp [Rep.chk, g1, g2]), below_box hb2⟩
  go_wp2_with fail
  refine (texted_any R a1 a2 a3 k1 k2 k3 _ (hR.below (below_box hb2))).mono ?_
  rintro e w3 ⟨rfl, h1⟩
  have hb3 := boxR_step hb2 h1
  clear x1 x2 x3 h1 hb2
  obtain ⟨x1, x2, x3⟩ := box3 hb3
  cases g3 : R.txtB
  case true =>
    go_wp2_with fail
    go_ret
    exact ⟨ret_int (by simp [Rep.chk, g1, g2, g3]), below_box hb3⟩
  go_wp2_with fail
  refine (rising_any R a1 a2 a3 k1 k2 k3 _ (hR.below (below_box hb3))).mono ?_
  rintro e w4 ⟨rfl, h1⟩
  have hb4 := boxR_step hb3 h1
  clear x1 x2 x3 h1 hb3
  obtain ⟨x1, x2, x3⟩ := box3 hb4
  cases g4 : R.risB
  case true =>
    go_wp2_with fail
    go_ret
    exact ⟨ret_int (by simp [Rep.chk, g1, g2, g3, g4]), below_box hb4⟩
  go_wp2_with fail
  go_loopw [4, 5] (fun i _ wr => ∃ k : Nat, k ≤ R.n2 ∧ i = .int .i64 k ∧ anyTo R.unc k = false ∧ BoxR w R a1 a2 a3 k1 k2 k3 wr) (fun i _ _ => R.n2 - (intOf i).toNat)
  case atStart => exact ⟨0, Nat.zero_le _, rfl, rfl, hb4⟩
  case round =>
    clear x1 x2 x3
    have HB4 : Hid (BoxR w R a1 a2 a3 k1 k2 k3 w4) := hb4
    clear hb4
    obtain ⟨k, hk, rfl, hno, hb⟩ := hrel
    obtain ⟨x1, x2, x3⟩ := box3 hb
    have HN : Hid (anyTo R.unc k = false) := hno
    clear hno
    by_cases hlt : k < R.n2
    · obtain ⟨b, o, hbl, hix, -, hs, hc, -, -⟩ := (hR.below (below_box hb)).l2.card k2 hlt
      have hH := hR.below (below_box hb)
      have hws : w.heap.size < wr.heap.size := by have := hb.size; simp at this; omega
      go_wp2_with fail
      go_region_held3 (fun w' => w'.cell? ⟨w.heap.size, 0, none⟩ = some (.slice a1 R.n1 k1) ∧ w'.cell? ⟨w.heap.size, 1, none⟩ = some (.slice a2 R.n2 k2) ∧ w'.cell? ⟨w.heap.size, 2, none⟩ = some (.slice a3 R.n3 k3) ∧ w'.cell? ⟨b, o + 1, none⟩ = some (.int .i64 (R.d k).site) ∧ w'.cell? ⟨b, o + 2, none⟩ = some (.int .i64 (R.d k).count))
         (first | (go_keep; done) | (simp only [hcc b _ hbl, hcc w.heap.size _ hws]; go_keep; done))
         (first | (go_at_call 16; refine (clocked_any R a1 a2 a3 k1 k2 k3 _ _ (by exact hH.below (below_drewN (Below.refl _ _) 1))).mono ?_; rintro e w' ⟨rfl, hb2⟩; obtain ⟨hcc, hff⟩ := bcell hb2))
      have hb3 : BoxR w R a1 a2 a3 k1 k2 k3 w' := boxR_step (below_drewN hb 1) hb2
      clear hcc hff hb2
      go_wp2_with fail
      · have hp : R.unc k = true := by unfold Rep.unc; simp [‹R.clk (R.d k).site < (R.d k).count›]
        go_ret
        exact ⟨ret_int (by simp [Rep.chk, g1, g2, g3, g4, show R.uncB = true from anyTo_hit hlt hp]), below_box hb3⟩
      · have hp : R.unc k = false := by
          have h1 : (R.d k).count ≤ R.clk (R.d k).site := by assumption
          unfold Rep.unc; simp; omega
        go_roundw
        case rel => exact ⟨k + 1, by omega, by go_num, anyTo_no HN.out hp, hb3⟩
        case measure => simp [intOf]; omega
    · have e1 : k = R.n2 := by omega
      have g5 : Hid (R.uncB = false) := by unfold Rep.uncB; rw [← e1]; exact HN.out
      clear HN e1
      go_wp2_with fail
      go_loopw [6, 7] (fun i _ wr => ∃ k : Nat, k ≤ R.n2 ∧ i = .int .i64 k ∧ anyTo R.clash k = false ∧ BoxR w R a1 a2 a3 k1 k2 k3 wr) (fun i _ _ => R.n2 - (intOf i).toNat)
      case atStart => exact ⟨0, Nat.zero_le _, rfl, rfl, hb⟩
      case round =>
        clear x1 x2 x3 hb hk hlt
        obtain ⟨k, hk, rfl, hno, hb⟩ := hrel
        obtain ⟨x1, x2, x3⟩ := box3 hb
        have HN : Hid (anyTo R.clash k = false) := hno
        clear hno
        by_cases hlt : k < R.n2
        · have hd1 : decide ((k : Int) < (R.n2 : Int)) = true := by simp; omega
          go_wp2_with fail
          go_loopw [7] (fun i wr => ∃ j : Nat, j ≤ k ∧ i = .int .i64 j ∧ anyTo (fun i => stampB (R.d k) (R.d i)) j = false ∧ BoxR w R a1 a2 a3 k1 k2 k3 wr) (fun i _ => k - (intOf i).toNat)
          case atStart => exact ⟨0, Nat.zero_le _, rfl, rfl, hb⟩
          case round =>
            clear x1 x2 x3 hb
            obtain ⟨j, hj, rfl, hno, hb⟩ := hrel
            obtain ⟨x1, x2, x3⟩ := box3 hb
            have HM : Hid (anyTo (fun i => stampB (R.d k) (R.d i)) j = false) := hno
            clear hno
            by_cases hjt : j < k
            · obtain ⟨b, o, hbl, hix, -, c2, c3, -, -⟩ := (hR.below (below_box hb)).l2.card k2 hlt
              obtain ⟨b', o', hbl', hix', -, c2', c3', -, -⟩ := (hR.below (below_box hb)).l2.card k2 (show j < R.n2 by omega)
              by_cases hss : (R.d k).site = (R.d j).site
              · have hs1 : ((R.d k).site == (R.d j).site) = true := by simp [hss]
                clear hss
                go_wp2_with fail
                go_quiet (fail)
                go_wp2_with fail
                · have hp : stampB (R.d k) (R.d j) = true := by unfold stampB; rw [hs1, ‹((R.d k).count == (R.d j).count) = true›]; rfl
                  go_ret
                  refine ⟨ret_int ?_, below_box (below_drewN hb _)⟩
                  have hc : R.clashB = true := anyTo_hit (p := R.clash) hlt (anyTo_hit (p := fun i => stampB (R.d k) (R.d i)) hjt hp)
                  simp [Rep.chk, g1, g2, g3, g4, g5.out, hc]
                · have hp : stampB (R.d k) (R.d j) = false := by unfold stampB; rw [hs1, ‹((R.d k).count == (R.d j).count) = false›]; rfl
                  go_roundw
                  case rel => exact ⟨j + 1, by omega, by go_num, anyTo_no (p := fun i => stampB (R.d k) (R.d i)) HM.out hp, below_drewN hb _⟩
                  case measure => simp [intOf]; omega
              · have hs1 : ((R.d k).site == (R.d j).site) = false := by simp [hss]
                clear hss
                go_wp2_with fail
                go_quiet (fail)
                go_wp2_with fail
                have hp : stampB (R.d k) (R.d j) = false := by unfold stampB; rw [hs1]; rfl
                go_roundw
                case rel => exact ⟨j + 1, by omega, by go_num, anyTo_no (p := fun i => stampB (R.d k) (R.d i)) HM.out hp, below_drewN hb _⟩
                case measure => simp [intOf]; omega
            · have e1 : j = k := by omega
              have N1 : Hid (R.clash k = false) := by unfold Rep.clash; rw [← e1]; rw [← e1] at HM; exact HM.out
              clear HM e1
              go_wp2_with fail
              go_roundw
              case rel => exact ⟨k + 1, by omega, by go_num, anyTo_no HN.out N1.out, hb⟩
              case measure => simp [intOf]; omega
        · have e1 : k = R.n2 := by omega
          have g6 : Hid (R.clashB = false) := by unfold Rep.clashB; rw [← e1]; exact HN.out
          clear HN e1
          go_wp2_with fail
          go_ret
          exact ⟨ret_int (by simp [Rep.chk, g1, g2, g3, g4, g5.out, g6.out]), below_box hb⟩
end Go.Proofs.YtdjpkgaicmklmaaGreat

/- parcellaw.Checks: called with any replica that lies in memory it answers true, and nothing that was there has turned. -/
namespace Go.Proofs.YtdjpkgaicmklmaaGreat
open Go.RowKit

theorem below_step2 {w w1 wr : World} {R : Rep} {a1 a2 a3 : Option Addr} {k1 k2 k3 : Nat} {o : Obj} (hb : BoxR w R a1 a2 a3 k1 k2 k3 w1) (h : Below (w1.heap.size + 1) (w1.alloc o) wr) : BoxR w R a1 a2 a3 k1 k2 k3 wr :=
  boxR_step hb (below_box h)

end Go.Proofs.YtdjpkgaicmklmaaGreat

/- Export of both, and parcellaw.Exports: called with any replica that lies in memory it answers true. -/
namespace Go.Proofs.YtdjpkgaicmklmaaGreat
open Go.RowKit

/-- A sound replica can be written. -/
theorem Rep.fit {R : Rep} (h : R.chk = 0) : Fit R := by
  have g1 : R.manyB = false := by
    cases hh : R.manyB
    · rfl
    · simp [Rep.chk, hh] at h
  have g2 : R.numB = false := by
    cases hh : R.numB
    · rfl
    · simp [Rep.chk, g1, hh] at h
  have g3 : R.txtB = false := by
    cases hh : R.txtB
    · rfl
    · simp [Rep.chk, g1, g2, hh] at h
  have hm : R.n1 ≤ 8 ∧ R.n2 ≤ 40 ∧ R.n3 ≤ 16 := by
    unfold Rep.manyB at g1; simp at g1; omega
  unfold Rep.numB at g2
  simp only [Bool.or_eq_false_iff] at g2
  unfold Rep.txtB at g3
  simp only [Bool.or_eq_false_iff] at g3
  have num : ∀ n m : Int, outB n m = false → m ≤ 4611686018427387904 → Num n := by
    intro n m hh hm
    unfold outB at hh
    simp at hh
    exact ⟨by omega, by omega⟩
  have none_of : ∀ (p : Nat → Bool) (n : Nat), anyTo p n = false → ∀ i, i < n → p i = false := by
    intro p n hh i hi
    cases hp : p i
    · rfl
    · rw [anyTo_hit hi hp] at hh; cases hh
  have long : ∀ t : ByteArray, longB t = false → t.size ≤ 60 := by
    intro t ht
    unfold longB at ht
    simp at ht
    omega
  refine ⟨by omega, by omega, by omega, fun i hi => ?_, fun i hi => ?_, fun i hi => ?_⟩
  · have h1 := none_of _ _ g2.1 i hi
    unfold Rep.num1 scB at h1
    simp only [Bool.or_eq_false_iff] at h1
    exact ⟨num _ _ h1.1 (by decide), num _ _ h1.2 (by decide)⟩
  · have h1 := none_of _ _ g2.2.1 i hi
    unfold Rep.num2 scB at h1
    simp only [Bool.or_eq_false_iff] at h1
    have h2 := none_of _ _ g3.1 i hi
    unfold Rep.txt2 at h2
    simp only [Bool.or_eq_false_iff] at h2
    exact ⟨num _ _ h1.2 (by decide), num _ _ h1.1.1 (by decide), num _ _ h1.1.2 (by decide), long _ h2.1⟩
  · have h1 := none_of _ _ g2.2.2 i hi
    unfold Rep.num3 at h1
    have h2 := none_of _ _ g3.2 i hi
    unfold Rep.txt3 at h2
    exact ⟨num _ _ h1 (by decide), long _ h2⟩

/-- The answer of Export. -/
def Rep.exp (R : Rep) : List UInt8 := if R.chk = 0 then bundleB (recsOf 0 0 R) else []

end Go.Proofs.YtdjpkgaicmklmaaGreat

/- parcelkeep's bytes and same, walked. -/
namespace Go.Proofs.YtdjpkgaicmklmaaGreat
open Go.RowKit

theorem bytesI_le : ∀ (k : Nat) (n : Int), bytesI k n ≤ k + 1
  | 0, n => by simp [bytesI]
  | k + 1, n => by
    simp only [bytesI]; split
    · omega
    · have := bytesI_le k (n / 128); omega
theorem bytesI_small (k : Nat) (n : Int) (h : n < 128) : bytesI k n = 1 := by
  cases k with
  | zero => rfl
  | succ k => simp [bytesI, h]

/-- The two parameters' boxes. -/
abbrev BoxT (w : World) (R T : Rep) (a1 a2 a3 b1 b2 b3 : Option Addr) (k1 k2 k3 l1 l2 l3 : Nat) (wr : World) : Prop :=
  Below (w.heap.size + 2) ((w.alloc (.cells #[.slice a1 R.n1 k1, .slice a2 R.n2 k2, .slice a3 R.n3 k3] 27)).alloc (.cells #[.slice b1 T.n1 l1, .slice b2 T.n2 l2, .slice b3 T.n3 l3] 27)) wr
theorem BoxT.cells {w : World} {R T : Rep} {a1 a2 a3 b1 b2 b3 : Option Addr} {k1 k2 k3 l1 l2 l3 : Nat} {wr : World} (hb : BoxT w R T a1 a2 a3 b1 b2 b3 k1 k2 k3 l1 l2 l3 wr) :
    (wr.cell? ⟨w.heap.size, 0, none⟩ = some (.slice a1 R.n1 k1) ∧ wr.cell? ⟨w.heap.size, 1, none⟩ = some (.slice a2 R.n2 k2) ∧ wr.cell? ⟨w.heap.size, 2, none⟩ = some (.slice a3 R.n3 k3)) ∧
    (wr.cell? ⟨w.heap.size + 1, 0, none⟩ = some (.slice b1 T.n1 l1) ∧ wr.cell? ⟨w.heap.size + 1, 1, none⟩ = some (.slice b2 T.n2 l2) ∧ wr.cell? ⟨w.heap.size + 1, 2, none⟩ = some (.slice b3 T.n3 l3)) := by
  refine ⟨⟨?_, ?_, ?_⟩, ?_, ?_, ?_⟩
  · rw [hb.cell (p := ⟨w.heap.size, 0, none⟩) (by simp)]; simp
  · rw [hb.cell (p := ⟨w.heap.size, 1, none⟩) (by simp)]; simp
  · rw [hb.cell (p := ⟨w.heap.size, 2, none⟩) (by simp)]; simp
  · rw [hb.cell (p := ⟨w.heap.size + 1, 0, none⟩) (by simp)]; simp
  · rw [hb.cell (p := ⟨w.heap.size + 1, 1, none⟩) (by simp)]; simp
  · rw [hb.cell (p := ⟨w.heap.size + 1, 2, none⟩) (by simp)]; simp
theorem BoxT.old {w : World} {R T : Rep} {a1 a2 a3 b1 b2 b3 : Option Addr} {k1 k2 k3 l1 l2 l3 : Nat} {wr : World} (hb : BoxT w R T a1 a2 a3 b1 b2 b3 k1 k2 k3 l1 l2 l3 wr) : Below w.heap.size w wr :=
  (((Below.refl _ w).alloc (Nat.le_refl _) _).alloc (by simp) _).trans (hb.mono (by omega))

theorem ret_same {R T : Rep} {b : Bool} (h : b = true ↔ Same R T) : ∃ b', Ending.returned (.bool b) = .returned (.bool b') ∧ (b' = true ↔ Same R T) := ⟨b, rfl, h⟩
theorem not_same {R T : Rep} (h : ¬ Same R T) : (false = true ↔ Same R T) := ⟨fun e => (by cases e), fun e => absurd e h⟩

theorem ba_beq {x y : ByteArray} (h : ¬ x = y) : (x == y) = false := by
  cases x with | mk a => cases y with | mk b =>
  have : ¬ a = b := fun e => h (by rw [e])
  show (a == b) = false
  rw [beq_eq_false_iff_ne]; exact this
theorem bl_beq {x y : ByteArray} (h : ¬ x = y) : (x.toList == y.toList) = false := by
  rw [← beq_toListBytes]; exact ba_beq h
theorem ck_ne {x y : Ck} (h : ¬ x = y) : ¬ x.site = y.site ∨ (x.site = y.site ∧ ¬ x.count = y.count) := by
  by_cases h1 : x.site = y.site
  · exact Or.inr ⟨h1, fun h2 => h (by cases x; cases y; simp at h1 h2; simp [h1, h2])⟩
  · exact Or.inl h1
theorem cd_ne {x y : Cd} (h : ¬ x = y) : ¬ x.id = y.id ∨ (x.id = y.id ∧ ¬ x.site = y.site) ∨ (x.id = y.id ∧ x.site = y.site ∧ ¬ x.count = y.count) ∨ (x.id = y.id ∧ x.site = y.site ∧ x.count = y.count ∧ ¬ x.gone = y.gone) ∨ (x.id = y.id ∧ x.site = y.site ∧ x.count = y.count ∧ x.gone = y.gone ∧ ¬ x.text = y.text) := by
  by_cases h1 : x.id = y.id
  · by_cases h2 : x.site = y.site
    · by_cases h3 : x.count = y.count
      · by_cases h4 : x.gone = y.gone
        · exact Or.inr (Or.inr (Or.inr (Or.inr ⟨h1, h2, h3, h4, fun h5 => h (by cases x; cases y; simp at h1 h2 h3 h4 h5; simp [h1, h2, h3, h4, h5])⟩)))
        · exact Or.inr (Or.inr (Or.inr (Or.inl ⟨h1, h2, h3, h4⟩)))
      · exact Or.inr (Or.inr (Or.inl ⟨h1, h2, h3⟩))
    · exact Or.inr (Or.inl ⟨h1, h2⟩)
  · exact Or.inl h1
theorem ed_ne {x y : Ed} (h : ¬ x = y) : ¬ x.id = y.id ∨ (x.id = y.id ∧ ¬ x.text = y.text) := by
  by_cases h1 : x.id = y.id
  · exact Or.inr ⟨h1, fun h2 => h (by cases x; cases y; simp at h1 h2; simp [h1, h2])⟩
  · exact Or.inl h1

end Go.Proofs.YtdjpkgaicmklmaaGreat

/- parcelkeep.records, walked: what a bundle's records are and where, and how long it is. -/
namespace Go.Proofs.YtdjpkgaicmklmaaGreat
open Go.RowKit

/-- Each block but the list's own is as it was. -/
def Kept (ad : Option Addr) (w w' : World) : Prop := ∀ k, k < w.heap.size → (∀ b, ad = some b → b.block ≠ k) → w'.heap[k]? = w.heap[k]?

section
variable {P : Program} {w : World} {ops : Array Oper} {rest : List Oper} {o : Oper} {a : Act} {Q : Exit → Act → World → Prop}

/-- 'l = append(l, x)', and what is elsewhere stays. -/
theorem wpList_push2 (hgd : o.guard = none) (s x : Operand) (t : TypeId) (ho : o.op = .call { callee := .builtin .append, args := #[s, x], argTypes := #[t, t] })
    (B e m bytes : Nat) (z : Value) (ht : P.underlying t = some (.slice e)) (hinfo : (P.info? e).map (fun i => (i.zero, i.size, i.bytes)) = some (some z, m, bytes)) (hzs : z.cells.size = m) (hm : 0 < m)
    (ad : Option Addr) (n cap : Nat) (xs : List Value) (hs : a.eval s = .slice ad n cap) (hown : Vec w B e m ad n cap xs)
    (ad1 : Addr) (c : Nat) (row : List Value) (hx : a.eval x = .slice (some ad1) 1 c) (hl : row.length = m) (hnews : ∀ j u, row[j]? = some u → w.cell? (ad1.add j) = some u) (h1 : ∀ u, u ∈ row → u.oneCell' = true)
    (hbytes : (n + 1) * bytes ≤ 140737488355328) (hn : n < 9223372036854775807) (hB : B ≤ w.heap.size)
    (h : ∀ ad' cap' w', Vec w' B e m ad' (n + 1) cap' (xs ++ row) → Below B w w' → Kept ad w w' → wpList P ops Q rest (a.put o.dst (.slice ad' (n + 1) cap')) w') : wpList P ops Q (o :: rest) a w := by
  obtain ⟨i, hi, hzz⟩ := Option.map_eq_some_iff.1 hinfo
  simp only [Prod.mk.injEq] at hzz
  obtain ⟨hz, hsz, hby⟩ := hzz
  refine wpList_append_lies w hgd s x t ho B e i z m bytes ht hi hz hsz hby hzs hm (.slice ad n cap) n xs hs hown ad1 1 c row hx (by rw [hl, Nat.one_mul]) hnews h1 (by omega) (by unfold maxLen; omega) hbytes hB w.heap.size rfl ?_
  intro g cap' w' ho' hgr _ _
  refine h (some ⟨g, 0, none⟩) cap' w' ho' ?_ ?_
  · exact (Below.refl _ _).grown hgr hB (fun k hk => (World.ownsRow.lt hown k hk).1)
  · intro k hk hne
    refine hgr.block k hk ?_
    cases ad with
    | none => simp [Value.ownBlock]
    | some b => simp [Value.ownBlock]; exact fun e => hne b rfl e.symm
end

/-- The variable's box is as it was behind the append. -/
theorem Kept.box {wr w' : World} {o1 o2 : Obj} {B e m : Nat} {ad : Option Addr} {n cap : Nat} {xs : List Value} (hk : Kept ad ((wr.alloc o1).alloc o2) w') (hv : Vec wr B e m ad n cap xs) : w'.heap[wr.heap.size]? = some o1 := by
  rw [hk wr.heap.size (by simp; omega) ?_]
  · show ((wr.heap.push o1).push o2)[wr.heap.size]? = _
    rw [Array.getElem?_push, if_neg (by simp), Array.getElem?_push, if_pos rfl]
  · intro b hb
    subst hb
    have := World.ownsRow.lt hv b.block rfl
    omega
theorem box_cell {w : World} {g : Nat} {cs : Array Value} {t : TypeId} (h : w.heap[g]? = some (.cells cs t)) (j : Nat) : w.cell? ⟨g, j, none⟩ = cs[j]? := by
  simp [World.cell?, h]

/-- A record at its place. -/
def Fd.put (f : Fd) (p : Nat) : Fd := { f with at_ := p }
/-- Records one directly behind the other, from a place on. -/
def atL : Nat → List Fd → List Fd
  | _, [] => []
  | p, f :: l => f.put p :: atL (p + lenF f) l
theorem atL_snoc (f : Fd) : ∀ (p : Nat) (l : List Fd), atL p (l ++ [f]) = atL p l ++ [f.put (p + lenL l)]
  | p, [] => by simp [atL, lenL]
  | p, g :: l => by
    simp only [List.cons_append, atL, atL_snoc f (p + lenF g) l]
    simp [lenL]
    congr 1; omega
theorem atL_length : ∀ (p : Nat) (l : List Fd), (atL p l).length = l.length
  | _, [] => rfl
  | p, f :: l => by simp [atL, atL_length (p + lenF f) l]
theorem ones9 (f : Fd) : ∀ v, v ∈ f.cells → v.oneCell' = true := by intro v h; simp at h; rcases h with rfl | rfl | rfl | rfl | rfl | rfl | rfl | rfl | rfl <;> rfl

end Go.Proofs.YtdjpkgaicmklmaaGreat

/- What is written is read back: numbers, records, frames; what Salvage finds in a bundle that is cut. -/
namespace Go.Proofs.YtdjpkgaicmklmaaGreat
open Go.RowKit

theorem rdAcc_num_back (x : List UInt8) : ∀ (k K : Nat) (n : Int), 0 ≤ n → n < 128 ^ (k + 1) → k ≤ K → ∀ (j i : Nat) (v : Int), rdAcc (k + 1 + j) i v ((numI K n).map byt ++ x) = some (v + n * 128 ^ i, i + (numI K n).length)
  | 0, K, n, h0, h1, _, j, i, v => by
    have h1 : n < 128 := by simpa using h1
    have hb := byt_toNat n h0 (by omega)
    rw [numI_small K n h1, show 0 + 1 + j = j + 1 by omega]
    simp only [List.map_cons, List.map_nil, List.cons_append, List.nil_append, rdAcc, List.length_cons, List.length_nil]
    rw [if_pos (by omega), show (((byt n).toNat % 128 : Nat) : Int) = n by omega]
  | k + 1, 0, n, _, _, hk, _, _, _ => by omega
  | k + 1, K + 1, n, h0, h1, hk, j, i, v => by
    by_cases hn : n < 128
    · have hb := byt_toNat n h0 (by omega)
      rw [numI_small (K + 1) n hn, show k + 1 + 1 + j = (k + 1 + j) + 1 by omega]
      simp only [List.map_cons, List.map_nil, List.cons_append, List.nil_append, rdAcc, List.length_cons, List.length_nil]
      rw [if_pos (by omega), show (((byt n).toNat % 128 : Nat) : Int) = n by omega]
    · have hb := byt_toNat (n % 128 + 128) (by omega) (by omega)
      have e : numI (K + 1) n = (n % 128 + 128) :: numI K (n / 128) := by simp [numI, hn]
      rw [e, show k + 1 + 1 + j = (k + 1 + j) + 1 by omega]
      simp only [List.map_cons, List.cons_append, rdAcc]
      rw [if_neg (by omega), rdAcc_num_back x k K (n / 128) (by omega) (by rw [Int.pow_succ] at h1; omega) (by omega) j (i + 1)]
      have ev : (((byt (n % 128 + 128)).toNat % 128 : Nat) : Int) = n % 128 := by omega
      rw [ev, Int.pow_succ]
      have : v + n % 128 * 128 ^ i + n / 128 * (128 ^ i * 128) = v + n * 128 ^ i := by
        have h : n = n / 128 * 128 + n % 128 := by omega
        have e2 : n / 128 * (128 ^ i * 128) = n / 128 * 128 * 128 ^ i := by rw [Int.mul_comm (128 ^ i) 128, Int.mul_assoc]
        rw [e2]
        conv => rhs; rw [h]
        rw [Int.add_mul]; omega
      rw [this]
      simp; omega
theorem numRd_back {n : Int} (h : Num n) (x : List UInt8) : numRd (numB n ++ x) = some (n, (numB n).length) := by
  have e := rdAcc_num_back x 8 9 n h.1 (by have := h.2; omega) (by omega) 0 0 0
  have e2 : rdAcc 9 0 0 (numB n ++ x) = some (n, (numB n).length) := by
    unfold numB; rw [e]; simp
  unfold numRd
  rw [e2]
  simp only
  rw [if_pos]
  simp
theorem numsRd_back {n : Int} (h : Num n) (k : Nat) (x : List UInt8) : numsRd (k + 1) (numB n ++ x) = (numsRd k x).map fun p => (n :: p.1, p.2) := by
  simp only [numsRd, numRd_back h, List.drop_left]
  cases numsRd k x <;> rfl
/-- What is written is read. -/
theorem recRd_back {f : Fd} (h : FdOk f) (hs : f.seq = 0 → f.base = 0) : recRd (recF f) = some f := by
  rcases h with ⟨s, b, rfl, h1, h2, h3⟩ | ⟨c, rfl, h1, h2⟩ | ⟨c, rfl, h1, h2, h3, h4⟩ | ⟨c, rfl, h1, h2⟩
  · rw [recF_head, recHead, rec4, numsRd_back h1]
    simp only [numsRd, Option.map_some]
    by_cases hq : s = 0
    · have : b = 0 := hs hq
      subst hq this
      simp
    · simp only [if_neg hq]
      rw [if_pos (by simp [fourI]), fourRd_four b h2 (by omega)]
  · rw [recF_clock, recClock, rec1, numsRd_back h1]
    rw [show numB c.count = numB c.count ++ [] by simp, numsRd_back h2]
    simp [numsRd]
  · rw [recF_card, recCard, rec2, numsRd_back h1, numsRd_back h2, numsRd_back h3]
    simp only [numsRd, Option.map_some]
    obtain ⟨i, s, n, g, x⟩ := c
    cases g
    · simp [str_data]
    · simp [str_data]
  · rw [recF_edit, recEdit, rec3, numsRd_back h1]
    simp [numsRd, str_data]

theorem recF_pos (f : Fd) : 0 < (recF f).length := by
  unfold recF
  split
  · simp [recHead]
  · split
    · simp [recClock]
    · split
      · simp [recCard]
      · simp [recEdit]
theorem standRd_back {f : Fd} (h : FdOk f) (hs : f.seq = 0 → f.base = 0) (x : List UInt8) : standRd (frameB (recF f) ++ x) = some (f, lenF f) := by
  have hl := recF_length h
  have hp := recF_pos f
  have hk : (byt (recF f).length).toNat = (recF f).length := by have := byt_toNat (recF f).length (by omega) (by omega); omega
  simp only [frameB, List.cons_append, standRd]
  rw [if_pos (by simp), hk, if_neg (by simp only [List.length_append, fourI, List.length_cons]; omega)]
  have e1 : (recF f ++ fourI (crc pSum (byt (recF f).length :: recF f)) ++ x).take (recF f).length = recF f := by
    rw [List.append_assoc, List.take_left]
  have e2 : ((recF f ++ fourI (crc pSum (byt (recF f).length :: recF f)) ++ x).drop (recF f).length).take 4 = fourI (crc pSum (byt (recF f).length :: recF f)) := by
    rw [List.append_assoc, List.drop_left, List.take_append_of_le_length (by simp [fourI])]
    simp [fourI]
  rw [e1, e2, if_pos rfl, recRd_back h hs]
  rfl

abbrev framesB (l : List Fd) : List UInt8 := l.flatMap (fun f => frameB (recF f))
theorem framesB_length (l : List Fd) : (framesB l).length = lenL l := by
  induction l with
  | nil => rfl
  | cons f l ih => simp only [framesB, List.flatMap_cons, List.length_append, frameB_length, lenL, List.map_cons, List.sum_cons, lenF] at ih ⊢; rw [ih]
def Okay (l : List Fd) : Prop := ∀ f, f ∈ l → FdOk f ∧ (f.seq = 0 → f.base = 0)

/-- Of frames that are cut, those that are left whole are found where they stand. -/
theorem salvF_cut (tail : List UInt8) : ∀ (l : List Fd), Okay l → ∀ (j fuel p : Nat), ((framesB l ++ tail).take j).length ≤ fuel → ∀ i, i < l.length → lenL (l.take (i + 1)) ≤ j →
    (salvF fuel p ((framesB l ++ tail).take j))[i]? = (atL p l)[i]?
  | [], _, _, _, _, _, i, hi, _ => by simp at hi
  | f :: l, ho, j, fuel, p, hf, i, hi, hj => by
    have hw := ho f (by simp)
    have ho' : Okay l := fun g hg => ho g (by simp [hg])
    have hlf : lenF f ≤ j := by
      have : lenL ((f :: l).take (i + 1)) = lenF f + lenL (l.take i) := by simp [lenL]
      omega
    have e : (framesB (f :: l) ++ tail).take j = frameB (recF f) ++ (framesB l ++ tail).take (j - lenF f) := by
      have hlen : (frameB (recF f)).length = lenF f := frameB_length _
      rw [show framesB (f :: l) ++ tail = frameB (recF f) ++ (framesB l ++ tail) by simp [framesB]]
      rw [List.take_append, hlen, List.take_of_length_le (by omega)]
    rw [e] at hf ⊢
    have hlen : (frameB (recF f)).length = lenF f := frameB_length _
    obtain ⟨fuel, rfl⟩ : ∃ k, fuel = k + 1 := ⟨fuel - 1, by simp [hlen, lenF] at hf; omega⟩
    have hne : frameB (recF f) ++ (framesB l ++ tail).take (j - lenF f) ≠ [] := by simp [frameB]
    rw [salvF_some hne (standRd_back hw.1 hw.2 _)]
    have ed : (frameB (recF f) ++ (framesB l ++ tail).take (j - lenF f)).drop (lenF f) = (framesB l ++ tail).take (j - lenF f) := by rw [← hlen, List.drop_left]
    rw [ed]
    cases i with
    | zero => rfl
    | succ i =>
      simp only [List.getElem?_cons_succ, atL]
      refine salvF_cut tail l ho' (j - lenF f) fuel (p + lenF f) ?_ i (by simpa using hi) ?_
      · rw [List.length_append, hlen] at hf; simp [lenF] at hf ⊢; omega
      · have : lenL ((f :: l).take (i + 1 + 1)) = lenF f + lenL (l.take (i + 1)) := by simp [lenL]
        omega
theorem salvF_small : ∀ (fuel p : Nat) (s : List UInt8), s.length < 8 → salvF fuel p s = []
  | 0, _, _, _ => rfl
  | k + 1, p, s, h => by
    by_cases hs : s = []
    · subst hs; rfl
    · rw [salvF_none hs (standRd_short s h)]
      exact salvF_small k (p + 1) (s.drop 1) (by simp; omega)
/-- Of frames and a few bytes behind them these frames are found. -/
theorem salvF_whole (tail : List UInt8) (ht : tail.length < 8) : ∀ (l : List Fd), Okay l → ∀ (fuel p : Nat), (framesB l ++ tail).length ≤ fuel → salvF fuel p (framesB l ++ tail) = atL p l
  | [], _, fuel, p, _ => by simp only [framesB, List.flatMap_nil, List.nil_append, atL]; exact salvF_small _ _ _ ht
  | f :: l, ho, fuel, p, hf => by
    have hw := ho f (by simp)
    have ho' : Okay l := fun g hg => ho g (by simp [hg])
    have hlen : (frameB (recF f)).length = lenF f := frameB_length _
    have e : framesB (f :: l) ++ tail = frameB (recF f) ++ (framesB l ++ tail) := by simp [framesB]
    rw [e] at hf ⊢
    rw [List.length_append, hlen] at hf
    obtain ⟨fuel, rfl⟩ : ∃ k, fuel = k + 1 := ⟨fuel - 1, by simp [lenF] at hf; omega⟩
    rw [salvF_some (by simp [frameB]) (standRd_back hw.1 hw.2 _), ← hlen, List.drop_left, hlen, salvF_whole tail ht l ho' fuel (p + lenF f) (by simp [lenF] at hf ⊢; omega)]
    rfl

theorem standRd_first {c : UInt8} {s : List UInt8} (h : c ≠ 245) : standRd (c :: s) = none := by
  match s with
  | [] | [_] => rfl
  | y :: k :: t => simp only [standRd]; rw [if_neg (fun e => h e.1)]
theorem salvF_magic (s : List UInt8) : ∀ fuel, (80 :: 82 :: 67 :: 49 :: s).length ≤ fuel → ∃ k, s.length ≤ k ∧ salvF fuel 0 (80 :: 82 :: 67 :: 49 :: s) = salvF k 4 s := by
  intro fuel h
  obtain ⟨k, rfl⟩ : ∃ k, fuel = k + 1 + 1 + 1 + 1 := ⟨fuel - 4, by simp at h; omega⟩
  refine ⟨k, by simp at h; omega, ?_⟩
  rw [salvF_none (by simp) (standRd_first (by decide)), List.drop_one, List.tail_cons, salvF_none (by simp) (standRd_first (by decide)), List.drop_one, List.tail_cons,
    salvF_none (by simp) (standRd_first (by decide)), List.drop_one, List.tail_cons, salvF_none (by simp) (standRd_first (by decide)), List.drop_one, List.tail_cons]
/-- Of a bundle its records are found, and no others. -/
theorem salv_bundle (l : List Fd) (h : Okay l) : salv (bundleB l) = atL 4 l := by
  have e : bundleB l = 80 :: 82 :: 67 :: 49 :: (framesB l ++ fourI (crc pSeal (bodyB l))) := by simp [bundleB, bodyB, framesB]
  unfold salv
  rw [e]
  obtain ⟨k, hk, hs⟩ := salvF_magic (framesB l ++ fourI (crc pSeal (bodyB l))) _ (Nat.le_refl _)
  rw [hs]
  exact salvF_whole _ (by simp [fourI]) l h k 4 hk
/-- Of a bundle that is cut those that are left whole are found first. -/
theorem salv_cut (l : List Fd) (h : Okay l) (k i : Nat) (hi : i < l.length) (hk : 4 + lenL (l.take (i + 1)) ≤ k) : (salv ((bundleB l).take k))[i]? = (atL 4 l)[i]? := by
  have e : bundleB l = 80 :: 82 :: 67 :: 49 :: (framesB l ++ fourI (crc pSeal (bodyB l))) := by simp [bundleB, bodyB, framesB]
  obtain ⟨j, rfl⟩ : ∃ j, k = j + 1 + 1 + 1 + 1 := ⟨k - 4, by omega⟩
  unfold salv
  rw [e]
  simp only [List.take_succ_cons]
  obtain ⟨k, hk2, hs⟩ := salvF_magic ((framesB l ++ fourI (crc pSeal (bodyB l))).take j) _ (Nat.le_refl _)
  rw [hs]
  exact salvF_cut _ l h j k 4 hk2 i hi (by omega)
theorem atL_at : ∀ (l : List Fd) (p i : Nat) (h : i < l.length), (atL p l)[i]? = some ((l[i]).put (p + lenL (l.take i)))
  | f :: l, p, 0, _ => by simp [atL, lenL]
  | f :: l, p, i + 1, h => by
    simp only [atL, List.getElem?_cons_succ]
    rw [atL_at l (p + lenF f) i (by simpa using h)]
    simp [lenL]; congr 1; omega
end Go.Proofs.YtdjpkgaicmklmaaGreat

/- What was found, as it lies in memory; how much it is at most. -/
namespace Go.Proofs.YtdjpkgaicmklmaaGreat
open Go.RowKit

theorem Lies.found {w : World} {a : Option Addr} {n : Nat} {c : Nat → Fd} (h : Lies w a n 9 (fun i => (c i).cells)) (cap : Nat) {k : Nat} (hk : k < n) :
    ∃ b o, b < w.heap.size ∧ (∀ w', (Instr.indexAt 62 (.slice a n cap) (.int .i64 (k : Int))).run Tryz.prog w' = .ok (.pointer (some ⟨b, o, none⟩)) w') ∧
      w.cell? ⟨b, o, none⟩ = some (.int .i64 (c k).at_) ∧ w.cell? ⟨b, o + 1, none⟩ = some (.int .i64 (c k).kind) ∧ w.cell? ⟨b, o + 2, none⟩ = some (.int .i64 (c k).seq) ∧
      w.cell? ⟨b, o + 3, none⟩ = some (.int .i64 (c k).base) ∧ w.cell? ⟨b, o + 4, none⟩ = some (.int .i64 (c k).id) ∧ w.cell? ⟨b, o + 5, none⟩ = some (.int .i64 (c k).site) ∧
      w.cell? ⟨b, o + 6, none⟩ = some (.int .i64 (c k).count) ∧ w.cell? ⟨b, o + 7, none⟩ = some (.bool (c k).gone) ∧ w.cell? ⟨b, o + 8, none⟩ = some (.string (c k).text) := by
  obtain ⟨b, o, hb, hi, hc⟩ := h.at cap (P := Tryz.prog) (t := 62) (by kernel_rfl) (by kernel_rfl) hk
  exact ⟨b, o, hb, hi, hc 0 _ (by omega) rfl, hc 1 _ (by omega) rfl, hc 2 _ (by omega) rfl, hc 3 _ (by omega) rfl, hc 4 _ (by omega) rfl, hc 5 _ (by omega) rfl, hc 6 _ (by omega) rfl, hc 7 _ (by omega) rfl, hc 8 _ (by omega) rfl⟩
theorem fvec_lies {w : World} {B : Nat} {ad : Option Addr} {n cap : Nat} {L : List Fd} (h : Vec w B 64 9 ad n cap (fcells L)) (hn : n = L.length) : Lies w ad n 9 (fun i => (L.getD i fd0).cells) := by
  refine Vec.lies (rows := L.map Fd.cells) h ?_ (by simp [hn]) _ ?_
  · intro r hr; obtain ⟨f, _, rfl⟩ := List.mem_map.1 hr; rfl
  · intro i hi; subst hn; simp [List.getD, hi]
theorem salvF_length : ∀ (k p : Nat) (s : List UInt8), (salvF k p s).length ≤ k
  | 0, _, _ => by simp [salvF]
  | k + 1, p, s => by
    simp only [salvF]
    split
    · simp
    · split
      · rename_i f n _; have := salvF_length k (p + n) (s.drop n); simp; omega
      · have := salvF_length k (p + 1) (s.drop 1); omega
theorem salv_length (b : List UInt8) : (salv b).length ≤ b.length := salvF_length _ _ _
end Go.Proofs.YtdjpkgaicmklmaaGreat

