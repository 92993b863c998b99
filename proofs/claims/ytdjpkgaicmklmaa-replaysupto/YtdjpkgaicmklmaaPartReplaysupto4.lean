/- Texts of the proof, one behind the other; what each holds is said at its head. -/
import Derived.Test.YtdjpkgaicmklmaaPartReplaysupto3
import Derived.Test.YtdjpkgaicmklmaaPartReplaysupto2
import Derived.Test.YtdjpkgaicmklmaaPartReplaysupto0
import Derived.Deep.RegionHeld3
/- Records read back: the reference's record, walked (clocks). -/
namespace Go.Proofs.Ytdjpkgaicmklmaa
open Go.RowKit

set_option maxRecDepth 100000 in
set_option maxHeartbeats 4000000 in
theorem rec_clock (s : List UInt8) (w : World) (hs : s.length ≤ 9223372036854775806) :
    Calls Try.prog 131 #[.string (str (1 :: s))] w fun e w' => RecAns (1 :: s) e ∧ Below w.heap.size w w' := by
  have h0 : 0 < (str (1 :: s)).size := by rw [str_size]; simp
  have hx : (str (1 :: s)).extract 1 (str (1 :: s)).size = str s := by rw [str_extract, str_size]; simp
  have hne : (str (1 :: s)).toList.isEmpty = false := by rw [str_toList]; rfl
  have hk : wrap64 (((str (1 :: s))[0]'h0).toNat : Int) = 1 := by
    have e : ((str (1 :: s))[0]'h0).toNat = 1 := rfl
    rw [e]; unfold wrap64; omega
  have hle : (1 : Int) ≤ ((str (1 :: s)).size : Int) := by omega
  go_enter Try.func131, Try.ntmps131
  go_wp2_with fail
  obtain ⟨hR, hF, hW, hB⟩ := two_boxes w 64 64 fd0.cells.toArray #[.int .i64 0, .int .i64 1, .int .i64 0, .int .i64 0, .int .i64 0, .int .i64 0, .int .i64 0, .bool false, .string ⟨#[]⟩]
  refine (rnums_any s 2 _ (by omega) (by omega)).mono ?_
  rintro e w2 ⟨hA, hb2⟩
  replace hF := hF.below hb2 hF.lt
  replace hR := hR.below hb2 hR.lt
  have hB2 : Below w.heap.size w w2 := hB.trans (hb2.mono (Nat.le_trans (by omega : w.heap.size ≤ w.heap.size + 2) (Nat.le_of_eq hW.symm)))
  clear hB hx hne hk hle
  unfold NumsAns at hA
  cases hn : numsRd 2 s with
  | none =>
    rw [hn] at hA
    obtain rfl := hA
    have HN : Hid (recRd (1 :: s) = none) := by show _ = _; simp [recRd, hn]
    clear hn
    go_wp2_with (first
      | (refine wpList_bput (by rfl) _ _ 3 (by rfl) (w.heap.size + 1) 64 _ (by rfl) _ (.int .i64 _) (by rfl) hF (by kernel_rfl) (by simp) (by rfl) (by rfl) ?_; intro w9 hF9 hU9; replace hF := hF9; replace hR := hR.upd hU9 (by omega); replace hB2 := hU9.below hB2 (by omega); clear hF9 hU9; dsimp only [List.set] at hF)
      | (refine wpList_bput (by rfl) _ _ 9 (by rfl) (w.heap.size + 1) 64 _ (by rfl) _ (.string _) (by rfl) hF (by kernel_rfl) (by simp) (by rfl) (by rfl) ?_; intro w9 hF9 hU9; replace hF := hF9; replace hR := hR.upd hU9 (by omega); replace hB2 := hU9.below hB2 (by omega); clear hF9 hU9; dsimp only [List.set] at hF)
      | (refine wpList_bput (by rfl) _ _ 4 (by rfl) (w.heap.size + 1) 64 _ (by rfl) _ (.bool _) (by rfl) hF (by kernel_rfl) (by simp) (by rfl) (by rfl) ?_; intro w9 hF9 hU9; replace hF := hF9; replace hR := hR.upd hU9 (by omega); replace hB2 := hU9.below hB2 (by omega); clear hF9 hU9; dsimp only [List.set] at hF)
      | (refine wpList_bload (by rfl) _ _ (by rfl) (w.heap.size + 1) 64 (by rfl) _ hF _ Try.underlying64 (by rfl) 9 (by rfl) (by kernel_rfl) ?_)
      | (refine wpList_bstore (by rfl) _ _ _ (by rfl) w.heap.size 64 (by rfl) _ _ (by rfl) hR 9 (by rfl) (by kernel_rfl) (by rfl) (by intro x hx; simp at hx; rcases hx with rfl | rfl | rfl | rfl | rfl | rfl | rfl | rfl | rfl <;> rfl) ?_; intro w9 hR9 hU9; replace hR := hR9; replace hF := hF.upd hU9 (by omega); replace hB2 := hU9.below hB2 (by omega); clear hR9 hU9)
      | (refine wpList_bget (by rfl) 3 _ (by rfl) (w.heap.size + 1) 64 _ (by rfl) _ hF _ (by rfl) _ Try.underlying3 (by rfl) ?_))
    exact bodyPost_ret (v := .tuple #[fdV (fdK 1), .bool false]) (results_box2 (by rfl) _ _ w.heap.size 64 _ _ _ (by rfl) hR (by rfl) Try.underlying64 (by rfl) 9 (by rfl) (by kernel_rfl)) rfl ⟨⟨_, false, rfl, HN.out⟩, hB2⟩
  | some p =>
    obtain ⟨l, r⟩ := p
    rw [hn] at hA
    obtain ⟨ad, cap, rfl, hv⟩ := hA
    replace hv := hv.mono (show w.heap.size + 2 ≤ _ from Nat.le_of_eq hW.symm)
    have hl := (numsRd_length 2 s hn).1
    have hrl := (numsRd_length 2 s hn).2
    have hvl := hv.length
    obtain ⟨g, sp, rfl, hg, hgl, hL⟩ := hv.bx (by omega)
    clear hv hvl
    obtain ⟨q, u, rfl⟩ : ∃ q u, l = [q, u] := by match l, hl with | [q, u], _ => exact ⟨q, u, rfl⟩
    cases r with
    | nil =>
      have hre : (str []).toList.isEmpty = true := by rw [str_toList]; rfl
      have HN : Hid (recRd (1 :: s) = some (fdClock ⟨q, u⟩)) := by show _ = _; simp [recRd, hn]
      clear hn hl
      go_wp2_with (first
            | (refine wpList_bput (by rfl) _ _ 3 (by rfl) (w.heap.size + 1) 64 _ (by rfl) _ (.int .i64 _) (by rfl) hF (by kernel_rfl) (by simp) (by rfl) (by rfl) ?_; intro w9 hF9 hU9; replace hF := hF9; replace hR := hR.upd hU9 (by omega); replace hL := hL.upd hU9 (by omega); replace hB2 := hU9.below hB2 (by omega); clear hF9 hU9; dsimp only [List.set] at hF)
            | (refine wpList_bput (by rfl) _ _ 9 (by rfl) (w.heap.size + 1) 64 _ (by rfl) _ (.string _) (by rfl) hF (by kernel_rfl) (by simp) (by rfl) (by rfl) ?_; intro w9 hF9 hU9; replace hF := hF9; replace hR := hR.upd hU9 (by omega); replace hL := hL.upd hU9 (by omega); replace hB2 := hU9.below hB2 (by omega); clear hF9 hU9; dsimp only [List.set] at hF)
            | (refine wpList_bput (by rfl) _ _ 4 (by rfl) (w.heap.size + 1) 64 _ (by rfl) _ (.bool _) (by rfl) hF (by kernel_rfl) (by simp) (by rfl) (by rfl) ?_; intro w9 hF9 hU9; replace hF := hF9; replace hR := hR.upd hU9 (by omega); replace hL := hL.upd hU9 (by omega); replace hB2 := hU9.below hB2 (by omega); clear hF9 hU9; dsimp only [List.set] at hF)
            | (refine wpList_bload (by rfl) _ _ (by rfl) (w.heap.size + 1) 64 (by rfl) _ hF _ Try.underlying64 (by rfl) 9 (by rfl) (by kernel_rfl) ?_)
            | (refine wpList_bstore (by rfl) _ _ _ (by rfl) w.heap.size 64 (by rfl) _ _ (by rfl) hR 9 (by rfl) (by kernel_rfl) (by rfl) (by intro x hx; simp at hx; rcases hx with rfl | rfl | rfl | rfl | rfl | rfl | rfl | rfl | rfl <;> rfl) ?_; intro w9 hR9 hU9; replace hR := hR9; replace hF := hF.upd hU9 (by omega); replace hB2 := hU9.below hB2 (by omega); clear hR9 hU9)
            | (refine wpList_bget (by rfl) 3 _ (by rfl) (w.heap.size + 1) 64 _ (by rfl) _ hF _ (by rfl) _ Try.underlying3 (by rfl) ?_)
            | (refine wpList_bget (by rfl) 3 _ (by rfl) g 3 _ (by rfl) _ hL _ (by rfl) _ Try.underlying3 (by rfl) ?_))
      exact bodyPost_ret (v := .tuple #[fdV (fdClock ⟨q, u⟩), .bool true]) (results_box2 (by rfl) _ _ w.heap.size 64 _ _ _ (by rfl) hR (by rfl) Try.underlying64 (by rfl) 9 (by rfl) (by kernel_rfl)) rfl ⟨⟨_, true, rfl, HN.out⟩, hB2⟩

    | cons c t =>
      have hre : (str (c :: t)).toList.isEmpty = false := by rw [str_toList]; rfl
      have HN : Hid (recRd (1 :: s) = none) := by show _ = _; simp [recRd, hn]
      clear hn hl
      go_wp2_with (first
            | (refine wpList_bput (by rfl) _ _ 3 (by rfl) (w.heap.size + 1) 64 _ (by rfl) _ (.int .i64 _) (by rfl) hF (by kernel_rfl) (by simp) (by rfl) (by rfl) ?_; intro w9 hF9 hU9; replace hF := hF9; replace hR := hR.upd hU9 (by omega); replace hL := hL.upd hU9 (by omega); replace hB2 := hU9.below hB2 (by omega); clear hF9 hU9; dsimp only [List.set] at hF)
            | (refine wpList_bput (by rfl) _ _ 9 (by rfl) (w.heap.size + 1) 64 _ (by rfl) _ (.string _) (by rfl) hF (by kernel_rfl) (by simp) (by rfl) (by rfl) ?_; intro w9 hF9 hU9; replace hF := hF9; replace hR := hR.upd hU9 (by omega); replace hL := hL.upd hU9 (by omega); replace hB2 := hU9.below hB2 (by omega); clear hF9 hU9; dsimp only [List.set] at hF)
            | (refine wpList_bput (by rfl) _ _ 4 (by rfl) (w.heap.size + 1) 64 _ (by rfl) _ (.bool _) (by rfl) hF (by kernel_rfl) (by simp) (by rfl) (by rfl) ?_; intro w9 hF9 hU9; replace hF := hF9; replace hR := hR.upd hU9 (by omega); replace hL := hL.upd hU9 (by omega); replace hB2 := hU9.below hB2 (by omega); clear hF9 hU9; dsimp only [List.set] at hF)
            | (refine wpList_bload (by rfl) _ _ (by rfl) (w.heap.size + 1) 64 (by rfl) _ hF _ Try.underlying64 (by rfl) 9 (by rfl) (by kernel_rfl) ?_)
            | (refine wpList_bstore (by rfl) _ _ _ (by rfl) w.heap.size 64 (by rfl) _ _ (by rfl) hR 9 (by rfl) (by kernel_rfl) (by rfl) (by intro x hx; simp at hx; rcases hx with rfl | rfl | rfl | rfl | rfl | rfl | rfl | rfl | rfl <;> rfl) ?_; intro w9 hR9 hU9; replace hR := hR9; replace hF := hF.upd hU9 (by omega); replace hB2 := hU9.below hB2 (by omega); clear hR9 hU9)
            | (refine wpList_bget (by rfl) 3 _ (by rfl) (w.heap.size + 1) 64 _ (by rfl) _ hF _ (by rfl) _ Try.underlying3 (by rfl) ?_)
            | (refine wpList_bget (by rfl) 3 _ (by rfl) g 3 _ (by rfl) _ hL _ (by rfl) _ Try.underlying3 (by rfl) ?_))
      exact bodyPost_ret (v := .tuple #[fdV (fdClock ⟨q, u⟩), .bool false]) (results_box2 (by rfl) _ _ w.heap.size 64 _ _ _ (by rfl) hR (by rfl) Try.underlying64 (by rfl) 9 (by rfl) (by kernel_rfl)) rfl ⟨⟨_, false, rfl, HN.out⟩, hB2⟩

end Go.Proofs.Ytdjpkgaicmklmaa

/- Records read back: the reference's record, walked (cards). -/
namespace Go.Proofs.Ytdjpkgaicmklmaa
open Go.RowKit

set_option maxRecDepth 100000 in
set_option maxHeartbeats 4000000 in
theorem rec_card (s : List UInt8) (w : World) (hs : s.length ≤ 9223372036854775806) :
    Calls Try.prog 131 #[.string (str (2 :: s))] w fun e w' => RecAns (2 :: s) e ∧ Below w.heap.size w w' := by
  have h0 : 0 < (str (2 :: s)).size := by rw [str_size]; simp
  have hx : (str (2 :: s)).extract 1 (str (2 :: s)).size = str s := by rw [str_extract, str_size]; simp
  have hne : (str (2 :: s)).toList.isEmpty = false := by rw [str_toList]; rfl
  have hk : wrap64 (((str (2 :: s))[0]'h0).toNat : Int) = 2 := by
    have e : ((str (2 :: s))[0]'h0).toNat = 2 := rfl
    rw [e]; unfold wrap64; omega
  have hle : (1 : Int) ≤ ((str (2 :: s)).size : Int) := by omega
  go_enter Try.func131, Try.ntmps131
  go_wp2_with fail
  obtain ⟨hR, hF, hW, hB⟩ := two_boxes w 64 64 fd0.cells.toArray #[.int .i64 0, .int .i64 2, .int .i64 0, .int .i64 0, .int .i64 0, .int .i64 0, .int .i64 0, .bool false, .string ⟨#[]⟩]
  refine (rnums_any s 3 _ (by omega) (by omega)).mono ?_
  rintro e w2 ⟨hA, hb2⟩
  replace hF := hF.below hb2 hF.lt
  replace hR := hR.below hb2 hR.lt
  have hB2 : Below w.heap.size w w2 := hB.trans (hb2.mono (Nat.le_trans (by omega : w.heap.size ≤ w.heap.size + 2) (Nat.le_of_eq hW.symm)))
  clear hB hx hne hk hle
  unfold NumsAns at hA
  cases hn : numsRd 3 s with
  | none =>
    rw [hn] at hA
    obtain rfl := hA
    have HN : Hid (recRd (2 :: s) = none) := by show _ = _; simp [recRd, hn]
    clear hn
    go_wp2_with (first
      | (refine wpList_bput (by rfl) _ _ 3 (by rfl) (w.heap.size + 1) 64 _ (by rfl) _ (.int .i64 _) (by rfl) hF (by kernel_rfl) (by simp) (by rfl) (by rfl) ?_; intro w9 hF9 hU9; replace hF := hF9; replace hR := hR.upd hU9 (by omega); replace hB2 := hU9.below hB2 (by omega); clear hF9 hU9; dsimp only [List.set] at hF)
      | (refine wpList_bput (by rfl) _ _ 9 (by rfl) (w.heap.size + 1) 64 _ (by rfl) _ (.string _) (by rfl) hF (by kernel_rfl) (by simp) (by rfl) (by rfl) ?_; intro w9 hF9 hU9; replace hF := hF9; replace hR := hR.upd hU9 (by omega); replace hB2 := hU9.below hB2 (by omega); clear hF9 hU9; dsimp only [List.set] at hF)
      | (refine wpList_bput (by rfl) _ _ 4 (by rfl) (w.heap.size + 1) 64 _ (by rfl) _ (.bool _) (by rfl) hF (by kernel_rfl) (by simp) (by rfl) (by rfl) ?_; intro w9 hF9 hU9; replace hF := hF9; replace hR := hR.upd hU9 (by omega); replace hB2 := hU9.below hB2 (by omega); clear hF9 hU9; dsimp only [List.set] at hF)
      | (refine wpList_bload (by rfl) _ _ (by rfl) (w.heap.size + 1) 64 (by rfl) _ hF _ Try.underlying64 (by rfl) 9 (by rfl) (by kernel_rfl) ?_)
      | (refine wpList_bstore (by rfl) _ _ _ (by rfl) w.heap.size 64 (by rfl) _ _ (by rfl) hR 9 (by rfl) (by kernel_rfl) (by rfl) (by intro x hx; simp at hx; rcases hx with rfl | rfl | rfl | rfl | rfl | rfl | rfl | rfl | rfl <;> rfl) ?_; intro w9 hR9 hU9; replace hR := hR9; replace hF := hF.upd hU9 (by omega); replace hB2 := hU9.below hB2 (by omega); clear hR9 hU9)
      | (refine wpList_bget (by rfl) 3 _ (by rfl) (w.heap.size + 1) 64 _ (by rfl) _ hF _ (by rfl) _ Try.underlying3 (by rfl) ?_))
    exact bodyPost_ret (v := .tuple #[fdV (fdK 2), .bool false]) (results_box2 (by rfl) _ _ w.heap.size 64 _ _ _ (by rfl) hR (by rfl) Try.underlying64 (by rfl) 9 (by rfl) (by kernel_rfl)) rfl ⟨⟨_, false, rfl, HN.out⟩, hB2⟩
  | some p =>
    obtain ⟨l, r⟩ := p
    rw [hn] at hA
    obtain ⟨ad, cap, rfl, hv⟩ := hA
    replace hv := hv.mono (show w.heap.size + 2 ≤ _ from Nat.le_of_eq hW.symm)
    have hl := (numsRd_length 3 s hn).1
    have hrl := (numsRd_length 3 s hn).2
    have hvl := hv.length
    obtain ⟨g, sp, rfl, hg, hgl, hL⟩ := hv.bx (by omega)
    clear hv hvl
    obtain ⟨q, u, d, rfl⟩ : ∃ q u d, l = [q, u, d] := by match l, hl with | [q, u, d], _ => exact ⟨q, u, d, rfl⟩
    cases r with
    | nil =>
      have hre : (str []).toList.isEmpty = true := by rw [str_toList]; rfl
      have HN : Hid (recRd (2 :: s) = none) := by show _ = _; simp [recRd, hn]
      clear hn hl
      go_wp2_with (first
            | (refine wpList_bput (by rfl) _ _ 3 (by rfl) (w.heap.size + 1) 64 _ (by rfl) _ (.int .i64 _) (by rfl) hF (by kernel_rfl) (by simp) (by rfl) (by rfl) ?_; intro w9 hF9 hU9; replace hF := hF9; replace hR := hR.upd hU9 (by omega); replace hL := hL.upd hU9 (by omega); replace hB2 := hU9.below hB2 (by omega); clear hF9 hU9; dsimp only [List.set] at hF)
            | (refine wpList_bput (by rfl) _ _ 9 (by rfl) (w.heap.size + 1) 64 _ (by rfl) _ (.string _) (by rfl) hF (by kernel_rfl) (by simp) (by rfl) (by rfl) ?_; intro w9 hF9 hU9; replace hF := hF9; replace hR := hR.upd hU9 (by omega); replace hL := hL.upd hU9 (by omega); replace hB2 := hU9.below hB2 (by omega); clear hF9 hU9; dsimp only [List.set] at hF)
            | (refine wpList_bput (by rfl) _ _ 4 (by rfl) (w.heap.size + 1) 64 _ (by rfl) _ (.bool _) (by rfl) hF (by kernel_rfl) (by simp) (by rfl) (by rfl) ?_; intro w9 hF9 hU9; replace hF := hF9; replace hR := hR.upd hU9 (by omega); replace hL := hL.upd hU9 (by omega); replace hB2 := hU9.below hB2 (by omega); clear hF9 hU9; dsimp only [List.set] at hF)
            | (refine wpList_bload (by rfl) _ _ (by rfl) (w.heap.size + 1) 64 (by rfl) _ hF _ Try.underlying64 (by rfl) 9 (by rfl) (by kernel_rfl) ?_)
            | (refine wpList_bstore (by rfl) _ _ _ (by rfl) w.heap.size 64 (by rfl) _ _ (by rfl) hR 9 (by rfl) (by kernel_rfl) (by rfl) (by intro x hx; simp at hx; rcases hx with rfl | rfl | rfl | rfl | rfl | rfl | rfl | rfl | rfl <;> rfl) ?_; intro w9 hR9 hU9; replace hR := hR9; replace hF := hF.upd hU9 (by omega); replace hB2 := hU9.below hB2 (by omega); clear hR9 hU9)
            | (refine wpList_bget (by rfl) 3 _ (by rfl) (w.heap.size + 1) 64 _ (by rfl) _ hF _ (by rfl) _ Try.underlying3 (by rfl) ?_)
            | (refine wpList_bget (by rfl) 3 _ (by rfl) g 3 _ (by rfl) _ hL _ (by rfl) _ Try.underlying3 (by rfl) ?_))
      exact bodyPost_ret (v := .tuple #[fdV (⟨0, 2, 0, 0, q, u, d, false, ⟨#[]⟩⟩), .bool false]) (results_box2 (by rfl) _ _ w.heap.size 64 _ _ _ (by rfl) hR (by rfl) Try.underlying64 (by rfl) 9 (by rfl) (by kernel_rfl)) rfl ⟨⟨_, false, rfl, HN.out⟩, hB2⟩

    | cons c t =>
      have hre : (str (c :: t)).toList.isEmpty = false := by rw [str_toList]; rfl
      have hr0 : 0 < (str (c :: t)).size := by rw [str_size]; simp
      have hrx : (str (c :: t)).extract 1 (str (c :: t)).size = str t := by rw [str_extract, str_size]; simp
      have hrl2 : (1 : Int) ≤ ((str (c :: t)).size : Int) := by omega
      by_cases hc : c.toNat ≤ 1
      · by_cases hc0 : c = 0
        · subst hc0
          have hk : ((str (0 :: t))[0]'hr0).toNat = 0 := rfl
          have HN : Hid (recRd (2 :: s) = some (fdCard ⟨q, u, d, false, str t⟩)) := by show _ = _; simp [recRd, hn]
          clear hn hl
          go_wp2_with (first
                | (refine wpList_bput (by rfl) _ _ 3 (by rfl) (w.heap.size + 1) 64 _ (by rfl) _ (.int .i64 _) (by rfl) hF (by kernel_rfl) (by simp) (by rfl) (by rfl) ?_; intro w9 hF9 hU9; replace hF := hF9; replace hR := hR.upd hU9 (by omega); replace hL := hL.upd hU9 (by omega); replace hB2 := hU9.below hB2 (by omega); clear hF9 hU9; dsimp only [List.set] at hF)
                | (refine wpList_bput (by rfl) _ _ 9 (by rfl) (w.heap.size + 1) 64 _ (by rfl) _ (.string _) (by rfl) hF (by kernel_rfl) (by simp) (by rfl) (by rfl) ?_; intro w9 hF9 hU9; replace hF := hF9; replace hR := hR.upd hU9 (by omega); replace hL := hL.upd hU9 (by omega); replace hB2 := hU9.below hB2 (by omega); clear hF9 hU9; dsimp only [List.set] at hF)
                | (refine wpList_bput (by rfl) _ _ 4 (by rfl) (w.heap.size + 1) 64 _ (by rfl) _ (.bool _) (by rfl) hF (by kernel_rfl) (by simp) (by rfl) (by rfl) ?_; intro w9 hF9 hU9; replace hF := hF9; replace hR := hR.upd hU9 (by omega); replace hL := hL.upd hU9 (by omega); replace hB2 := hU9.below hB2 (by omega); clear hF9 hU9; dsimp only [List.set] at hF)
                | (refine wpList_bload (by rfl) _ _ (by rfl) (w.heap.size + 1) 64 (by rfl) _ hF _ Try.underlying64 (by rfl) 9 (by rfl) (by kernel_rfl) ?_)
                | (refine wpList_bstore (by rfl) _ _ _ (by rfl) w.heap.size 64 (by rfl) _ _ (by rfl) hR 9 (by rfl) (by kernel_rfl) (by rfl) (by intro x hx; simp at hx; rcases hx with rfl | rfl | rfl | rfl | rfl | rfl | rfl | rfl | rfl <;> rfl) ?_; intro w9 hR9 hU9; replace hR := hR9; replace hF := hF.upd hU9 (by omega); replace hB2 := hU9.below hB2 (by omega); clear hR9 hU9)
                | (refine wpList_bget (by rfl) 3 _ (by rfl) (w.heap.size + 1) 64 _ (by rfl) _ hF _ (by rfl) _ Try.underlying3 (by rfl) ?_)
                | (refine wpList_bget (by rfl) 3 _ (by rfl) g 3 _ (by rfl) _ hL _ (by rfl) _ Try.underlying3 (by rfl) ?_))
          exact bodyPost_ret (v := .tuple #[fdV (fdCard ⟨q, u, d, false, str t⟩), .bool true]) (results_box2 (by rfl) _ _ w.heap.size 64 _ _ _ (by rfl) hR (by rfl) Try.underlying64 (by rfl) 9 (by rfl) (by kernel_rfl)) rfl ⟨⟨_, true, rfl, HN.out⟩, hB2⟩

        · have hc1 : c = 1 := by have : c.toNat ≠ 0 := fun h => hc0 (UInt8.toNat_inj.1 h); exact UInt8.toNat_inj.1 (by show c.toNat = 1; omega)
          subst hc1
          have hk : ((str (1 :: t))[0]'hr0).toNat = 1 := rfl
          have HN : Hid (recRd (2 :: s) = some (fdCard ⟨q, u, d, true, str t⟩)) := by show _ = _; simp [recRd, hn]
          clear hn hl
          go_wp2_with (first
                | (refine wpList_bput (by rfl) _ _ 3 (by rfl) (w.heap.size + 1) 64 _ (by rfl) _ (.int .i64 _) (by rfl) hF (by kernel_rfl) (by simp) (by rfl) (by rfl) ?_; intro w9 hF9 hU9; replace hF := hF9; replace hR := hR.upd hU9 (by omega); replace hL := hL.upd hU9 (by omega); replace hB2 := hU9.below hB2 (by omega); clear hF9 hU9; dsimp only [List.set] at hF)
                | (refine wpList_bput (by rfl) _ _ 9 (by rfl) (w.heap.size + 1) 64 _ (by rfl) _ (.string _) (by rfl) hF (by kernel_rfl) (by simp) (by rfl) (by rfl) ?_; intro w9 hF9 hU9; replace hF := hF9; replace hR := hR.upd hU9 (by omega); replace hL := hL.upd hU9 (by omega); replace hB2 := hU9.below hB2 (by omega); clear hF9 hU9; dsimp only [List.set] at hF)
                | (refine wpList_bput (by rfl) _ _ 4 (by rfl) (w.heap.size + 1) 64 _ (by rfl) _ (.bool _) (by rfl) hF (by kernel_rfl) (by simp) (by rfl) (by rfl) ?_; intro w9 hF9 hU9; replace hF := hF9; replace hR := hR.upd hU9 (by omega); replace hL := hL.upd hU9 (by omega); replace hB2 := hU9.below hB2 (by omega); clear hF9 hU9; dsimp only [List.set] at hF)
                | (refine wpList_bload (by rfl) _ _ (by rfl) (w.heap.size + 1) 64 (by rfl) _ hF _ Try.underlying64 (by rfl) 9 (by rfl) (by kernel_rfl) ?_)
                | (refine wpList_bstore (by rfl) _ _ _ (by rfl) w.heap.size 64 (by rfl) _ _ (by rfl) hR 9 (by rfl) (by kernel_rfl) (by rfl) (by intro x hx; simp at hx; rcases hx with rfl | rfl | rfl | rfl | rfl | rfl | rfl | rfl | rfl <;> rfl) ?_; intro w9 hR9 hU9; replace hR := hR9; replace hF := hF.upd hU9 (by omega); replace hB2 := hU9.below hB2 (by omega); clear hR9 hU9)
                | (refine wpList_bget (by rfl) 3 _ (by rfl) (w.heap.size + 1) 64 _ (by rfl) _ hF _ (by rfl) _ Try.underlying3 (by rfl) ?_)
                | (refine wpList_bget (by rfl) 3 _ (by rfl) g 3 _ (by rfl) _ hL _ (by rfl) _ Try.underlying3 (by rfl) ?_))
          exact bodyPost_ret (v := .tuple #[fdV (fdCard ⟨q, u, d, true, str t⟩), .bool true]) (results_box2 (by rfl) _ _ w.heap.size 64 _ _ _ (by rfl) hR (by rfl) Try.underlying64 (by rfl) 9 (by rfl) (by kernel_rfl)) rfl ⟨⟨_, true, rfl, HN.out⟩, hB2⟩

      · have hk : 1 < ((str (c :: t))[0]'hr0).toNat := by have e : ((str (c :: t))[0]'hr0).toNat = c.toNat := rfl; omega
        have HN : Hid (recRd (2 :: s) = none) := by show _ = _; simp only [recRd, hn]; simp [hc]
        clear hn hl
        go_wp2_with (first
              | (refine wpList_bput (by rfl) _ _ 3 (by rfl) (w.heap.size + 1) 64 _ (by rfl) _ (.int .i64 _) (by rfl) hF (by kernel_rfl) (by simp) (by rfl) (by rfl) ?_; intro w9 hF9 hU9; replace hF := hF9; replace hR := hR.upd hU9 (by omega); replace hL := hL.upd hU9 (by omega); replace hB2 := hU9.below hB2 (by omega); clear hF9 hU9; dsimp only [List.set] at hF)
              | (refine wpList_bput (by rfl) _ _ 9 (by rfl) (w.heap.size + 1) 64 _ (by rfl) _ (.string _) (by rfl) hF (by kernel_rfl) (by simp) (by rfl) (by rfl) ?_; intro w9 hF9 hU9; replace hF := hF9; replace hR := hR.upd hU9 (by omega); replace hL := hL.upd hU9 (by omega); replace hB2 := hU9.below hB2 (by omega); clear hF9 hU9; dsimp only [List.set] at hF)
              | (refine wpList_bput (by rfl) _ _ 4 (by rfl) (w.heap.size + 1) 64 _ (by rfl) _ (.bool _) (by rfl) hF (by kernel_rfl) (by simp) (by rfl) (by rfl) ?_; intro w9 hF9 hU9; replace hF := hF9; replace hR := hR.upd hU9 (by omega); replace hL := hL.upd hU9 (by omega); replace hB2 := hU9.below hB2 (by omega); clear hF9 hU9; dsimp only [List.set] at hF)
              | (refine wpList_bload (by rfl) _ _ (by rfl) (w.heap.size + 1) 64 (by rfl) _ hF _ Try.underlying64 (by rfl) 9 (by rfl) (by kernel_rfl) ?_)
              | (refine wpList_bstore (by rfl) _ _ _ (by rfl) w.heap.size 64 (by rfl) _ _ (by rfl) hR 9 (by rfl) (by kernel_rfl) (by rfl) (by intro x hx; simp at hx; rcases hx with rfl | rfl | rfl | rfl | rfl | rfl | rfl | rfl | rfl <;> rfl) ?_; intro w9 hR9 hU9; replace hR := hR9; replace hF := hF.upd hU9 (by omega); replace hB2 := hU9.below hB2 (by omega); clear hR9 hU9)
              | (refine wpList_bget (by rfl) 3 _ (by rfl) (w.heap.size + 1) 64 _ (by rfl) _ hF _ (by rfl) _ Try.underlying3 (by rfl) ?_)
              | (refine wpList_bget (by rfl) 3 _ (by rfl) g 3 _ (by rfl) _ hL _ (by rfl) _ Try.underlying3 (by rfl) ?_))
        exact bodyPost_ret (v := .tuple #[fdV (⟨0, 2, 0, 0, q, u, d, false, ⟨#[]⟩⟩), .bool false]) (results_box2 (by rfl) _ _ w.heap.size 64 _ _ _ (by rfl) hR (by rfl) Try.underlying64 (by rfl) 9 (by rfl) (by kernel_rfl)) rfl ⟨⟨_, false, rfl, HN.out⟩, hB2⟩

end Go.Proofs.Ytdjpkgaicmklmaa

/- Records read back: the reference's record, walked (the rest). -/
namespace Go.Proofs.Ytdjpkgaicmklmaa
open Go.RowKit

set_option maxRecDepth 100000 in
set_option maxHeartbeats 4000000 in
theorem rec_nil (w : World) : Calls Try.prog 131 #[.string (str [])] w fun e w' => RecAns [] e ∧ Below w.heap.size w w' := by
  have hne : (str []).toList.isEmpty = true := by rw [str_toList]; rfl
  obtain ⟨hR, hF, hW, hB⟩ := two_boxes w 64 64 fd0.cells.toArray fd0.cells.toArray
  go_enter Try.func131, Try.ntmps131
  go_wp2_with (first
      | (refine wpList_bput (by rfl) _ _ 3 (by rfl) (w.heap.size + 1) 64 _ (by rfl) _ (.int .i64 _) (by rfl) hF (by kernel_rfl) (by simp) (by rfl) (by rfl) ?_; intro w9 hF9 hU9; replace hF := hF9; replace hR := hR.upd hU9 (by omega); replace hB := hU9.below hB (by omega); clear hF9 hU9; dsimp only [List.set] at hF)
      | (refine wpList_bput (by rfl) _ _ 9 (by rfl) (w.heap.size + 1) 64 _ (by rfl) _ (.string _) (by rfl) hF (by kernel_rfl) (by simp) (by rfl) (by rfl) ?_; intro w9 hF9 hU9; replace hF := hF9; replace hR := hR.upd hU9 (by omega); replace hB := hU9.below hB (by omega); clear hF9 hU9; dsimp only [List.set] at hF)
      | (refine wpList_bput (by rfl) _ _ 4 (by rfl) (w.heap.size + 1) 64 _ (by rfl) _ (.bool _) (by rfl) hF (by kernel_rfl) (by simp) (by rfl) (by rfl) ?_; intro w9 hF9 hU9; replace hF := hF9; replace hR := hR.upd hU9 (by omega); replace hB := hU9.below hB (by omega); clear hF9 hU9; dsimp only [List.set] at hF)
      | (refine wpList_bload (by rfl) _ _ (by rfl) (w.heap.size + 1) 64 (by rfl) _ hF _ Try.underlying64 (by rfl) 9 (by rfl) (by kernel_rfl) ?_)
      | (refine wpList_bstore (by rfl) _ _ _ (by rfl) w.heap.size 64 (by rfl) _ _ (by rfl) hR 9 (by rfl) (by kernel_rfl) (by rfl) (by intro x hx; simp at hx; rcases hx with rfl | rfl | rfl | rfl | rfl | rfl | rfl | rfl | rfl <;> rfl) ?_; intro w9 hR9 hU9; replace hR := hR9; replace hF := hF.upd hU9 (by omega); replace hB := hU9.below hB (by omega); clear hR9 hU9)
      | (refine wpList_bget (by rfl) 3 _ (by rfl) (w.heap.size + 1) 64 _ (by rfl) _ hF _ (by rfl) _ Try.underlying3 (by rfl) ?_))
  exact bodyPost_ret (v := .tuple #[fdV (fd0), .bool false]) (results_box2 (by rfl) _ _ w.heap.size 64 _ _ _ (by rfl) hR (by rfl) Try.underlying64 (by rfl) 9 (by rfl) (by kernel_rfl)) rfl ⟨⟨_, false, rfl, rfl⟩, hB⟩

set_option maxRecDepth 100000 in
set_option maxHeartbeats 4000000 in
theorem rec_none (c : UInt8) (s : List UInt8) (w : World) (h1 : c ≠ 1) (h2 : c ≠ 2) (h3 : c ≠ 3) (h4 : c ≠ 4) (_hs : s.length ≤ 9223372036854775806) :
    Calls Try.prog 131 #[.string (str (c :: s))] w fun e w' => RecAns (c :: s) e ∧ Below w.heap.size w w' := by
  have h0 : 0 < (str (c :: s)).size := by rw [str_size]; simp
  have hx : (str (c :: s)).extract 1 (str (c :: s)).size = str s := by rw [str_extract, str_size]; simp
  have hne : (str (c :: s)).toList.isEmpty = false := by rw [str_toList]; rfl
  have hcl := c.toNat_lt
  have hk : wrap64 (((str (c :: s))[0]'h0).toNat : Int) = (c.toNat : Int) := by
    have e : ((str (c :: s))[0]'h0).toNat = c.toNat := rfl
    rw [e]; unfold wrap64; omega
  have ne (n : Nat) (d : UInt8) (hd : d.toNat = n) (h : c ≠ d) : ((c.toNat : Int) == (n : Int)) = false := by
    rw [beq_eq_false_iff_ne]; intro e; exact h (UInt8.toNat_inj.1 (by omega))
  have n1 : ((c.toNat : Int) == 1) = false := ne 1 1 rfl h1
  have n2 : ((c.toNat : Int) == 2) = false := ne 2 2 rfl h2
  have n3 : ((c.toNat : Int) == 3) = false := ne 3 3 rfl h3
  have n4 : ((c.toNat : Int) == 4) = false := ne 4 4 rfl h4
  have hle : (1 : Int) ≤ ((str (c :: s)).size : Int) := by omega
  have HN : Hid (recRd (c :: s) = none) := by show _ = _; simp [recRd, h1, h2, h3, h4]
  obtain ⟨hR, hF, hW, hB⟩ := two_boxes w 64 64 fd0.cells.toArray #[.int .i64 0, .int .i64 (c.toNat : Int), .int .i64 0, .int .i64 0, .int .i64 0, .int .i64 0, .int .i64 0, .bool false, .string ⟨#[]⟩]
  clear h1 h2 h3 h4 ne
  go_enter Try.func131, Try.ntmps131
  go_wp2_with (first
      | (refine wpList_bput (by rfl) _ _ 3 (by rfl) (w.heap.size + 1) 64 _ (by rfl) _ (.int .i64 _) (by rfl) hF (by kernel_rfl) (by simp) (by rfl) (by rfl) ?_; intro w9 hF9 hU9; replace hF := hF9; replace hR := hR.upd hU9 (by omega); replace hB := hU9.below hB (by omega); clear hF9 hU9; dsimp only [List.set] at hF)
      | (refine wpList_bput (by rfl) _ _ 9 (by rfl) (w.heap.size + 1) 64 _ (by rfl) _ (.string _) (by rfl) hF (by kernel_rfl) (by simp) (by rfl) (by rfl) ?_; intro w9 hF9 hU9; replace hF := hF9; replace hR := hR.upd hU9 (by omega); replace hB := hU9.below hB (by omega); clear hF9 hU9; dsimp only [List.set] at hF)
      | (refine wpList_bput (by rfl) _ _ 4 (by rfl) (w.heap.size + 1) 64 _ (by rfl) _ (.bool _) (by rfl) hF (by kernel_rfl) (by simp) (by rfl) (by rfl) ?_; intro w9 hF9 hU9; replace hF := hF9; replace hR := hR.upd hU9 (by omega); replace hB := hU9.below hB (by omega); clear hF9 hU9; dsimp only [List.set] at hF)
      | (refine wpList_bload (by rfl) _ _ (by rfl) (w.heap.size + 1) 64 (by rfl) _ hF _ Try.underlying64 (by rfl) 9 (by rfl) (by kernel_rfl) ?_)
      | (refine wpList_bstore (by rfl) _ _ _ (by rfl) w.heap.size 64 (by rfl) _ _ (by rfl) hR 9 (by rfl) (by kernel_rfl) (by rfl) (by intro x hx; simp at hx; rcases hx with rfl | rfl | rfl | rfl | rfl | rfl | rfl | rfl | rfl <;> rfl) ?_; intro w9 hR9 hU9; replace hR := hR9; replace hF := hF.upd hU9 (by omega); replace hB := hU9.below hB (by omega); clear hR9 hU9)
      | (refine wpList_bget (by rfl) 3 _ (by rfl) (w.heap.size + 1) 64 _ (by rfl) _ hF _ (by rfl) _ Try.underlying3 (by rfl) ?_))
  exact bodyPost_ret (v := .tuple #[fdV (fdK c.toNat), .bool false]) (results_box2 (by rfl) _ _ w.heap.size 64 _ _ _ (by rfl) hR (by rfl) Try.underlying64 (by rfl) 9 (by rfl) (by kernel_rfl)) rfl ⟨⟨_, false, rfl, HN.out⟩, hB⟩

theorem rrecord_any (s : List UInt8) (w : World) (hs : s.length ≤ 9223372036854775806) :
    Calls Try.prog 131 #[.string (str s)] w fun e w' => RecAns s e ∧ Below w.heap.size w w' := by
  match s, hs with
  | [], _ => exact rec_nil w
  | c :: s, hs =>
    have hs' : s.length ≤ 9223372036854775806 := by simp at hs; omega
    by_cases h1 : c = 1
    · subst h1; exact rec_clock s w hs'
    · by_cases h2 : c = 2
      · subst h2; exact rec_card s w hs'
      · by_cases h3 : c = 3
        · subst h3; exact rec_edit s w hs'
        · by_cases h4 : c = 4
          · subst h4; exact rec_head s w hs'
          · exact rec_none c s w h1 h2 h3 h4 hs'
end Go.Proofs.Ytdjpkgaicmklmaa

/- Frames read back: the reference's stands, walked. -/
namespace Go.Proofs.Ytdjpkgaicmklmaa
open Go.RowKit

/-- The frame with which bytes begin: its record, and how many bytes it has. -/
def standRd : List UInt8 → Option (Fd × Nat)
  | x :: y :: k :: t => if x = 245 ∧ y = 95 then
      if k.toNat = 0 ∨ t.length < k.toNat + 4 then none
      else if fourI (crc pSum (k :: t.take k.toNat)) = (t.drop k.toNat).take 4 then (recRd (t.take k.toNat)).map fun f => (f, k.toNat + 7) else none
    else none
  | _ => none
def Fd.putI (f : Fd) (a : Int) : Fd := { f with at_ := a }
/-- What stands answers at a place. -/
def standV (a : Int) (x : Option (Fd × Nat)) : Value := match x with
  | some (f, n) => .tuple #[fdV (f.putI a), .int .i64 (n : Nat)]
  | none => .tuple #[fdV fd0, .int .i64 0]


theorem standRd_short (s : List UInt8) (h : s.length < 8) : standRd s = none := by
  match s, h with
  | [], _ | [_], _ | [_, _], _ => rfl
  | x :: y :: k :: t, h =>
    simp only [standRd]
    split
    · split
      · rfl
      · rename_i h2; simp at h; omega
    · rfl

set_option maxRecDepth 100000 in
set_option maxHeartbeats 4000000 in
theorem rstands_any (b : List UInt8) (i : Nat) (w : World) (hb : b.length ≤ 1099511627776) (hi : i ≤ b.length) :
    Calls Try.prog 89 #[.string (str b), .int .i64 i] w fun e w' => e = .returned (standV i (standRd (b.drop i))) ∧ Below w.heap.size w w' := by
  have hz := str_size b
  have HZ : Hid ((str b).size = b.length) := hz
  obtain ⟨hR, hW, hB⟩ := one_box w 64 fd0.cells.toArray
  have hib : i ≤ (str b).size := by omega
  have hbb : (str b).size ≤ 1099511627776 := by omega
  by_cases h8 : (str b).size < i + 8
  · have HN : Hid (standRd (b.drop i) = none) := standRd_short _ (by simp; omega)
    clear hz
    go_enter Try.func89, Try.ntmps89
    go_wp2_with fail
    exact bodyPost_ret (v := .tuple #[fdV fd0, .int .i64 0]) (results_box2 (by rfl) _ _ w.heap.size 64 _ _ _ (by rfl) hR (by rfl) Try.underlying64 (by rfl) 9 (by rfl) (by kernel_rfl)) rfl ⟨by rw [HN.out]; rfl, hB⟩
  · obtain ⟨x, y, k, t, hd, ht⟩ : ∃ x y k t, b.drop i = x :: y :: k :: t ∧ t.length + 3 + i = b.length := by
      have hl : (b.drop i).length = b.length - i := by simp
      match hh : b.drop i with
      | [] | [_] | [_, _] => rw [hh] at hl; simp at hl; omega
      | x :: y :: k :: t => exact ⟨x, y, k, t, rfl, by rw [hh] at hl; simp at hl; omega⟩
    have l0 : i < (str b).size := by omega
    have l1 : i + 1 < (str b).size := by omega
    have l2 : i + 2 < (str b).size := by omega
    have at_ (j : Nat) (h : i + j < (str b).size) (v : UInt8) (hv : (b.drop i)[j]? = some v) : ((str b)[i + j]'h) = v := by
      rw [List.getElem?_drop] at hv
      exact (List.getElem?_eq_some_iff.1 hv).2
    have ex : ((str b)[i]'l0) = x := at_ 0 l0 x (by rw [hd]; rfl)
    have ey : ((str b)[i + 1]'l1) = y := at_ 1 l1 y (by rw [hd]; rfl)
    have ek : ((str b)[i + 2]'l2) = k := at_ 2 l2 k (by rw [hd]; rfl)
    clear at_
    rw [hd]
    by_cases hx : x = 245
    · by_cases hy : y = 95
      · subst hx hy
        have hx' : ((str b)[i]'l0).toNat = 245 := by rw [ex]; rfl
        have hy' : ((str b)[i + 1]'l1).toNat = 95 := by rw [ey]; rfl
        have hkl := k.toNat_lt
        have hk' : wrap64 (((str b)[i + 2]'l2).toNat : Int) = (k.toNat : Int) := by rw [ek]; unfold wrap64; omega
        clear ex ey ek
        by_cases hk0 : k.toNat = 0
        · have hk0' : ((k.toNat : Int) == 0) = true := by simp [hk0]
          have HN : Hid (standRd (245 :: 95 :: k :: t) = none) := by show _ = _; simp [standRd, hk0]
          clear hz hd
          go_enter Try.func89, Try.ntmps89
          go_wp2_with fail
          exact bodyPost_ret (v := .tuple #[fdV fd0, .int .i64 0]) (results_box2 (by rfl) _ _ w.heap.size 64 _ _ _ (by rfl) hR (by rfl) Try.underlying64 (by rfl) 9 (by rfl) (by kernel_rfl)) rfl ⟨by rw [HN.out]; rfl, hB⟩
        · have hk0' : ((k.toNat : Int) == 0) = false := by simp; omega
          by_cases hn : (str b).size < i + k.toNat + 7
          · have HN : Hid (standRd (245 :: 95 :: k :: t) = none) := by show _ = _; simp only [standRd]; simp [show t.length < k.toNat + 4 by omega]
            clear hz hd
            go_enter Try.func89, Try.ntmps89
            go_wp2_with fail
            exact bodyPost_ret (v := .tuple #[fdV fd0, .int .i64 0]) (results_box2 (by rfl) _ _ w.heap.size 64 _ _ _ (by rfl) hR (by rfl) Try.underlying64 (by rfl) 9 (by rfl) (by kernel_rfl)) rfl ⟨by rw [HN.out]; rfl, hB⟩
          · have hdt (j : Nat) : b.drop (i + (j + 3)) = t.drop j := by rw [← List.drop_drop, hd]; rfl
            have x1 : (str b).extract (i + 3) (i + 3 + k.toNat) = str (t.take k.toNat) := by rw [str_extract, hdt 0]; simp
            have x2 : (str b).extract (i + 2) (i + 3 + k.toNat) = str (k :: t.take k.toNat) := by
              rw [str_extract, ← List.drop_drop, hd, show i + 3 + k.toNat - (i + 2) = k.toNat + 1 by omega]; rfl
            have x3 : (str b).extract (i + 3 + k.toNat) (i + 7 + k.toNat) = str ((t.drop k.toNat).take 4) := by
              rw [str_extract, show i + 3 + k.toNat = i + (k.toNat + 3) by omega, hdt, show i + 7 + k.toNat - (i + (k.toNat + 3)) = 4 by omega]
            have hlt : (k :: t.take k.toNat).length ≤ 8796093022208 := by simp; omega
            have hlr : (t.take k.toNat).length ≤ 9223372036854775806 := by simp; omega
            have hfl : ¬ (k.toNat = 0 ∨ t.length < k.toNat + 4) := by omega
            clear hz hd hdt
            go_enter Try.func89, Try.ntmps89
            go_wp2_with fail
            refine (rsum_any (k :: t.take k.toNat) _ hlt).mono ?_
            rintro e w1 ⟨rfl, hb1⟩
            replace hR := hR.below hb1 hR.lt
            replace hB := hB.trans (hb1.mono (Nat.le_of_lt hR.lt |> fun _ => Nat.le_trans (Nat.le_succ _) (Nat.le_of_eq hW.symm)))
            have hc := crc_lt (p := pSum) (by decide) (k :: t.take k.toNat)
            go_wp2_with fail
            refine (rfour_any _ _ (by omega) (by omega)).mono ?_
            rintro e w2 ⟨rfl, hb2⟩
            replace hR := hR.below hb2 hR.lt
            replace hB := hB.trans (hb2.mono (Nat.le_trans (Nat.le_refl _) hB.size))
            clear hb1 hb2
            by_cases hq : fourI (crc pSum (k :: t.take k.toNat)) = (t.drop k.toNat).take 4
            · have hqb : ((str (fourI (crc pSum (k :: t.take k.toNat)))).toList != (str ((t.drop k.toNat).take 4)).toList) = false := by rw [bne, str_beq, hq]; simp
              go_wp2_with fail
              refine (rrecord_any (t.take k.toNat) _ hlr).mono ?_
              rintro e w3 ⟨⟨f, o, rfl, hf⟩, hb3⟩
              replace hR := hR.below hb3 hR.lt
              replace hB := hB.trans (hb3.mono hB.size)
              cases o with
              | false =>
                have HN : Hid (standRd (245 :: 95 :: k :: t) = none) := by
                  show _ = _; simp only [standRd, if_neg hfl, if_pos hq]; rw [hf]; rfl
                clear hf hb3
                go_wp2_with (first
                  | (refine wpList_bstore (by rfl) _ _ _ (by rfl) w.heap.size 64 (by rfl) _ _ (by rfl) hR 9 (by rfl) (by kernel_rfl) (by rfl) (by intro x hx; simp at hx; rcases hx with rfl | rfl | rfl | rfl | rfl | rfl | rfl | rfl | rfl <;> rfl) ?_; intro w9 hR9 hU9; replace hR := hR9; replace hB := hU9.below hB (Nat.le_refl _); clear hR9 hU9)
                  | (refine wpList_bstore (by rfl) _ _ _ (by rfl) w.heap.size 64 (by rfl) _ _ (by rfl) (hR.alloc _) 9 (by rfl) (by kernel_rfl) (by rfl) (by intro x hx; simp at hx; rcases hx with rfl | rfl | rfl | rfl | rfl | rfl | rfl | rfl | rfl <;> rfl) ?_; intro w9 hR9 hU9; replace hR := hR9; replace hB := hU9.below (hB.alloc hB.size _) (Nat.le_refl _); clear hR9 hU9))
                exact bodyPost_ret (v := .tuple #[fdV fd0, .int .i64 0]) (results_box2 (by rfl) _ _ w.heap.size 64 _ _ _ (by rfl) hR (by rfl) Try.underlying64 (by rfl) 9 (by rfl) (by kernel_rfl)) rfl ⟨by rw [HN.out]; rfl, hB⟩
              | true =>
                have HN : Hid (standRd (245 :: 95 :: k :: t) = some (f, k.toNat + 7)) := by
                  show _ = _; simp only [standRd, if_neg hfl, if_pos hq]; rw [hf]; rfl
                clear hf hb3
                go_wp2_with (first
                  | (refine wpList_bstore (by rfl) _ _ _ (by rfl) w.heap.size 64 (by rfl) _ _ (by rfl) hR 9 (by rfl) (by kernel_rfl) (by rfl) (by intro x hx; simp at hx; rcases hx with rfl | rfl | rfl | rfl | rfl | rfl | rfl | rfl | rfl <;> rfl) ?_; intro w9 hR9 hU9; replace hR := hR9; replace hB := hU9.below hB (Nat.le_refl _); clear hR9 hU9)
                  | (refine wpList_bstore (by rfl) _ _ _ (by rfl) w.heap.size 64 (by rfl) _ _ (by rfl) (hR.alloc _) 9 (by rfl) (by kernel_rfl) (by rfl) (by intro x hx; simp at hx; rcases hx with rfl | rfl | rfl | rfl | rfl | rfl | rfl | rfl | rfl <;> rfl) ?_; intro w9 hR9 hU9; replace hR := hR9; replace hB := hU9.below (hB.alloc hB.size _) (Nat.le_refl _); clear hR9 hU9))
                exact bodyPost_ret (v := .tuple #[fdV (f.putI i), .int .i64 ((k.toNat + 7 : Nat) : Int)]) (results_box2 (by rfl) _ _ w.heap.size 64 _ _ _ (by rfl) hR (by rfl) Try.underlying64 (by rfl) 9 (by rfl) (by kernel_rfl)) rfl ⟨by rw [HN.out]; rfl, hB⟩
            · have hqb : ((str (fourI (crc pSum (k :: t.take k.toNat)))).toList != (str ((t.drop k.toNat).take 4)).toList) = true := by
                rw [bne, str_beq, Bool.not_eq_true', beq_eq_false_iff_ne]; exact hq
              have hqc : ((str (fourI (crc pSum (k :: t.take k.toNat)))).toList == (str ((t.drop k.toNat).take 4)).toList) = false := by
                rw [str_beq, beq_eq_false_iff_ne]; exact hq
              have HN : Hid (standRd (245 :: 95 :: k :: t) = none) := by
                show _ = _; simp only [standRd, if_neg hfl, if_neg hq]; rfl
              clear hq
              go_wp2_with (refine wpList_bstore (by rfl) _ _ _ (by rfl) w.heap.size 64 (by rfl) _ _ (by rfl) hR 9 (by rfl) (by kernel_rfl) (by rfl) (by intro x hx; simp at hx; rcases hx with rfl | rfl | rfl | rfl | rfl | rfl | rfl | rfl | rfl <;> rfl) ?_; intro w9 hR9 hU9; replace hR := hR9; replace hB := hU9.below hB (Nat.le_refl _); clear hR9 hU9)
              exact bodyPost_ret (v := .tuple #[fdV fd0, .int .i64 0]) (results_box2 (by rfl) _ _ w.heap.size 64 _ _ _ (by rfl) hR (by rfl) Try.underlying64 (by rfl) 9 (by rfl) (by kernel_rfl)) rfl ⟨by rw [HN.out]; rfl, hB⟩
      · have hx' : ((str b)[i]'l0).toNat = 245 := by rw [ex, hx]; rfl
        have hy' : ((((str b)[i + 1]'l1).toNat : Int) != 95) = true := by
          rw [bne_iff_ne, ey]; intro e; exact hy (UInt8.toNat_inj.1 (by show y.toNat = 95; omega))
        have HN : Hid (standRd (x :: y :: k :: t) = none) := by show _ = _; simp [standRd, hy]
        clear hz hd ex ey ek
        go_enter Try.func89, Try.ntmps89
        go_wp2_with fail
        exact bodyPost_ret (v := .tuple #[fdV fd0, .int .i64 0]) (results_box2 (by rfl) _ _ w.heap.size 64 _ _ _ (by rfl) hR (by rfl) Try.underlying64 (by rfl) 9 (by rfl) (by kernel_rfl)) rfl ⟨by rw [HN.out]; rfl, hB⟩
    · have hx' : ((((str b)[i]'l0).toNat : Int) != 245) = true := by
        rw [bne_iff_ne, ex]; intro e; exact hx (UInt8.toNat_inj.1 (by show x.toNat = 245; omega))
      have HN : Hid (standRd (x :: y :: k :: t) = none) := by show _ = _; simp [standRd, hx]
      clear hz hd ex ey ek
      go_enter Try.func89, Try.ntmps89
      go_wp2_with fail
      exact bodyPost_ret (v := .tuple #[fdV fd0, .int .i64 0]) (results_box2 (by rfl) _ _ w.heap.size 64 _ _ _ (by rfl) hR (by rfl) Try.underlying64 (by rfl) 9 (by rfl) (by kernel_rfl)) rfl ⟨by rw [HN.out]; rfl, hB⟩
end Go.Proofs.Ytdjpkgaicmklmaa

/- The program's FrameAt, walked. -/
namespace Go.Proofs.Ytdjpkgaicmklmaa
open Go.RowKit

set_option maxRecDepth 100000 in
set_option maxHeartbeats 4000000 in
theorem frameAt_any (b : List UInt8) (i : Nat) (w : World) (hb : b.length ≤ 1099511627776) (hi : i ≤ b.length) :
    Calls Try.prog 115 #[.string (str b), .int .i64 i] w fun e w' => e = .returned (standV i (standRd (b.drop i))) ∧ Below w.heap.size w w' := by
  have hz := str_size b
  have HZ : Hid ((str b).size = b.length) := hz
  obtain ⟨hR, hW, hB⟩ := one_box w 64 fd0.cells.toArray
  have hib : i ≤ (str b).size := by omega
  have hbb : (str b).size ≤ 1099511627776 := by omega
  by_cases h8 : (str b).size ≤ i + 2
  · have HN : Hid (standRd (b.drop i) = none) := standRd_short _ (by simp; omega)
    clear hz
    go_enter Try.func115, Try.ntmps115
    go_wp2_with fail
    exact bodyPost_ret (v := .tuple #[fdV fd0, .int .i64 0]) (results_box2 (by rfl) _ _ w.heap.size 64 _ _ _ (by rfl) hR (by rfl) Try.underlying64 (by rfl) 9 (by rfl) (by kernel_rfl)) rfl ⟨by rw [HN.out]; rfl, hB⟩
  · obtain ⟨x, y, k, t, hd, ht⟩ : ∃ x y k t, b.drop i = x :: y :: k :: t ∧ t.length + 3 + i = b.length := by
      have hl : (b.drop i).length = b.length - i := by simp
      match hh : b.drop i with
      | [] | [_] | [_, _] => rw [hh] at hl; simp at hl; omega
      | x :: y :: k :: t => exact ⟨x, y, k, t, rfl, by rw [hh] at hl; simp at hl; omega⟩
    have l2 : i + 2 < (str b).size := by omega
    have ek : ((str b)[i + 2]'l2) = k := by
      have hv : (b.drop i)[2]? = some k := by rw [hd]; rfl
      rw [List.getElem?_drop] at hv
      exact (List.getElem?_eq_some_iff.1 hv).2
    have x0 : (str b).extract i (i + 2) = str [x, y] := by rw [str_extract, hd, show i + 2 - i = 2 by omega]; rfl
    rw [hd]
    by_cases hxy : x = 245 ∧ y = 95
    · obtain ⟨hx, hy⟩ := hxy
      subst hx hy
      have hmk : ((str [245, 95]).toList == [245, 95]) = true := by rw [str_toList]; rfl
      have hkl := k.toNat_lt
      have hk' : wrap64 (((str b)[i + 2]'l2).toNat : Int) = (k.toNat : Int) := by rw [ek]; unfold wrap64; omega
      clear ek
      by_cases hn : (str b).size < i + k.toNat + 7
      · have HN : Hid (standRd (245 :: 95 :: k :: t) = none) := by show _ = _; simp only [standRd]; simp [show t.length < k.toNat + 4 by omega]
        clear hz hd
        go_enter Try.func115, Try.ntmps115
        go_wp2_with fail
        exact bodyPost_ret (v := .tuple #[fdV fd0, .int .i64 0]) (results_box2 (by rfl) _ _ w.heap.size 64 _ _ _ (by rfl) hR (by rfl) Try.underlying64 (by rfl) 9 (by rfl) (by kernel_rfl)) rfl ⟨by rw [HN.out]; rfl, hB⟩
      · have hdt (j : Nat) : b.drop (i + (j + 3)) = t.drop j := by rw [← List.drop_drop, hd]; rfl
        have x1 : (str b).extract (i + 2 + 1) (i + 2 + 1 + k.toNat) = str (t.take k.toNat) := by rw [str_extract, show i + 2 + 1 = i + (0 + 3) by omega, hdt 0]; simp
        have x2 : (str b).extract (i + 2) (i + 2 + 1 + k.toNat) = str (k :: t.take k.toNat) := by
          rw [str_extract, ← List.drop_drop, hd, show i + 2 + 1 + k.toNat - (i + 2) = k.toNat + 1 by omega]; rfl
        have x3 : (str b).extract (i + 2 + 1 + k.toNat) (i + 2 + 1 + k.toNat + 4) = str ((t.drop k.toNat).take 4) := by
          rw [str_extract, show i + 2 + 1 + k.toNat = i + (k.toNat + 3) by omega, hdt, show i + (k.toNat + 3) + 4 - (i + (k.toNat + 3)) = 4 by omega]
        have hlt : (k :: t.take k.toNat).length ≤ 9223372036854775807 := by simp; omega
        have hlr : (t.take k.toNat).length ≤ 9223372036854775806 := by simp; omega
        have hl4 : ((t.drop k.toNat).take 4).length = 4 := by simp; omega
        have hfl : ¬ t.length < k.toNat + 4 := by omega
        have HL : Hid (t.length + 3 + i = (str b).size) := by show _ = _; omega
        clear hz hd hdt
        go_enter Try.func115, Try.ntmps115
        go_wp2_with fail
        refine (foundIn_any (t.take k.toNat) _ hlr).mono ?_
        rintro e w1 ⟨rfl, hb1⟩
        replace hR := hR.below hb1 hR.lt
        replace hB := hB.trans (hb1.mono (Nat.le_trans (Nat.le_succ _) (Nat.le_of_eq hW.symm)))
        clear hb1
        cases hf : recRd (t.take k.toNat) with
        | none =>
          have HN : Hid (standRd (245 :: 95 :: k :: t) = none) := by
            show _ = _; simp only [standRd, hf]; simp
          clear hf
          simp only [foundV]
          go_wp2_with (first
            | (refine wpList_bstore (by rfl) _ _ _ (by rfl) w.heap.size 64 (by rfl) _ _ (by rfl) hR 9 (by rfl) (by kernel_rfl) (by rfl) (by intro x hx; simp at hx; rcases hx with rfl | rfl | rfl | rfl | rfl | rfl | rfl | rfl | rfl <;> rfl) ?_; intro w9 hR9 hU9; replace hR := hR9; replace hB := hU9.below hB (Nat.le_refl _); clear hR9 hU9)
            | (refine wpList_bstore (by rfl) _ _ _ (by rfl) w.heap.size 64 (by rfl) _ _ (by rfl) (hR.alloc _) 9 (by rfl) (by kernel_rfl) (by rfl) (by intro x hx; simp at hx; rcases hx with rfl | rfl | rfl | rfl | rfl | rfl | rfl | rfl | rfl <;> rfl) ?_; intro w9 hR9 hU9; replace hR := hR9; replace hB := hU9.below (hB.alloc hB.size _) (Nat.le_refl _); clear hR9 hU9))
          exact bodyPost_ret (v := .tuple #[fdV fd0, .int .i64 0]) (results_box2 (by rfl) _ _ w.heap.size 64 _ _ _ (by rfl) hR (by rfl) Try.underlying64 (by rfl) 9 (by rfl) (by kernel_rfl)) rfl ⟨by rw [HN.out]; rfl, hB⟩
        | some f =>
          have hk0 : k.toNat ≠ 0 := by
            intro h0
            rw [h0] at hf
            simp [recRd] at hf
          have hfl2 : ¬ (k.toNat = 0 ∨ t.length < k.toNat + 4) := by omega
          simp only [foundV]
          go_wp2_with fail
          refine (sum_any (k :: t.take k.toNat) _ hlt).mono ?_
          rintro e w2 ⟨rfl, hw2⟩
          subst hw2
          go_wp2_with fail
          refine (fromFour_any ((t.drop k.toNat).take 4) _ hl4).mono ?_
          rintro e w3 ⟨rfl, hw3⟩
          subst hw3
          have hc := crc_lt (p := pSum) (by decide) (k :: t.take k.toNat)
          have hiff := fourRd_iff hl4 (crc pSum (k :: t.take k.toNat)) (by omega) (by omega)
          by_cases hq : fourRd ((t.drop k.toNat).take 4) = (crc pSum (k :: t.take k.toNat) : Int)
          · have hqb : (fourRd ((t.drop k.toNat).take 4) != (crc pSum (k :: t.take k.toNat) : Int)) = false := by rw [hq]; simp
            have HN : Hid (standRd (245 :: 95 :: k :: t) = some (f, k.toNat + 7)) := by
              show _ = _; simp only [standRd, if_neg hfl2, if_pos (hiff.1 hq)]; rw [hf]; rfl
            clear hf hiff
            go_wp2_with (first
              | (refine wpList_bstore (by rfl) _ _ _ (by rfl) w.heap.size 64 (by rfl) _ _ (by rfl) hR 9 (by rfl) (by kernel_rfl) (by rfl) (by intro x hx; simp at hx; rcases hx with rfl | rfl | rfl | rfl | rfl | rfl | rfl | rfl | rfl <;> rfl) ?_; intro w9 hR9 hU9; replace hR := hR9; replace hB := hU9.below hB (Nat.le_refl _); clear hR9 hU9)
              | (refine wpList_bstore (by rfl) _ _ _ (by rfl) w.heap.size 64 (by rfl) _ _ (by rfl) (hR.alloc _) 9 (by rfl) (by kernel_rfl) (by rfl) (by intro x hx; simp at hx; rcases hx with rfl | rfl | rfl | rfl | rfl | rfl | rfl | rfl | rfl <;> rfl) ?_; intro w9 hR9 hU9; replace hR := hR9; replace hB := hU9.below (hB.alloc hB.size _) (Nat.le_refl _); clear hR9 hU9))
            exact bodyPost_ret (v := .tuple #[fdV (f.putI i), .int .i64 ((i : Int) + 2 + 1 + (k.toNat : Int) + 4 - (i : Int))]) (results_box2 (by rfl) _ _ w.heap.size 64 _ _ _ (by rfl) hR (by rfl) Try.underlying64 (by rfl) 9 (by rfl) (by kernel_rfl)) rfl ⟨by rw [HN.out]; simp only [standV]; rw [show ((i : Int) + 2 + 1 + (k.toNat : Int) + 4 - (i : Int)) = ((k.toNat + 7 : Nat) : Int) by omega], hB⟩
          · have hqb : (fourRd ((t.drop k.toNat).take 4) != (crc pSum (k :: t.take k.toNat) : Int)) = true := by rw [bne_iff_ne]; exact hq
            have HN : Hid (standRd (245 :: 95 :: k :: t) = none) := by
              show _ = _; simp only [standRd, if_neg hfl2, if_neg (fun h => hq (hiff.2 h))]; rfl
            clear hf hiff hq
            go_wp2_with (first
              | (refine wpList_bstore (by rfl) _ _ _ (by rfl) w.heap.size 64 (by rfl) _ _ (by rfl) hR 9 (by rfl) (by kernel_rfl) (by rfl) (by intro x hx; simp at hx; rcases hx with rfl | rfl | rfl | rfl | rfl | rfl | rfl | rfl | rfl <;> rfl) ?_; intro w9 hR9 hU9; replace hR := hR9; replace hB := hU9.below hB (Nat.le_refl _); clear hR9 hU9)
              | (refine wpList_bstore (by rfl) _ _ _ (by rfl) w.heap.size 64 (by rfl) _ _ (by rfl) (hR.alloc _) 9 (by rfl) (by kernel_rfl) (by rfl) (by intro x hx; simp at hx; rcases hx with rfl | rfl | rfl | rfl | rfl | rfl | rfl | rfl | rfl <;> rfl) ?_; intro w9 hR9 hU9; replace hR := hR9; replace hB := hU9.below (hB.alloc hB.size _) (Nat.le_refl _); clear hR9 hU9))
            exact bodyPost_ret (v := .tuple #[fdV fd0, .int .i64 0]) (results_box2 (by rfl) _ _ w.heap.size 64 _ _ _ (by rfl) hR (by rfl) Try.underlying64 (by rfl) 9 (by rfl) (by kernel_rfl)) rfl ⟨by rw [HN.out]; rfl, hB⟩
    · have hmk : ((str [x, y]).toList == [245, 95]) = false := by
        rw [str_toList, beq_eq_false_iff_ne]; simpa using hxy
      have HN : Hid (standRd (x :: y :: k :: t) = none) := by show _ = _; simp only [standRd, if_neg hxy]
      clear hz hd ek hxy
      go_enter Try.func115, Try.ntmps115
      go_wp2_with fail
      exact bodyPost_ret (v := .tuple #[fdV fd0, .int .i64 0]) (results_box2 (by rfl) _ _ w.heap.size 64 _ _ _ (by rfl) hR (by rfl) Try.underlying64 (by rfl) 9 (by rfl) (by kernel_rfl)) rfl ⟨by rw [HN.out]; rfl, hB⟩
end Go.Proofs.Ytdjpkgaicmklmaa

/- Salvage, of the reference and of the program, walked. -/
namespace Go.Proofs.Ytdjpkgaicmklmaa
open Go.RowKit

/-- What is found from a place on. -/
def salvF : Nat → Nat → List UInt8 → List Fd
  | 0, _, _ => []
  | k + 1, i, s => if s = [] then [] else match standRd s with
    | some (f, n) => f.putI i :: salvF k (i + n) (s.drop n)
    | none => salvF k (i + 1) (s.drop 1)
def salv (b : List UInt8) : List Fd := salvF b.length 0 b
theorem salvF_nil (k i : Nat) : salvF k i [] = [] := by cases k <;> rfl
theorem salvF_none {k i : Nat} {s : List UInt8} (hne : s ≠ []) (h : standRd s = none) : salvF (k + 1) i s = salvF k (i + 1) (s.drop 1) := by simp only [salvF, if_neg hne, h]
theorem salvF_some {k i : Nat} {s : List UInt8} {f : Fd} {n : Nat} (hne : s ≠ []) (h : standRd s = some (f, n)) : salvF (k + 1) i s = f.putI i :: salvF k (i + n) (s.drop n) := by simp only [salvF, if_neg hne, h]
theorem standRd_le {s : List UInt8} {f : Fd} {n : Nat} (h : standRd s = some (f, n)) : 7 < n ∧ n ≤ s.length := by
  match s, h with
  | x :: y :: k :: t, h =>
    simp only [standRd] at h
    split at h
    · split at h
      · cases h
      · split at h
        · cases hr : recRd (t.take k.toNat) with
          | none => rw [hr] at h; cases h
          | some g => rw [hr] at h; simp at h; obtain ⟨_, rfl⟩ := h; simp; omega
        · cases h
    · cases h
theorem onesF (f : Fd) : ∀ v, v ∈ f.cells → v.oneCell' = true := by intro v h; simp at h; rcases h with rfl | rfl | rfl | rfl | rfl | rfl | rfl | rfl | rfl <;> rfl

set_option maxRecDepth 100000 in
set_option maxHeartbeats 4000000 in
theorem rsalvage_any (b : List UInt8) (w : World) (hb : b.length ≤ 1099511627776) :
    Calls Try.prog 49 #[.string (str b)] w fun e w' => ∃ ad cap N, e = .returned (.slice ad N cap) ∧ N = (salv b).length ∧ Vec w' w.heap.size 64 9 ad N cap (fcells (salv b)) ∧ Below w.heap.size w w' := by
  have hz := str_size b
  have HZ : Hid ((str b).size = b.length) := hz
  have hbb : (str b).size ≤ 1099511627776 := by omega
  have HB : Hid (b.length ≤ 1099511627776) := hb
  clear hz hb
  go_enter Try.func49, Try.ntmps49
  go_wp2_with fail
  go_loopw [3, 4, 5, 6] (fun v u _ _ wr => ∃ (i : Nat) (ad : Option Addr) (cap N k : Nat) (l : List Fd), i ≤ (str b).size ∧ u = .int .i64 i ∧ v = .slice ad N cap ∧ N = l.length ∧ N ≤ i ∧ b.length - i ≤ k ∧ l ++ salvF k i (b.drop i) = salv b ∧ Vec wr w.heap.size 64 9 ad N cap (fcells l) ∧ Below w.heap.size w wr) (fun _ u _ _ _ => b.length - (intOf u).toNat)
  case atStart => exact ⟨0, _, _, 0, b.length, [], by omega, rfl, rfl, rfl, by omega, by omega, by simp [salv], Vec.nil _ _ _ _, Below.refl _ _⟩
  case round =>
    obtain ⟨i, ad, cap, N, k, l, hi, rfl, rfl, hN, hNi, hk, hl, hv, hbw⟩ := hrel
    have HN : Hid (N = l.length) := hN
    have HL : Hid (l ++ salvF k i (b.drop i) = salv b) := hl
    have HK : Hid (b.length - i ≤ k) := hk
    clear hN hl hk
    by_cases hlt : i < (str b).size
    · have hi2 : i ≤ b.length := by rw [← HZ.out]; omega
      go_wp2_with fail
      refine (rstands_any b i _ HB.out hi2).mono ?_
      rintro e w1 ⟨rfl, hb1⟩
      have hv1 := hv.keep hb1
      have hbw1 := hbw.trans (hb1.mono hbw.size)
      have hz1 := hbw1.size
      clear hv hbw hb1
      obtain ⟨k, rfl⟩ : ∃ k', k = k' + 1 := ⟨k - 1, by have := HK.out; have := HZ.out; omega⟩
      have hne : b.drop i ≠ [] := by
        intro h; have := congrArg List.length h; simp at this; have := HZ.out; omega
      cases hst : standRd (b.drop i) with
      | none =>
        have HS : Hid (l ++ salvF k (i + 1) (b.drop (i + 1)) = salv b) := by
          show _ = _; rw [← HL.out, salvF_none hne hst, List.drop_drop]
        simp only [standV]
        clear hst hne HL
        go_wp2_with fail
        go_roundw
        case rel => exact ⟨i + 1, ad, cap, N, k, l, by omega, by go_num, rfl, HN.out, by omega, by have := HK.out; omega, HS.out, hv1.keep ((Below.refl _ _).alloc (Nat.le_refl _) _), hbw1.alloc hz1 _⟩
        case measure => have := HZ.out; simp [intOf]; omega
      | some p =>
        obtain ⟨f, n⟩ := p
        have hn := standRd_le hst
        simp at hn
        have HS : Hid ((l ++ [f.putI i]) ++ salvF k (i + n) (b.drop (i + n)) = salv b) := by
          show _ = _; rw [← HL.out, salvF_some hne hst, List.drop_drop]; simp
        have hnl : i + n ≤ (str b).size := by have := HZ.out; omega
        have hn7 : 7 < n := by omega
        simp only [standV]
        clear hst hne HL hn
        have hn0 : 0 < n := by omega
        have hvx : ∀ o1 o2, Vec ((w1.alloc o1).alloc o2) w.heap.size 64 9 ad N cap (fcells l) := fun o1 o2 => hv1.keep (((Below.refl _ w1).alloc (Nat.le_refl _) _).alloc (by simp) _)
        have HX : Hid (∀ o1 o2, Vec ((w1.alloc o1).alloc o2) w.heap.size 64 9 ad N cap (fcells l)) := hvx
        clear hvx
        go_wp2_with (at_builtin; refine wpList_push (by rfl) _ _ 57 (by rfl) w.heap.size 64 9 80 (.agg #[.int .i64 0, .int .i64 0, .int .i64 0, .int .i64 0, .int .i64 0, .int .i64 0, .int .i64 0, .bool false, .string ⟨#[]⟩]) Try.underlying57 (by kernel_rfl) rfl (by decide) ad N cap _ (by rfl) (HX.out _ _) _ _ (f.putI i).cells (by rfl) rfl ?_ ?_ ?_ ?_ ?_ ?_; exact new_cells2 _ _ _ _; exact onesF _; (omega); (omega); (simp; omega); intro ad' cap' w' hv' hb' hs')
        have h2 : Below w.heap.size w w' := ((hbw1.alloc hz1 _).alloc (by simp; omega) _).trans hb'
        have hv2 : Vec w' w.heap.size 64 9 ad' (N + 1) cap' (fcells (l ++ [f.putI i])) := by
          rw [fcells_append, fcells_one]; exact hv'
        go_roundw
        case rel => exact ⟨i + n, ad', cap', N + 1, k, l ++ [f.putI i], by omega, by go_num, rfl, by have := HN.out; simp; omega, by omega, by have := HK.out; omega, HS.out, hv2, h2⟩
        case measure => have := HZ.out; simp [intOf]; omega
    · have he : b.drop i = [] := List.drop_of_length_le (by rw [← HZ.out]; omega)
      have HS : Hid (l = salv b) := by show _ = _; rw [← HL.out, he, salvF_nil]; simp
      go_wp2_with fail
      go_ret
      exact ⟨ad, cap, N, rfl, by rw [← HS.out]; exact HN.out, by rw [← HS.out]; exact hv, hbw⟩

set_option maxRecDepth 100000 in
set_option maxHeartbeats 4000000 in
theorem bsalvage_any (b : List UInt8) (w : World) (hb : b.length ≤ 1099511627776) :
    Calls Try.prog 73 #[.string (str b)] w fun e w' => ∃ ad cap N, e = .returned (.slice ad N cap) ∧ N = (salv b).length ∧ Vec w' w.heap.size 64 9 ad N cap (fcells (salv b)) ∧ Below w.heap.size w w' := by
  have hz := str_size b
  have HZ : Hid ((str b).size = b.length) := hz
  have hbb : (str b).size ≤ 1099511627776 := by omega
  have HB : Hid (b.length ≤ 1099511627776) := hb
  clear hz hb
  have hV0 : Hid (Vec (w.alloc (.cells #[] 64)) w.heap.size 64 9 (some ⟨w.heap.size, 0, none⟩) 0 0 (fcells [])) := Vec.lit w w.heap.size 64 9 0 [] (Nat.le_refl _) (by omega) rfl
  go_enter Try.func73, Try.ntmps73
  go_wp2_with fail
  go_loopw [3, 4, 5, 6] (fun v u _ _ wr => ∃ (i : Nat) (ad : Option Addr) (cap N k : Nat) (l : List Fd), i ≤ (str b).size ∧ u = .int .i64 i ∧ v = .slice ad N cap ∧ N = l.length ∧ N ≤ i ∧ b.length - i ≤ k ∧ l ++ salvF k i (b.drop i) = salv b ∧ Vec wr w.heap.size 64 9 ad N cap (fcells l) ∧ Below w.heap.size w wr) (fun _ u _ _ _ => b.length - (intOf u).toNat)
  case atStart => exact ⟨0, _, _, 0, b.length, [], by omega, rfl, rfl, rfl, by omega, by omega, by simp [salv], hV0.out, (Below.refl _ _).alloc (Nat.le_refl _) _⟩
  case round =>
    obtain ⟨i, ad, cap, N, k, l, hi, rfl, rfl, hN, hNi, hk, hl, hv, hbw⟩ := hrel
    have HN : Hid (N = l.length) := hN
    have HL : Hid (l ++ salvF k i (b.drop i) = salv b) := hl
    have HK : Hid (b.length - i ≤ k) := hk
    clear hN hl hk
    by_cases hlt : i < (str b).size
    · have hi2 : i ≤ b.length := by rw [← HZ.out]; omega
      go_wp2_with fail
      refine (frameAt_any b i _ HB.out hi2).mono ?_
      rintro e w1 ⟨rfl, hb1⟩
      have hv1 := hv.keep hb1
      have hbw1 := hbw.trans (hb1.mono hbw.size)
      have hz1 := hbw1.size
      clear hv hbw hb1
      obtain ⟨k, rfl⟩ : ∃ k', k = k' + 1 := ⟨k - 1, by have := HK.out; have := HZ.out; omega⟩
      have hne : b.drop i ≠ [] := by
        intro h; have := congrArg List.length h; simp at this; have := HZ.out; omega
      cases hst : standRd (b.drop i) with
      | none =>
        have HS : Hid (l ++ salvF k (i + 1) (b.drop (i + 1)) = salv b) := by
          show _ = _; rw [← HL.out, salvF_none hne hst, List.drop_drop]
        simp only [standV]
        clear hst hne HL
        go_wp2_with fail
        go_roundw
        case rel => exact ⟨i + 1, ad, cap, N, k, l, by omega, by go_num, rfl, HN.out, by omega, by have := HK.out; omega, HS.out, hv1.keep ((Below.refl _ _).alloc (Nat.le_refl _) _), hbw1.alloc hz1 _⟩
        case measure => have := HZ.out; simp [intOf]; omega
      | some p =>
        obtain ⟨f, n⟩ := p
        have hn := standRd_le hst
        simp at hn
        have HS : Hid ((l ++ [f.putI i]) ++ salvF k (i + n) (b.drop (i + n)) = salv b) := by
          show _ = _; rw [← HL.out, salvF_some hne hst, List.drop_drop]; simp
        have hnl : i + n ≤ (str b).size := by have := HZ.out; omega
        have hn7 : 7 < n := by omega
        simp only [standV]
        clear hst hne HL hn
        have hn0 : ((n : Int) == 0) = false := by rw [beq_eq_false_iff_ne]; omega
        have hvx : ∀ o1 o2, Vec ((w1.alloc o1).alloc o2) w.heap.size 64 9 ad N cap (fcells l) := fun o1 o2 => hv1.keep (((Below.refl _ w1).alloc (Nat.le_refl _) _).alloc (by simp) _)
        have HX : Hid (∀ o1 o2, Vec ((w1.alloc o1).alloc o2) w.heap.size 64 9 ad N cap (fcells l)) := hvx
        clear hvx
        go_wp2_with (at_builtin; refine wpList_push (by rfl) _ _ 57 (by rfl) w.heap.size 64 9 80 (.agg #[.int .i64 0, .int .i64 0, .int .i64 0, .int .i64 0, .int .i64 0, .int .i64 0, .int .i64 0, .bool false, .string ⟨#[]⟩]) Try.underlying57 (by kernel_rfl) rfl (by decide) ad N cap _ (by rfl) (HX.out _ _) _ _ (f.putI i).cells (by rfl) rfl ?_ ?_ ?_ ?_ ?_ ?_; exact new_cells2 _ _ _ _; exact onesF _; (omega); (omega); (simp; omega); intro ad' cap' w' hv' hb' hs')
        have h2 : Below w.heap.size w w' := ((hbw1.alloc hz1 _).alloc (by simp; omega) _).trans hb'
        have hv2 : Vec w' w.heap.size 64 9 ad' (N + 1) cap' (fcells (l ++ [f.putI i])) := by
          rw [fcells_append, fcells_one]; exact hv'
        go_roundw
        case rel => exact ⟨i + n, ad', cap', N + 1, k, l ++ [f.putI i], by omega, by go_num, rfl, by have := HN.out; simp; omega, by omega, by have := HK.out; omega, HS.out, hv2, h2⟩
        case measure => have := HZ.out; simp [intOf]; omega
    · have he : b.drop i = [] := List.drop_of_length_le (by rw [← HZ.out]; omega)
      have HS : Hid (l = salv b) := by show _ = _; rw [← HL.out, he, salvF_nil]; simp
      go_wp2_with fail
      go_ret
      exact ⟨ad, cap, N, rfl, by rw [← HS.out]; exact HN.out, by rw [← HS.out]; exact hv, hbw⟩

set_option maxRecDepth 100000 in
set_option maxHeartbeats 4000000 in
theorem psalvage_any (b : List UInt8) (w : World) (hb : b.length ≤ 1099511627776) :
    Calls Try.prog 34 #[.string (str b)] w fun e w' => ∃ ad cap N, e = .returned (.slice ad N cap) ∧ N = (salv b).length ∧ Vec w' w.heap.size 64 9 ad N cap (fcells (salv b)) ∧ Below w.heap.size w w' := by
  go_enter Try.func34, Try.ntmps34
  go_wp2_with fail
  refine (bsalvage_any b _ hb).mono ?_
  rintro e w' ⟨ad, cap, N, rfl, rfl, h⟩
  go_wp2_with fail
  go_ret
  exact ⟨ad, cap, _, rfl, rfl, h⟩
end Go.Proofs.Ytdjpkgaicmklmaa

/- The reference's bundle, walked. -/
namespace Go.Proofs.Ytdjpkgaicmklmaa
open Go.RowKit
attribute [local go_sem] str_size str_append mk_append_str str_append_mk

set_option maxRecDepth 100000 in
set_option maxHeartbeats 4000000 in
theorem rbundle_any (s b : Int) (R : Rep) (a1 a2 a3 : Option Addr) (k1 k2 k3 : Nat) (w : World) (hR : Has w R a1 a2 a3) (hF : Fit R) (hs : Num s) (hb1 : 0 ≤ b) (hb2 : b ≤ 4294967295) :
    Calls Try.prog 42 #[.agg (lnkA s b R a1 a2 a3 k1 k2 k3)] w fun e w' => e = .returned (.string (str (bundleB (recsOf s b R)))) ∧ Below w.heap.size w w' := by
  have m1 := hF.n1; have m2 := hF.n2; have m3 := hF.n3
  have h0 : BoxL w s b R a1 a2 a3 k1 k2 k3 (w.alloc (.cells (lnkA s b R a1 a2 a3 k1 k2 k3) 75)) := Below.refl _ _
  have hrec := records_any s b R a1 a2 a3 k1 k2 k3 (w.alloc (.cells (lnkA s b R a1 a2 a3 k1 k2 k3) 75)) (hR.below (box_old h0)) hF
  go_enter Try.func42, Try.ntmps42
  go_wp2_with fail
  refine hrec.mono ?_
  rintro e w1 ⟨ad, cap, N, rfl, hN, hv, hh⟩
  have h1 := box_old (box_step h0 hh)
  clear hh h0 hrec
  have hok := hF.ok hs hb1 hb2
  have hNb : N ≤ 3000001 := by rw [hN, recsOf_length]; omega
  generalize hll : recsOf s b R = l at *
  have HLL : Hid (recsOf s b R = l) := hll
  clear hll
  have HN : Hid (N = l.length) := hN
  have HO : Hid (∀ f, f ∈ l → FdOk f) := hok
  clear hN hok
  go_wp2_with fail
  go_loopw [3, 5, 6] (fun v u _ wr => ∃ (k : Nat) (B : List UInt8), k ≤ N ∧ u = .int .i64 k ∧ v = .string (str B) ∧ B = bodyB (l.take k) ∧ B.length ≤ 400000000 ∧ Below w1.heap.size w1 wr) (fun _ u _ _ => N - (intOf u).toNat)
  case atStart => exact ⟨0, [80, 82, 67, 49], Nat.zero_le _, rfl, rfl, rfl, by simp, Below.refl _ _⟩
  case round =>
    obtain ⟨k, B, hk, rfl, rfl, hB, hBl, hb⟩ := hrel
    have HB : Hid (B = bodyB (l.take k)) := hB
    clear hB
    by_cases hlt : k < N
    · have hl : k < l.length := by rw [← HN.out]; exact hlt
      have hvr := hv.keep hb
      obtain ⟨bb, o, _, hbl, hix, hc, _, _⟩ := hvr.at (P := Try.prog) (t := 57) (by kernel_rfl) (by kernel_rfl) hlt (k : Int) rfl
      have hcj : ∀ j, j < 9 → wr.cell? ⟨bb, o + j, none⟩ = l[k].cells[j]? := fun j hj => by
        rw [hc j hj]
        have hE : Even 9 (l.map Fd.cells) := by intro x hx; obtain ⟨y, _, rfl⟩ := List.mem_map.1 hx; rfl
        have h9 := hE.at k j hj (by simpa using hl)
        rw [show fcells l = (l.map Fd.cells).flatten from rfl, h9]
        simp [List.getD, hl]
      have c0 : wr.cell? ⟨bb, o, none⟩ = some (.int .i64 l[k].at_) := hcj 0 (by omega)
      have c1 : wr.cell? ⟨bb, o + 1, none⟩ = some (.int .i64 l[k].kind) := hcj 1 (by omega)
      have c2 : wr.cell? ⟨bb, o + 2, none⟩ = some (.int .i64 l[k].seq) := hcj 2 (by omega)
      have c3 : wr.cell? ⟨bb, o + 3, none⟩ = some (.int .i64 l[k].base) := hcj 3 (by omega)
      have c4 : wr.cell? ⟨bb, o + 4, none⟩ = some (.int .i64 l[k].id) := hcj 4 (by omega)
      have c5 : wr.cell? ⟨bb, o + 5, none⟩ = some (.int .i64 l[k].site) := hcj 5 (by omega)
      have c6 : wr.cell? ⟨bb, o + 6, none⟩ = some (.int .i64 l[k].count) := hcj 6 (by omega)
      have c7 : wr.cell? ⟨bb, o + 7, none⟩ = some (.bool l[k].gone) := hcj 7 (by omega)
      have c8 : wr.cell? ⟨bb, o + 8, none⟩ = some (.string l[k].text) := hcj 8 (by omega)
      have hfk := HO.out l[k] (List.getElem_mem hl)
      have hfl := recF_length hfk
      have hbod : bodyB (l.take (k + 1)) = B ++ frameB (recF l[k]) := by
        rw [List.take_succ_eq_append_getElem hl, bodyB_succ, HB.out]
      have hbl2 := bodyB_length (l.take (k + 1)) (fun f hf => HO.out f (List.mem_of_mem_take hf))
      rw [hbod] at hbl2
      have hfr := frameB_length (recF l[k])
      have hk3 : (l.take (k + 1)).length ≤ 3000001 := by rw [List.length_take]; have := HN.out; omega
      have hbl3 : (B ++ frameB (recF l[k])).length ≤ 400000000 := by omega
      have HD : Hid (bodyB (l.take (k + 1)) = B ++ frameB (recF l[k])) := hbod
      have hfr2 : (frameB (recF l[k])).length ≤ 200 := by omega
      have hcall := fun w0 => rframe_any l[k] w0 hfk
      have HCa : Hid (∀ w0, Calls Try.prog 86 #[.agg l[k].cells.toArray] w0 fun e w' => e = .returned (.string (str (frameB (recF l[k])))) ∧ Below w0.heap.size w0 w') := hcall
      clear hc hcj hbod hbl2 hk3 hvr HB hfk hfr hfl hcall
      generalize frameB (recF l[k]) = fr at *
      generalize l[k] = fk at *
      go_wp2_with fail
      refine (HCa.out _).mono ?_
      rintro e w2 ⟨rfl, hh⟩
      have hb3 : Below w1.heap.size w1 w2 := hb.trans (hh.mono hb.size)
      clear hh
      rw [List.length_append] at hbl3
      go_wp2_with fail
      go_roundw
      case rel => exact ⟨k + 1, B ++ fr, by omega, by go_num, rfl, HD.out.symm, by simp; omega, hb3⟩
      case measure => simp [intOf]; omega
    · have e1 : k = N := by omega
      have E : Hid (B = bodyB l) := by
        have h := HB.out
        rw [e1, HN.out, List.take_of_length_le (Nat.le_refl _)] at h; exact h
      clear e1 HB
      go_wp2_with fail
      refine (rseal_any B _ (by omega)).mono ?_
      rintro e w2 ⟨rfl, hs2⟩
      obtain ⟨c1, c2⟩ := crc_le pSeal (by decide) B
      have F : Hid (B ++ fourI (crc pSeal B) = bundleB l) := by show _ = _; rw [E.out]; rfl
      generalize crc pSeal B = C at *
      go_wp2_with fail
      refine (rfour_any _ _ c1 c2).mono ?_
      rintro e w3 ⟨rfl, hh⟩
      have l5 : (fourI (C : Int)).length ≤ 4 := Nat.le_refl _
      generalize fourI (C : Int) = t at *
      go_wp2_with fail
      go_ret
      exact ⟨ret_str (by rw [HLL.out]; exact F.out), h1.trans ((hb.trans ((hs2.mono hb.size).trans (hh.mono (Nat.le_trans hb.size hs2.size)))).mono h1.size)⟩
end Go.Proofs.Ytdjpkgaicmklmaa

/- parcellaw.handed: a copy of a replica with spare room, walked. -/
namespace Go.Proofs.Ytdjpkgaicmklmaa
open Go.RowKit

abbrev mk1 : List Value := [.int .i64 (-7), .int .i64 0]
abbrev mk2 : List Value := [.int .i64 (-7), .int .i64 0, .int .i64 0, .bool false, .string ⟨#[]⟩]
abbrev mk3 : List Value := [.int .i64 (-7), .string ⟨#[]⟩]
abbrev z1 : List Value := [.int .i64 0, .int .i64 0]
abbrev z2 : List Value := [.int .i64 0, .int .i64 0, .int .i64 0, .bool false, .string ⟨#[]⟩]
abbrev z3 : List Value := [.int .i64 0, .string ⟨#[]⟩]

/-- A copy of a replica, with two marks behind each row. -/
structure Handed (w : World) (R : Rep) (b1 b2 b3 : Option Addr) (g1 g2 g3 : Nat) : Prop where
  e1 : b1 = some ⟨g1, 0, none⟩
  e2 : b2 = some ⟨g2, 0, none⟩
  e3 : b3 = some ⟨g3, 0, none⟩
  o1 : Own w g1 67 2 ((List.range R.n1).map (fun i => (R.c i).cells) ++ [mk1, mk1])
  o2 : Own w g2 69 5 ((List.range R.n2).map (fun i => (R.d i).cells) ++ [mk2, mk2])
  o3 : Own w g3 71 2 ((List.range R.n3).map (fun i => (R.e i).cells) ++ [mk3, mk3])
  d12 : g1 < g2
  d23 : g2 < g3

/-- Two places behind a row, the first i of them marked. -/
def mrk (i : Nat) (m z : List Value) : List (List Value) := if i = 0 then [z, z] else if i = 1 then [m, z] else [m, m]
theorem mrk_start (n : Nat) (f : Nat → List Value) (m z : List Value) : (List.range n).map f ++ (List.replicate (n + 2) z).drop n = (List.range n).map f ++ mrk 0 m z := by
  congr 1
  rw [List.drop_replicate, show n + 2 - n = 2 by omega]; rfl
theorem mrk_length (n i : Nat) (f : Nat → List Value) (m z : List Value) : ((List.range n).map f ++ mrk i m z).length = n + 2 := by
  unfold mrk; split; (simp); split <;> simp
theorem mrk_step (n i : Nat) (f : Nat → List Value) (m z : List Value) (hi : i < 2) : ((List.range n).map f ++ mrk i m z).set (n + i) m = (List.range n).map f ++ mrk (i + 1) m z := by
  rw [List.set_append]
  simp only [List.length_map, List.length_range]
  rw [if_neg (by omega), show n + i - n = i by omega]
  congr 1
  rcases (by omega : i = 0 ∨ i = 1) with rfl | rfl <;> rfl
theorem mrk_end (m z : List Value) : mrk 2 m z = [m, m] := rfl

/-- The world behind the parameter's box and the result's cell. -/
abbrev W2 (w : World) (R : Rep) (a1 a2 a3 : Option Addr) (k1 k2 k3 : Nat) : World :=
  (w.alloc (.cells #[.slice a1 R.n1 k1, .slice a2 R.n2 k2, .slice a3 R.n3 k3] 26)).alloc (.cells #[.slice none 0 0, .slice none 0 0, .slice none 0 0] 26)
abbrev Box2 (w : World) (R : Rep) (a1 a2 a3 : Option Addr) (k1 k2 k3 : Nat) (wr : World) : Prop := Below (w.heap.size + 2) (W2 w R a1 a2 a3 k1 k2 k3) wr

theorem Box2.cells {w : World} {R : Rep} {a1 a2 a3 : Option Addr} {k1 k2 k3 : Nat} {wr : World} (hb : Box2 w R a1 a2 a3 k1 k2 k3 wr) :
    wr.cell? ⟨w.heap.size, 0, none⟩ = some (.slice a1 R.n1 k1) ∧ wr.cell? ⟨w.heap.size, 1, none⟩ = some (.slice a2 R.n2 k2) ∧ wr.cell? ⟨w.heap.size, 2, none⟩ = some (.slice a3 R.n3 k3) := by
  refine ⟨?_, ?_, ?_⟩
  · rw [hb.cell (p := ⟨w.heap.size, 0, none⟩) (by simp)]; simp
  · rw [hb.cell (p := ⟨w.heap.size, 1, none⟩) (by simp)]; simp
  · rw [hb.cell (p := ⟨w.heap.size, 2, none⟩) (by simp)]; simp
theorem Box2.size {w : World} {R : Rep} {a1 a2 a3 : Option Addr} {k1 k2 k3 : Nat} {wr : World} (hb : Box2 w R a1 a2 a3 k1 k2 k3 wr) : w.heap.size + 2 ≤ wr.heap.size := by
  have := Below.size hb; simpa using this
theorem Box2.res {w : World} {R : Rep} {a1 a2 a3 : Option Addr} {k1 k2 k3 : Nat} {wr : World} (hb : Box2 w R a1 a2 a3 k1 k2 k3 wr) :
    (wr.cell? ⟨w.heap.size + 1, 0, none⟩ = some (.slice none 0 0) ∧ wr.cell? ⟨w.heap.size + 1, 1, none⟩ = some (.slice none 0 0) ∧ wr.cell? ⟨w.heap.size + 1, 2, none⟩ = some (.slice none 0 0)) ∧
    (∀ j, wr.frozen? ⟨w.heap.size + 1, j, none⟩ = false) := by
  refine ⟨⟨?_, ?_, ?_⟩, fun j => ?_⟩
  · rw [hb.cell (p := ⟨w.heap.size + 1, 0, none⟩) (by simp)]; simp
  · rw [hb.cell (p := ⟨w.heap.size + 1, 1, none⟩) (by simp)]; simp
  · rw [hb.cell (p := ⟨w.heap.size + 1, 2, none⟩) (by simp)]; simp
  · rw [hb.frozen (p := ⟨w.heap.size + 1, j, none⟩) (by simp)]; simp
theorem Box2.old {w : World} {R : Rep} {a1 a2 a3 : Option Addr} {k1 k2 k3 : Nat} {wr : World} (hb : Box2 w R a1 a2 a3 k1 k2 k3 wr) : Below w.heap.size w wr :=
  (((Below.refl _ w).alloc (Nat.le_refl _) _).alloc (by simp) _).trans (hb.mono (by omega))
theorem Box2.step {w : World} {R : Rep} {a1 a2 a3 : Option Addr} {k1 k2 k3 : Nat} {wr w' : World} (hb : Box2 w R a1 a2 a3 k1 k2 k3 wr) (h : Below wr.heap.size wr w') : Box2 w R a1 a2 a3 k1 k2 k3 w' :=
  Below.trans hb (h.mono hb.size)

theorem set3 (wr : World) (b : Nat) (x y z u0 u1 u2 : Value) (h0 : wr.cell? ⟨b, 0, none⟩ = some u0) (h1 : wr.cell? ⟨b, 1, none⟩ = some u1) (h2 : wr.cell? ⟨b, 2, none⟩ = some u2) :
    ∃ X, X = (((wr.setCell ⟨b, 0, none⟩ x).setCell ⟨b, 1, none⟩ y).setCell ⟨b, 2, none⟩ z).drew ∧ X.cell? ⟨b, 0, none⟩ = some x ∧ X.cell? ⟨b, 1, none⟩ = some y ∧ X.cell? ⟨b, 2, none⟩ = some z ∧ Upd b wr X := by
  refine ⟨_, rfl, ?_, ?_, ?_, ((((Upd.refl b wr).setCell ⟨b, 0, none⟩ rfl x).setCell ⟨b, 1, none⟩ rfl y).setCell ⟨b, 2, none⟩ rfl z).drew⟩ <;> simp [go_sem, h0, h1, h2]
theorem cells_len1 (x : Ck) : x.cells.length = 2 := rfl
theorem ones1 (x : Ck) : ∀ v, v ∈ x.cells → v.oneCell' = true := by intro v h; simp at h; rcases h with rfl | rfl <;> rfl
theorem ones2 (x : Cd) : ∀ v, v ∈ x.cells → v.oneCell' = true := by intro v h; simp at h; rcases h with rfl | rfl | rfl | rfl | rfl <;> rfl
theorem ones3 (x : Ed) : ∀ v, v ∈ x.cells → v.oneCell' = true := by intro v h; simp at h; rcases h with rfl | rfl <;> rfl

set_option maxRecDepth 100000 in
set_option maxHeartbeats 4000000 in
theorem handed_any (R : Rep) (a1 a2 a3 : Option Addr) (k1 k2 k3 : Nat) (w : World) (hR : Has w R a1 a2 a3) :
    Calls Try.prog 14 #[repV R a1 a2 a3 k1 k2 k3] w fun e w' => ∃ b1 b2 b3 g1 g2 g3, e = .returned (repV R b1 b2 b3 (R.n1 + 2) (R.n2 + 2) (R.n3 + 2)) ∧ Handed w' R b1 b2 b3 g1 g2 g3 ∧ w.heap.size ≤ g1 ∧ Below w.heap.size w w' := by
  have b1 := hR.b1; have b2 := hR.b2; have b3 := hR.b3; have y1 := hR.y1; have y2 := hR.y2; have y3 := hR.y3
  go_enter Try.func14, Try.ntmps14
  go_wp2_with (first
    | (at_make; refine wpList_make_rows (by rfl) _ _ 22 (by rfl) 67 z1 2 16 Try.underlying22 (by kernel_rfl) rfl (by decide) (R.n1 + 2) _ ?_ (by rfl) (by rfl) ?_ ?_ ?_; (omega); (omega); (omega); intro g1 ad1 w1 e1 hg1 hl1 o1 hb1; have q1 : Box2 w R a1 a2 a3 k1 k2 k3 w1 := hb1.mono (by simp); clear hb1; obtain ⟨c11, c12, c13⟩ := q1.cells; have hL1 := (hR.below q1.old).l1; simp only [World.size_alloc] at hg1)
    | (at_make; refine wpList_make_rows (by rfl) _ _ 23 (by rfl) 69 z2 5 48 Try.underlying23 (by kernel_rfl) rfl (by decide) (R.n2 + 2) _ ?_ (by rfl) (by rfl) ?_ ?_ ?_; (omega); (omega); (omega); intro g2 ad2 w3 e2 hg2 hl3 o2 hb3; have q3 : Box2 w R a1 a2 a3 k1 k2 k3 w3 := q2.step hb3; have o13 := o1'.below hb3 hl2; obtain ⟨c31, c32, c33⟩ := q3.cells; have hL3 := (hR.below q3.old).l2; have hg12 : g1 < g2 := (by omega); clear q2 c21 c22 c23 hL2 o1' hb3 hl2 hg2)
    | (at_make; refine wpList_make_rows (by rfl) _ _ 24 (by rfl) 71 z3 2 24 Try.underlying24 (by kernel_rfl) rfl (by decide) (R.n3 + 2) _ ?_ (by rfl) (by rfl) ?_ ?_ ?_; (omega); (omega); (omega); intro g3 ad3 w5 e3 hg3 hl5 o3 hb5; have q5 : Box2 w R a1 a2 a3 k1 k2 k3 w5 := q4.step hb5; have o15 := o14.below hb5 (by omega); have o25 := o2'.below hb5 hl4; obtain ⟨c51, c52, c53⟩ := q5.cells; have hL5 := (hR.below q5.old).l3; have hg23 : g2 < g3 := (by omega); clear q4 c41 c42 c43 o14 o2' hb5 hl4 hg3)
    | (refine wpList_copy_rows (by rfl) _ _ 22 22 (by rfl) 67 2 Try.underlying22 (by kernel_rfl) g1 ad1 e1 (R.n1 + 2) _ R.n1 _ _ (by rfl) (by rfl) (fun i => (R.c i).cells) _ o1 ?_ ?_ hL1 ?_ ?_ ?_; (simp); (omega); (intro i _; rfl); (intro i _; exact ones1 _); intro w2 o1' u2; have q2 : Box2 w R a1 a2 a3 k1 k2 k3 w2 := u2.below q1 (by omega); obtain ⟨c21, c22, c23⟩ := q2.cells; have hl2 : g1 < w2.heap.size := o1'.lt; have hL2 := (hR.below q2.old).l2; clear q1 c11 c12 c13 hL1 o1 u2 hl1)
    | (refine wpList_copy_rows (by rfl) _ _ 23 23 (by rfl) 69 5 Try.underlying23 (by kernel_rfl) g2 ad2 e2 (R.n2 + 2) _ R.n2 _ _ (by rfl) (by rfl) (fun i => (R.d i).cells) _ o2 ?_ ?_ hL3 ?_ ?_ ?_; (simp); (omega); (intro i _; rfl); (intro i _; exact ones2 _); intro w4 o2' u4; have q4 : Box2 w R a1 a2 a3 k1 k2 k3 w4 := u4.below q3 (by omega); obtain ⟨c41, c42, c43⟩ := q4.cells; have hl4 : g2 < w4.heap.size := o2'.lt; have o14 := o13.upd u4 (by omega); clear q3 c31 c32 c33 hL3 o2 u4 o13 hl3)
    | (refine wpList_copy_rows (by rfl) _ _ 24 24 (by rfl) 71 2 Try.underlying24 (by kernel_rfl) g3 ad3 e3 (R.n3 + 2) _ R.n3 _ _ (by rfl) (by rfl) (fun i => (R.e i).cells) _ o3 ?_ ?_ hL5 ?_ ?_ ?_; (simp); (omega); (intro i _; rfl); (intro i _; exact ones3 _); intro w6 o3' u6; have q6 : Box2 w R a1 a2 a3 k1 k2 k3 w6 := u6.below q5 (by omega); have o16 := o15.upd u6 (by omega); have o26 := o25.upd u6 (by omega); clear q5 c51 c52 c53 hL5 o3 u6 o15 o25 hl5))
  rw [mrk_start _ _ mk1] at o16
  rw [mrk_start _ _ mk2] at o26
  rw [mrk_start _ _ mk3] at o3'
  go_loopw [6] (fun v wr => ∃ i : Nat, i ≤ 2 ∧ v = .int .i64 i ∧ Own wr g1 67 2 ((List.range R.n1).map (fun i => (R.c i).cells) ++ mrk i mk1 z1) ∧ Own wr g2 69 5 ((List.range R.n2).map (fun i => (R.d i).cells) ++ mrk i mk2 z2) ∧ Own wr g3 71 2 ((List.range R.n3).map (fun i => (R.e i).cells) ++ mrk i mk3 z3) ∧ Box2 w R a1 a2 a3 k1 k2 k3 wr) (fun v _ => 2 - (intOf v).toNat)
  case atStart => exact ⟨0, by omega, rfl, o16, o26, o3', q6⟩
  case round =>
    clear o16 o26 o3' q6
    obtain ⟨i, hi, rfl, o1, o2, o3, q⟩ := hrel
    obtain ⟨c1, c2, c3⟩ := q.cells
    by_cases hlt : i < 2
    · have x1 := fun w' => Own.idx e1 (P := Try.prog) (t := 22) (m := 2) (R.n1 + 2) (R.n1 + 2) (by kernel_rfl) (by kernel_rfl) (k := R.n1 + i) (by omega) ((R.n1 : Int) + (i : Int)) (by omega) w'
      have x2 := fun w' => Own.idx e2 (P := Try.prog) (t := 23) (m := 5) (R.n2 + 2) (R.n2 + 2) (by kernel_rfl) (by kernel_rfl) (k := R.n2 + i) (by omega) ((R.n2 : Int) + (i : Int)) (by omega) w'
      have x3 := fun w' => Own.idx e3 (P := Try.prog) (t := 24) (m := 2) (R.n3 + 2) (R.n3 + 2) (by kernel_rfl) (by kernel_rfl) (k := R.n3 + i) (by omega) ((R.n3 : Int) + (i : Int)) (by omega) w'
      go_wp2_with (first
        | (refine wpList_store_rows (by rfl) _ _ 67 (by rfl) 67 2 (by kernel_rfl) g1 (R.n1 + i) _ rfl (by rfl) mk1 (by rfl) rfl ?_ _ o1 ?_ ?_; (simp [Value.oneCell']); (rw [mrk_length]; omega); rw [mrk_step _ _ _ _ _ hlt]; intro wa oa ua; have ob := o2.upd ua (by omega); have oc := o3.upd ua (by omega); have qa : Box2 w R a1 a2 a3 k1 k2 k3 wa := ua.below q (by omega); obtain ⟨ca1, ca2, ca3⟩ := qa.cells; clear o1 o2 o3 q c1 c2 c3 ua)
        | (refine wpList_store_rows (by rfl) _ _ 69 (by rfl) 69 5 (by kernel_rfl) g2 (R.n2 + i) _ rfl (by rfl) mk2 (by rfl) rfl ?_ _ ob ?_ ?_; (simp [Value.oneCell']); (rw [mrk_length]; omega); rw [mrk_step _ _ _ _ _ hlt]; intro wb od ub; have oe := oa.upd ub (by omega); have of := oc.upd ub (by omega); have qb : Box2 w R a1 a2 a3 k1 k2 k3 wb := ub.below qa (by omega); obtain ⟨cb1, cb2, cb3⟩ := qb.cells; clear oa ob oc qa ca1 ca2 ca3 ub)
        | (refine wpList_store_rows (by rfl) _ _ 71 (by rfl) 71 2 (by kernel_rfl) g3 (R.n3 + i) _ rfl (by rfl) mk3 (by rfl) rfl ?_ _ of ?_ ?_; (simp [Value.oneCell']); (rw [mrk_length]; omega); rw [mrk_step _ _ _ _ _ hlt]; intro wc og uc; have oh := oe.upd uc (by omega); have oi := od.upd uc (by omega); have qc : Box2 w R a1 a2 a3 k1 k2 k3 wc := uc.below qb (by omega); clear od oe of qb cb1 cb2 cb3 uc))
      go_roundw
      case rel => exact ⟨i + 1, by omega, by go_num, oh, oi, og, qc⟩
      case measure => simp [intOf]; omega
    · obtain rfl : i = 2 := by omega
      rw [mrk_end] at o1 o2 o3
      obtain ⟨⟨r1, r2, r3⟩, rf⟩ := q.res
      have rf0 := rf 0; have rf1 := rf 1; have rf2 := rf 2
      have u1 : (0 : Int) ≤ (R.n1 : Int) := by omega
      have u2 : (R.n1 : Int) ≤ (R.n1 : Int) + 2 := by omega
      have u3 : (0 : Int) ≤ (R.n2 : Int) := by omega
      have u4 : (R.n2 : Int) ≤ (R.n2 : Int) + 2 := by omega
      have u5 : (0 : Int) ≤ (R.n3 : Int) := by omega
      have u6 : (R.n3 : Int) ≤ (R.n3 : Int) + 2 := by omega
      have hz := q.size
      go_wp2_with fail
      go_region_held3 (fun w' => w'.cell? ⟨w.heap.size, 0, none⟩ = some (.slice a1 R.n1 k1) ∧ w'.cell? ⟨w.heap.size, 1, none⟩ = some (.slice a2 R.n2 k2) ∧ w'.cell? ⟨w.heap.size, 2, none⟩ = some (.slice a3 R.n3 k3))
         (first | (go_keep; done))
         (fail)
      go_wp2_with fail
      obtain ⟨X, hX, x0, x1, x2, hu⟩ := set3 wr (w.heap.size + 1) (.slice ad1 R.n1 (R.n1 + 2)) (.slice ad2 R.n2 (R.n2 + 2)) (.slice ad3 R.n3 (R.n3 + 2)) _ _ _ r1 r2 r3
      rw [← hX]
      clear hX
      have hH : Handed X R ad1 ad2 ad3 g1 g2 g3 := ⟨e1.out, e2.out, e3.out, o1.upd hu (by omega), o2.upd hu (by omega), o3.upd hu (by omega), hg12, hg23⟩
      have hB : Below w.heap.size w X := hu.below q.old (by omega)
      have hgg : w.heap.size ≤ g1 := by omega
      refine bodyPost_ret (v := repV R ad1 ad2 ad3 (R.n1 + 2) (R.n2 + 2) (R.n3 + 2)) ?_ rfl ⟨ad1, ad2, ad3, g1, g2, g3, rfl, hH, hgg, hB⟩
      simp [results, Try.results14, go_sem, x0, x1, x2]
end Go.Proofs.Ytdjpkgaicmklmaa

/- parcellaw.sameReplica and parcellaw.still, walked, where the two replicas are the same. -/
namespace Go.Proofs.Ytdjpkgaicmklmaa
open Go.RowKit

/-- Two boxes. -/
abbrev BoxS (w : World) (R : Rep) (a1 a2 a3 b1 b2 b3 : Option Addr) (k1 k2 k3 l1 l2 l3 : Nat) (wr : World) : Prop :=
  Below (w.heap.size + 2) ((w.alloc (.cells #[.slice a1 R.n1 k1, .slice a2 R.n2 k2, .slice a3 R.n3 k3] 26)).alloc (.cells #[.slice b1 R.n1 l1, .slice b2 R.n2 l2, .slice b3 R.n3 l3] 26)) wr

theorem BoxS.cells {w : World} {R : Rep} {a1 a2 a3 b1 b2 b3 : Option Addr} {k1 k2 k3 l1 l2 l3 : Nat} {wr : World} (hb : BoxS w R a1 a2 a3 b1 b2 b3 k1 k2 k3 l1 l2 l3 wr) :
    (wr.cell? ⟨w.heap.size, 0, none⟩ = some (.slice a1 R.n1 k1) ∧ wr.cell? ⟨w.heap.size, 1, none⟩ = some (.slice a2 R.n2 k2) ∧ wr.cell? ⟨w.heap.size, 2, none⟩ = some (.slice a3 R.n3 k3)) ∧
    wr.cell? ⟨w.heap.size + 1, 0, none⟩ = some (.slice b1 R.n1 l1) ∧ wr.cell? ⟨w.heap.size + 1, 1, none⟩ = some (.slice b2 R.n2 l2) ∧ wr.cell? ⟨w.heap.size + 1, 2, none⟩ = some (.slice b3 R.n3 l3) := by
  refine ⟨⟨?_, ?_, ?_⟩, ?_, ?_, ?_⟩
  · rw [hb.cell (p := ⟨w.heap.size, 0, none⟩) (by simp)]; simp
  · rw [hb.cell (p := ⟨w.heap.size, 1, none⟩) (by simp)]; simp
  · rw [hb.cell (p := ⟨w.heap.size, 2, none⟩) (by simp)]; simp
  · rw [hb.cell (p := ⟨w.heap.size + 1, 0, none⟩) (by simp)]; simp
  · rw [hb.cell (p := ⟨w.heap.size + 1, 1, none⟩) (by simp)]; simp
  · rw [hb.cell (p := ⟨w.heap.size + 1, 2, none⟩) (by simp)]; simp
theorem BoxS.old {w : World} {R : Rep} {a1 a2 a3 b1 b2 b3 : Option Addr} {k1 k2 k3 l1 l2 l3 : Nat} {wr : World} (hb : BoxS w R a1 a2 a3 b1 b2 b3 k1 k2 k3 l1 l2 l3 wr) : Below w.heap.size w wr :=
  (((Below.refl _ w).alloc (Nat.le_refl _) _).alloc (by simp) _).trans (hb.mono (by omega))
theorem BoxS.size {w : World} {R : Rep} {a1 a2 a3 b1 b2 b3 : Option Addr} {k1 k2 k3 l1 l2 l3 : Nat} {wr : World} (hb : BoxS w R a1 a2 a3 b1 b2 b3 k1 k2 k3 l1 l2 l3 wr) : w.heap.size + 2 ≤ wr.heap.size := by
  have := Below.size hb; simpa using this

set_option maxRecDepth 100000 in
set_option maxHeartbeats 4000000 in
theorem sameReplica_any (R : Rep) (a1 a2 a3 b1 b2 b3 : Option Addr) (k1 k2 k3 l1 l2 l3 : Nat) (w : World) (hA : Has w R a1 a2 a3) (hB : Has w R b1 b2 b3) :
    Calls Try.prog 40 #[repV R a1 a2 a3 k1 k2 k3, repV R b1 b2 b3 l1 l2 l3] w fun e w' => e = .returned (.bool true) ∧ Below w.heap.size w w' := by
  have y1 := hA.b1; have y2 := hA.b2; have y3 := hA.b3
  go_enter Try.func40, Try.ntmps40
  go_wp2
  go_loopw [5] (fun i wr => ∃ k : Nat, k ≤ R.n1 ∧ i = .int .i64 k ∧ BoxS w R a1 a2 a3 b1 b2 b3 k1 k2 k3 l1 l2 l3 wr) (fun i _ => R.n1 - (intOf i).toNat)
  case atStart => exact ⟨0, Nat.zero_le _, rfl, Below.refl _ _⟩
  case round =>
    obtain ⟨k, hk, rfl, hb⟩ := hrel
    obtain ⟨⟨x1, x2, x3⟩, z1, z2, z3⟩ := hb.cells
    by_cases hlt : k < R.n1
    · obtain ⟨b, o, hbl, hix, hs, hc⟩ := (hA.below hb.old).l1.clock k1 hlt
      obtain ⟨b', o', hbl', hix', hs', hc'⟩ := (hB.below hb.old).l1.clock l1 hlt
      go_wp2
      go_quiet (fail)
      go_wp2
      go_roundw
      case rel => exact ⟨k + 1, by omega, by go_num, below_drewN hb _⟩
      case measure => simp [intOf]; omega
    · go_wp2
      go_loopw [6] (fun i wr => ∃ k : Nat, k ≤ R.n2 ∧ i = .int .i64 k ∧ BoxS w R a1 a2 a3 b1 b2 b3 k1 k2 k3 l1 l2 l3 wr) (fun i _ => R.n2 - (intOf i).toNat)
      case atStart => exact ⟨0, Nat.zero_le _, rfl, hb⟩
      case round =>
        clear x1 x2 x3 z1 z2 z3 hb hk hlt
        obtain ⟨k, hk, rfl, hb⟩ := hrel
        obtain ⟨⟨x1, x2, x3⟩, z1, z2, z3⟩ := hb.cells
        by_cases hlt : k < R.n2
        · obtain ⟨b, o, hbl, hix, c1, c2, c3, c4, c5⟩ := (hA.below hb.old).l2.card k2 hlt
          obtain ⟨b', o', hbl', hix', d1, d2, d3, d4, d5⟩ := (hB.below hb.old).l2.card l2 hlt
          go_wp2
          go_quiet (fail)
          go_wp2
          go_roundw
          case rel => exact ⟨k + 1, by omega, by go_num, below_drewN hb _⟩
          case measure => simp [intOf]; omega
        · go_wp2
          go_loopw [7] (fun i wr => ∃ k : Nat, k ≤ R.n3 ∧ i = .int .i64 k ∧ BoxS w R a1 a2 a3 b1 b2 b3 k1 k2 k3 l1 l2 l3 wr) (fun i _ => R.n3 - (intOf i).toNat)
          case atStart => exact ⟨0, Nat.zero_le _, rfl, hb⟩
          case round =>
            clear x1 x2 x3 z1 z2 z3 hb hk hlt
            obtain ⟨k, hk, rfl, hb⟩ := hrel
            obtain ⟨⟨x1, x2, x3⟩, z1, z2, z3⟩ := hb.cells
            by_cases hlt : k < R.n3
            · obtain ⟨b, o, hbl, hix, c1, c2⟩ := (hA.below hb.old).l3.edit k3 hlt
              obtain ⟨b', o', hbl', hix', d1, d2⟩ := (hB.below hb.old).l3.edit l3 hlt
              go_wp2
              go_quiet (fail)
              go_wp2
              go_roundw
              case rel => exact ⟨k + 1, by omega, by go_num, below_drewN hb _⟩
              case measure => simp [intOf]; omega
            · go_wp2
              go_ret
              exact ⟨rfl, hb.old⟩

theorem Own.mark {w : World} {g e m n i : Nat} {f : Nat → List Value} {mk : List Value} (h : Own w g e m ((List.range n).map f ++ [mk, mk])) (hi : i < 2) (hm : 0 < m) {v : Value} (hv : mk[0]? = some v) : w.cell? ⟨g, (n + i) * m, none⟩ = some v := by
  have hc := h.cell (n + i) 0 (by simp; omega) hm
  rw [Nat.add_zero] at hc
  rw [hc]
  have hg : ((List.range n).map f ++ [mk, mk]).getD (n + i) [] = mk := by
    rw [List.getD, List.getElem?_append_right (by simp)]
    simp only [List.length_map, List.length_range, show n + i - n = i by omega]
    rcases (by omega : i = 0 ∨ i = 1) with rfl | rfl <;> rfl
  rw [hg, hv]

theorem Handed.has {w : World} {R : Rep} {a1 a2 a3 b1 b2 b3 : Option Addr} {g1 g2 g3 : Nat} (h : Handed w R b1 b2 b3 g1 g2 g3) {w0 : World} (hR : Has w0 R a1 a2 a3) : Has w R b1 b2 b3 := by
  refine ⟨?_, ?_, ?_, hR.b1, hR.b2, hR.b3, hR.y1, hR.y2, hR.y3⟩
  · rw [h.e1]; refine h.o1.lies R.n1 _ (by simp) fun i hi => ?_
    rw [List.getD, List.getElem?_append_left (by simpa using hi)]; simp [hi]
  · rw [h.e2]; refine h.o2.lies R.n2 _ (by simp) fun i hi => ?_
    rw [List.getD, List.getElem?_append_left (by simpa using hi)]; simp [hi]
  · rw [h.e3]; refine h.o3.lies R.n3 _ (by simp) fun i hi => ?_
    rw [List.getD, List.getElem?_append_left (by simpa using hi)]; simp [hi]

theorem Handed.below {w w' : World} {R : Rep} {b1 b2 b3 : Option Addr} {g1 g2 g3 : Nat} (h : Handed w R b1 b2 b3 g1 g2 g3) (hb : Below w.heap.size w w') : Handed w' R b1 b2 b3 g1 g2 g3 :=
  ⟨h.e1, h.e2, h.e3, h.o1.below hb h.o1.lt, h.o2.below hb h.o2.lt, h.o3.below hb h.o3.lt, h.d12, h.d23⟩

theorem boxS_step {w : World} {R : Rep} {a1 a2 a3 b1 b2 b3 : Option Addr} {k1 k2 k3 l1 l2 l3 : Nat} {wr w' : World} (hb : BoxS w R a1 a2 a3 b1 b2 b3 k1 k2 k3 l1 l2 l3 wr) (h : Below wr.heap.size wr w') : BoxS w R a1 a2 a3 b1 b2 b3 k1 k2 k3 l1 l2 l3 w' :=
  Below.trans hb (h.mono hb.size)

set_option maxRecDepth 100000 in
set_option maxHeartbeats 4000000 in
theorem still_any (R : Rep) (a1 a2 a3 b1 b2 b3 : Option Addr) (g1 g2 g3 k1 k2 k3 : Nat) (w : World) (hA : Has w R a1 a2 a3) (hH : Handed w R b1 b2 b3 g1 g2 g3) :
    Calls Try.prog 17 #[repV R b1 b2 b3 (R.n1 + 2) (R.n2 + 2) (R.n3 + 2), repV R a1 a2 a3 k1 k2 k3] w fun e w' => e = .returned (.bool true) ∧ Below w.heap.size w w' := by
  have y1 := hA.b1; have y2 := hA.b2; have y3 := hA.b3
  have u1 : (0 : Int) ≤ (R.n1 : Int) + 2 := by omega
  have u3 : (0 : Int) ≤ (R.n2 : Int) + 2 := by omega
  have u5 : (0 : Int) ≤ (R.n3 : Int) + 2 := by omega
  have hb0 : BoxS w R b1 b2 b3 a1 a2 a3 (R.n1 + 2) (R.n2 + 2) (R.n3 + 2) k1 k2 k3 ((w.alloc (.cells #[.slice b1 R.n1 (R.n1 + 2), .slice b2 R.n2 (R.n2 + 2), .slice b3 R.n3 (R.n3 + 2)] 26)).alloc (.cells #[.slice a1 R.n1 k1, .slice a2 R.n2 k2, .slice a3 R.n3 k3] 26)) := Below.refl _ _
  go_enter Try.func17, Try.ntmps17
  go_wp2_with fail
  refine (sameReplica_any R b1 b2 b3 a1 a2 a3 _ _ _ _ _ _ _ ((hH.has hA).below hb0.old) (hA.below hb0.old)).mono ?_
  rintro e w1 ⟨rfl, h1⟩
  have hb1 := boxS_step hb0 h1
  clear h1 hb0
  obtain ⟨⟨x1, x2, x3⟩, z1, z2, z3⟩ := hb1.cells
  go_wp2_with fail
  go_loop [9] (fun v => ∃ i : Nat, i ≤ 2 ∧ v = .int .i64 i) (fun v => 2 - (intOf v).toNat)
  case atStart => exact ⟨0, by omega, rfl⟩
  case round =>
    obtain ⟨i, hi, rfl⟩ := hrel
    have hH1 := hH.below hb1.old
    by_cases hlt : i < 2
    · have e1 : Hid (b1 = some ⟨g1, 0, none⟩) := hH.e1
      have e2 : Hid (b2 = some ⟨g2, 0, none⟩) := hH.e2
      have e3 : Hid (b3 = some ⟨g3, 0, none⟩) := hH.e3
      have v1 := fun w' => Own.idx e1 (P := Try.prog) (t := 22) (m := 2) (R.n1 + 2) (R.n1 + 2) (by kernel_rfl) (by kernel_rfl) (k := R.n1 + i) (by omega) ((R.n1 : Int) + (i : Int)) (by omega) w'
      have v2 := fun w' => Own.idx e2 (P := Try.prog) (t := 23) (m := 5) (R.n2 + 2) (R.n2 + 2) (by kernel_rfl) (by kernel_rfl) (k := R.n2 + i) (by omega) ((R.n2 : Int) + (i : Int)) (by omega) w'
      have v3 := fun w' => Own.idx e3 (P := Try.prog) (t := 24) (m := 2) (R.n3 + 2) (R.n3 + 2) (by kernel_rfl) (by kernel_rfl) (k := R.n3 + i) (by omega) ((R.n3 : Int) + (i : Int)) (by omega) w'
      have c1 := hH1.o1.mark hlt (by omega) (v := .int .i64 (-7)) rfl
      have c2 := hH1.o2.mark hlt (by omega) (v := .int .i64 (-7)) rfl
      have c3 := hH1.o3.mark hlt (by omega) (v := .int .i64 (-7)) rfl
      go_wp2_with fail
      go_round
      case rel => exact ⟨i + 1, by omega, by go_num⟩
      case measure => simp [intOf]; omega
    · go_wp2_with fail
      go_ret
      exact ⟨rfl, hb1.old⟩
end Go.Proofs.Ytdjpkgaicmklmaa

/- parcelref.numbered, walked. -/
namespace Go.Proofs.Ytdjpkgaicmklmaa
open Go.RowKit

set_option maxHeartbeats 4000000 in
theorem numbered_any (R : Rep) (a1 a2 a3 : Option Addr) (k1 k2 k3 : Nat) (w : World) (hR : Has w R a1 a2 a3) :
    Calls Try.prog 36 #[repV R a1 a2 a3 k1 k2 k3] w fun e w' => e = .returned (.bool (!R.numB)) ∧ Below w.heap.size w w' := by
  have b1 := hR.b1; have b2 := hR.b2; have b3 := hR.b3
  go_enter Try.func36, Try.ntmps36
  go_wp2
  go_loopw [3, 4] (fun v i wr => ∃ (k : Nat) (x : Bool), k ≤ R.n1 ∧ i = .int .i64 k ∧ v = .bool x ∧ (x = !anyTo R.num1 k) ∧ BoxR w R a1 a2 a3 k1 k2 k3 wr) (fun _ i _ => R.n1 - (intOf i).toNat)
  case atStart => exact ⟨0, true, Nat.zero_le _, rfl, rfl, rfl, Below.refl _ _⟩
  case round =>
    obtain ⟨k, x, hk, rfl, rfl, hx, hb⟩ := hrel
    obtain ⟨x1, x2, x3⟩ := box3 hb
    have HX : Hid (x = !anyTo R.num1 k) := hx
    clear hx
    by_cases hlt : k < R.n1
    · obtain ⟨b, o, hbl, hix, hs, hc⟩ := (hR.below (below_box hb)).l1.clock k1 hlt
      go_wp2_with (go_at_call 80; refine (within_out _ _ _).mono ?_; rintro e w' ⟨rfl, rfl⟩)
      all_goals
        go_roundw
        case rel =>
          refine ⟨k + 1, _, by omega, by go_num, rfl, ?_, hb⟩
          have h := HX.out
          simp only [anyTo, Rep.num1, scB]
          revert h
          simp [*]
          try (cases anyTo R.num1 k <;> simp [*])
        case measure => simp [intOf]; omega
    · have e1 : k = R.n1 := by omega
      have N1 : Hid (x = !anyTo R.num1 R.n1) := e1 ▸ HX.out
      clear HX e1
      go_wp2
      go_loopw [3, 7] (fun v i wr => ∃ (k : Nat) (x : Bool), k ≤ R.n2 ∧ i = .int .i64 k ∧ v = .bool x ∧ (x = !(anyTo R.num1 R.n1 || anyTo R.num2 k)) ∧ BoxR w R a1 a2 a3 k1 k2 k3 wr) (fun _ i _ => R.n2 - (intOf i).toNat)
      case atStart => exact ⟨0, x, Nat.zero_le _, rfl, rfl, by rw [N1.out]; simp [anyTo], hb⟩
      case round =>
        clear x1 x2 x3 hb hk hlt N1
        obtain ⟨k, x, hk, rfl, rfl, hx, hb⟩ := hrel
        obtain ⟨x1, x2, x3⟩ := box3 hb
        have HX : Hid (x = !(anyTo R.num1 R.n1 || anyTo R.num2 k)) := hx
        clear hx
        by_cases hlt : k < R.n2
        · obtain ⟨b, o, hbl, hix, hi, hs, hc, -, -⟩ := (hR.below (below_box hb)).l2.card k2 hlt
          go_wp2_with (go_at_call 80; refine (within_out _ _ _).mono ?_; rintro e w' ⟨rfl, rfl⟩)
          all_goals
            go_roundw
            case rel =>
              refine ⟨k + 1, _, by omega, by go_num, rfl, ?_, hb⟩
              have h := HX.out
              simp only [anyTo, Rep.num2, scB]
              revert h
              simp [*]
              try (cases anyTo R.num1 R.n1 <;> cases anyTo R.num2 k <;> simp [*])
            case measure => simp [intOf]; omega
        · have e1 : k = R.n2 := by omega
          have N1 : Hid (x = !(anyTo R.num1 R.n1 || anyTo R.num2 R.n2)) := e1 ▸ HX.out
          clear HX e1
          go_wp2
          go_loopw [3, 11] (fun v i wr => ∃ (k : Nat) (x : Bool), k ≤ R.n3 ∧ i = .int .i64 k ∧ v = .bool x ∧ (x = !(anyTo R.num1 R.n1 || (anyTo R.num2 R.n2 || anyTo R.num3 k))) ∧ BoxR w R a1 a2 a3 k1 k2 k3 wr) (fun _ i _ => R.n3 - (intOf i).toNat)
          case atStart => exact ⟨0, x, Nat.zero_le _, rfl, rfl, by rw [N1.out]; simp [anyTo], hb⟩
          case round =>
            clear x1 x2 x3 hb hk hlt N1
            obtain ⟨k, x, hk, rfl, rfl, hx, hb⟩ := hrel
            obtain ⟨x1, x2, x3⟩ := box3 hb
            have HX : Hid (x = !(anyTo R.num1 R.n1 || (anyTo R.num2 R.n2 || anyTo R.num3 k))) := hx
            clear hx
            by_cases hlt : k < R.n3
            · obtain ⟨b, o, hbl, hix, hi, -⟩ := (hR.below (below_box hb)).l3.edit k3 hlt
              go_wp2_with (go_at_call 80; refine (within_out _ _ _).mono ?_; rintro e w' ⟨rfl, rfl⟩)
              all_goals
                go_roundw
                case rel =>
                  refine ⟨k + 1, _, by omega, by go_num, rfl, ?_, hb⟩
                  have h := HX.out
                  simp only [anyTo, Rep.num3]
                  revert h
                  simp [*]
                  try (cases anyTo R.num1 R.n1 <;> cases anyTo R.num2 R.n2 <;> cases anyTo R.num3 k <;> simp [*])
                case measure => simp [intOf]; omega
            · have e1 : k = R.n3 := by omega
              have N1 : Hid (x = !(anyTo R.num1 R.n1 || (anyTo R.num2 R.n2 || anyTo R.num3 R.n3))) := e1 ▸ HX.out
              clear HX e1
              go_wp2
              go_ret
              exact ⟨ret_bool N1.out, below_box hb⟩
end Go.Proofs.Ytdjpkgaicmklmaa

/- parcelref.texted, walked. -/
namespace Go.Proofs.Ytdjpkgaicmklmaa
open Go.RowKit

set_option maxHeartbeats 2000000 in
theorem texted_any (R : Rep) (a1 a2 a3 : Option Addr) (k1 k2 k3 : Nat) (w : World) (hR : Has w R a1 a2 a3) :
    Calls Try.prog 37 #[repV R a1 a2 a3 k1 k2 k3] w fun e w' => e = .returned (.bool (!R.txtB)) ∧ Below w.heap.size w w' := by
  have b1 := hR.b1; have b2 := hR.b2; have b3 := hR.b3
  go_enter Try.func37, Try.ntmps37
  go_wp2
  go_loopw [3] (fun i wr => ∃ k : Nat, k ≤ R.n2 ∧ i = .int .i64 k ∧ anyTo R.txt2 k = false ∧ BoxR w R a1 a2 a3 k1 k2 k3 wr) (fun i _ => R.n2 - (intOf i).toNat)
  case atStart => exact ⟨0, Nat.zero_le _, rfl, rfl, Below.refl _ _⟩
  case round =>
    obtain ⟨k, hk, rfl, hno, hb⟩ := hrel
    obtain ⟨x1, x2, x3⟩ := box3 hb
    have HN : Hid (anyTo R.txt2 k = false) := hno
    clear hno
    by_cases hlt : k < R.n2
    · obtain ⟨b, o, hbl, hix, -, -, -, hg, ht⟩ := (hR.below (below_box hb)).l2.card k2 hlt
      go_wp2
      · have h1 : ((R.d k).text.size : Int) ≤ 60 := by assumption
        have h2 : (R.d k).gone = true := by assumption
        have h3 : 60 < ((R.d k).text.size : Int) ∨ (!(R.d k).text.toList.isEmpty) = true := by assumption
        have h4 : (!(R.d k).text.toList.isEmpty) = true := by rcases h3 with h | h; (omega); exact h
        have hp : R.txt2 k = true := by unfold Rep.txt2; simp only [h2, h4]; simp
        go_ret
        exact ⟨ret_bool (by simp [Rep.txtB, anyTo_hit hlt hp]), below_box hb⟩
      · have h1 : ((R.d k).text.size : Int) ≤ 60 := by assumption
        have h3 : ((R.d k).text.size : Int) ≤ 60 ∧ (!(R.d k).text.toList.isEmpty) = false := by assumption
        have hp : R.txt2 k = false := by unfold Rep.txt2 longB; simp only [h3.2]; simp; omega
        go_roundw
        case rel => exact ⟨k + 1, by omega, by go_num, anyTo_no HN.out hp, hb⟩
        case measure => simp [intOf]; omega
      · have h1 : ((R.d k).text.size : Int) ≤ 60 := by assumption
        have h2 : ¬ (R.d k).gone = true := by assumption
        have hp : R.txt2 k = false := by unfold Rep.txt2 longB; simp [h2]; omega
        go_roundw
        case rel => exact ⟨k + 1, by omega, by go_num, anyTo_no HN.out hp, hb⟩
        case measure => simp [intOf]; omega
      · have hp : R.txt2 k = true := by unfold Rep.txt2 longB; simp [‹(60 : Int) < ((R.d k).text.size : Int)›]
        go_ret
        exact ⟨ret_bool (by simp [Rep.txtB, anyTo_hit hlt hp]), below_box hb⟩
    · have e1 : k = R.n2 := by omega
      have N1 : Hid (anyTo R.txt2 R.n2 = false) := e1 ▸ HN.out
      clear HN e1
      go_wp2
      go_loopw [4] (fun i wr => ∃ k : Nat, k ≤ R.n3 ∧ i = .int .i64 k ∧ anyTo R.txt3 k = false ∧ BoxR w R a1 a2 a3 k1 k2 k3 wr) (fun i _ => R.n3 - (intOf i).toNat)
      case atStart => exact ⟨0, Nat.zero_le _, rfl, rfl, hb⟩
      case round =>
        clear x1 x2 x3 hb hk
        obtain ⟨k, hk, rfl, hno, hb⟩ := hrel
        obtain ⟨x1, x2, x3⟩ := box3 hb
        have HN : Hid (anyTo R.txt3 k = false) := hno
        clear hno
        by_cases hlt : k < R.n3
        · obtain ⟨b, o, hbl, hix, -, ht⟩ := (hR.below (below_box hb)).l3.edit k3 hlt
          go_wp2
          · have hp : R.txt3 k = true := by unfold Rep.txt3 longB; simp [‹(60 : Int) < ((R.e k).text.size : Int)›]
            go_ret
            exact ⟨ret_bool (by simp [Rep.txtB, anyTo_hit hlt hp]), below_box hb⟩
          · have hp : R.txt3 k = false := by
              have h1 : ((R.e k).text.size : Int) ≤ 60 := by assumption
              unfold Rep.txt3 longB; simp; omega
            go_roundw
            case rel => exact ⟨k + 1, by omega, by go_num, anyTo_no HN.out hp, hb⟩
            case measure => simp [intOf]; omega
        · have e1 : k = R.n3 := by omega
          have N2 : Hid (anyTo R.txt3 R.n3 = false) := e1 ▸ HN.out
          clear HN e1
          go_wp2
          go_ret
          exact ⟨ret_bool (by simp [Rep.txtB, N1.out, N2.out]), below_box hb⟩


end Go.Proofs.Ytdjpkgaicmklmaa

/- parcelref.rising, walked. -/
namespace Go.Proofs.Ytdjpkgaicmklmaa
open Go.RowKit

set_option maxHeartbeats 2000000 in
theorem rising_any (R : Rep) (a1 a2 a3 : Option Addr) (k1 k2 k3 : Nat) (w : World) (hR : Has w R a1 a2 a3) :
    Calls Try.prog 38 #[repV R a1 a2 a3 k1 k2 k3] w fun e w' => e = .returned (.bool (!R.risB)) ∧ Below w.heap.size w w' := by
  have b1 := hR.b1; have b2 := hR.b2; have b3 := hR.b3
  go_enter Try.func38, Try.ntmps38
  go_wp2
  go_loopw [3] (fun i wr => ∃ k : Nat, k ≤ R.n1 - 1 ∧ i = .int .i64 ((k : Int) + 1) ∧ anyTo R.ris1 k = false ∧ BoxR w R a1 a2 a3 k1 k2 k3 wr) (fun i _ => R.n1 - (intOf i).toNat)
  case atStart => exact ⟨0, Nat.zero_le _, rfl, rfl, Below.refl _ _⟩
  case round =>
    obtain ⟨k, hk, rfl, hno, hb⟩ := hrel
    obtain ⟨x1, x2, x3⟩ := box3 hb
    have HN : Hid (anyTo R.ris1 k = false) := hno
    clear hno
    by_cases hlt : k + 1 < R.n1
    · obtain ⟨b, o, hbl, hix, hs, -⟩ := (hR.below (below_box hb)).l1.clock k1 (show k < R.n1 by omega)
      obtain ⟨b', o', hbl', hix', hs', -⟩ := (hR.below (below_box hb)).l1.clock k1 hlt
      rw [show ((k + 1 : Nat) : Int) = (k : Int) + 1 from by omega] at hix'
      go_wp2
      go_quiet (fail)
      go_wp2
      · have hp : R.ris1 k = true := by unfold Rep.ris1; simp [‹(R.c (k + 1)).site ≤ (R.c k).site›]
        go_ret
        exact ⟨ret_bool (by simp [Rep.risB, anyTo_hit (show k < R.n1 - 1 by omega) hp]), below_drewN (below_box hb) _⟩
      · have hp : R.ris1 k = false := by
          have h1 : (R.c k).site < (R.c (k + 1)).site := by assumption
          unfold Rep.ris1; simp; omega
        go_roundw
        case rel => exact ⟨k + 1, by omega, by go_num, anyTo_no HN.out hp, below_drewN hb _⟩
        case measure => simp [intOf]; omega
    · have e1 : k = R.n1 - 1 := by omega
      have N1 : Hid (anyTo R.ris1 (R.n1 - 1) = false) := e1 ▸ HN.out
      clear HN e1
      go_wp2
      go_loopw [4] (fun i wr => ∃ k : Nat, k ≤ R.n2 - 1 ∧ i = .int .i64 ((k : Int) + 1) ∧ anyTo R.ris2 k = false ∧ BoxR w R a1 a2 a3 k1 k2 k3 wr) (fun i _ => R.n2 - (intOf i).toNat)
      case atStart => exact ⟨0, Nat.zero_le _, rfl, rfl, hb⟩
      case round =>
        clear x1 x2 x3 hb hk hlt
        obtain ⟨k, hk, rfl, hno, hb⟩ := hrel
        obtain ⟨x1, x2, x3⟩ := box3 hb
        have HN : Hid (anyTo R.ris2 k = false) := hno
        clear hno
        by_cases hlt : k + 1 < R.n2
        · obtain ⟨b, o, hbl, hix, hs, -, -, -, -⟩ := (hR.below (below_box hb)).l2.card k2 (show k < R.n2 by omega)
          obtain ⟨b', o', hbl', hix', hs', -, -, -, -⟩ := (hR.below (below_box hb)).l2.card k2 hlt
          rw [show ((k + 1 : Nat) : Int) = (k : Int) + 1 from by omega] at hix'
          go_wp2
          go_quiet (fail)
          go_wp2
          · have hp : R.ris2 k = true := by unfold Rep.ris2; simp [‹(R.d (k + 1)).id ≤ (R.d k).id›]
            go_ret
            exact ⟨ret_bool (by simp [Rep.risB, anyTo_hit (show k < R.n2 - 1 by omega) hp]), below_drewN (below_box hb) _⟩
          · have hp : R.ris2 k = false := by
              have h1 : (R.d k).id < (R.d (k + 1)).id := by assumption
              unfold Rep.ris2; simp; omega
            go_roundw
            case rel => exact ⟨k + 1, by omega, by go_num, anyTo_no HN.out hp, below_drewN hb _⟩
            case measure => simp [intOf]; omega
        · have e1 : k = R.n2 - 1 := by omega
          have N2 : Hid (anyTo R.ris2 (R.n2 - 1) = false) := e1 ▸ HN.out
          clear HN e1
          go_wp2
          go_ret
          exact ⟨ret_bool (by simp [Rep.risB, N1.out, N2.out]), below_box hb⟩

end Go.Proofs.Ytdjpkgaicmklmaa

/- parcelref.Clocked, walked. -/
namespace Go.Proofs.Ytdjpkgaicmklmaa
open Go.RowKit

set_option maxHeartbeats 1000000 in
theorem clocked_any (R : Rep) (a1 a2 a3 : Option Addr) (k1 k2 k3 : Nat) (site : Int) (w : World) (hR : Has w R a1 a2 a3) :
    Calls Try.prog 39 #[repV R a1 a2 a3 k1 k2 k3, .int .i64 site] w fun e w' => e = .returned (.int .i64 (R.clk site)) ∧ Below w.heap.size w w' := by
  have b1 := hR.b1; have b2 := hR.b2; have b3 := hR.b3
  go_enter Try.func39, Try.ntmps39
  go_wp2
  go_loopw [5] (fun i wr => ∃ k : Nat, k ≤ R.n1 ∧ i = .int .i64 k ∧ clockTo R.c site k = none ∧ BoxR w R a1 a2 a3 k1 k2 k3 wr) (fun i _ => R.n1 - (intOf i).toNat)
  case atStart => exact ⟨0, Nat.zero_le _, rfl, rfl, Below.refl _ _⟩
  case round =>
    obtain ⟨k, hk, rfl, hno, hb⟩ := hrel
    obtain ⟨x1, x2, x3⟩ := box3 hb
    have HN : Hid (clockTo R.c site k = none) := hno
    clear hno
    by_cases hlt : k < R.n1
    · obtain ⟨b, o, hbl, hix, hs, hc⟩ := (hR.below (below_box hb)).l1.clock k1 hlt
      go_wp2
      · have hp : (R.c k).site = site := by simpa using ‹((R.c k).site == site) = true›
        go_ret
        exact ⟨ret_int (by unfold Rep.clk; rw [clockTo_hit hlt HN.out hp]; rfl), below_box hb⟩
      · have hp : ¬ (R.c k).site = site := by simpa using ‹((R.c k).site == site) = false›
        go_roundw
        case rel => exact ⟨k + 1, by omega, by go_num, clockTo_no HN.out hp, hb⟩
        case measure => simp [intOf]; omega
    · have e1 : k = R.n1 := by omega
      have N1 : Hid (clockTo R.c site R.n1 = none) := e1 ▸ HN.out
      clear HN e1
      go_wp2
      go_ret
      exact ⟨ret_int (by unfold Rep.clk; rw [N1.out]; rfl), below_box hb⟩
end Go.Proofs.Ytdjpkgaicmklmaa

