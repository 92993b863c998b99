/- Texts of the proof, one behind the other; what each holds is said at its head. -/
import Derived.Test.YtdjpkgaicmklmaaPartCut4
import Derived.Test.YtdjpkgaicmklmaaPartCut2
import Derived.Test.YtdjpkgaicmklmaaPartCut3
import Derived.BigQuiet
import Derived.Deep.QuietTactic
/- Records read back: the reference's record, walked (clocks). -/
namespace Go.Proofs.Ytdjpkgaicmklmaa
open Go.RowKit

set_option maxRecDepth 100000 in
set_option maxHeartbeats 4000000 in
theorem rec_clock (s : List UInt8) (w : World) (hs : s.length ≤ 9223372036854775806) :
    Calls Try.prog 131 #[.string (str (1 :: s))] w fun e w' => RecAns (1 :: s) e ∧ Below w.heap.size w w' := by
  have h0 : 0 < (str (1 :: s)).size := by rw [str_size]; simp
  have hx : (str (1 :: s)).extract 1 (str (1 :: s)).size = str s := by rw [str_extract, str_size]; simp
  have hne : (str (1 :: s)).toList.isEmpty = false := by rw [str_toList]; rfl
  have hk : wrap64 (((str (1 :: s))[0]'h0).toNat : Int) = 1 := by
    have e : ((str (1 :: s))[0]'h0).toNat = 1 := rfl
    rw [e]; unfold wrap64; omega
  have hle : (1 : Int) ≤ ((str (1 :: s)).size : Int) := by omega
  go_enter Try.func131, Try.ntmps131
  go_wp2_with fail
  obtain ⟨hR, hF, hW, hB⟩ := two_boxes w 64 64 fd0.cells.toArray #[.int .i64 0, .int .i64 1, .int .i64 0, .int .i64 0, .int .i64 0, .int .i64 0, .int .i64 0, .bool false, .string ⟨#[]⟩]
  refine (rnums_any s 2 _ (by omega) (by omega)).mono ?_
  rintro e w2 ⟨hA, hb2⟩
  replace hF := hF.below hb2 hF.lt
  replace hR := hR.below hb2 hR.lt
  have hB2 : Below w.heap.size w w2 := hB.trans (hb2.mono (Nat.le_trans (by omega : w.heap.size ≤ w.heap.size + 2) (Nat.le_of_eq hW.symm)))
  clear hB hx hne hk hle
  unfold NumsAns at hA
  cases hn : numsRd 2 s with
  | none =>
    rw [hn] at hA
    obtain rfl := hA
    have HN : Hid (recRd (1 :: s) = none) := by show _ = _; simp [recRd, hn]
    clear hn
    go_wp2_with (first
      | (refine wpList_bput (by rfl) _ _ 3 (by rfl) (w.heap.size + 1) 64 _ (by rfl) _ (.int .i64 _) (by rfl) hF (by kernel_rfl) (by simp) (by rfl) (by rfl) ?_; intro w9 hF9 hU9; replace hF := hF9; replace hR := hR.upd hU9 (by omega); replace hB2 := hU9.below hB2 (by omega); clear hF9 hU9; dsimp only [List.set] at hF)
      | (refine wpList_bput (by rfl) _ _ 9 (by rfl) (w.heap.size + 1) 64 _ (by rfl) _ (.string _) (by rfl) hF (by kernel_rfl) (by simp) (by rfl) (by rfl) ?_; intro w9 hF9 hU9; replace hF := hF9; replace hR := hR.upd hU9 (by omega); replace hB2 := hU9.below hB2 (by omega); clear hF9 hU9; dsimp only [List.set] at hF)
      | (refine wpList_bput (by rfl) _ _ 4 (by rfl) (w.heap.size + 1) 64 _ (by rfl) _ (.bool _) (by rfl) hF (by kernel_rfl) (by simp) (by rfl) (by rfl) ?_; intro w9 hF9 hU9; replace hF := hF9; replace hR := hR.upd hU9 (by omega); replace hB2 := hU9.below hB2 (by omega); clear hF9 hU9; dsimp only [List.set] at hF)
      | (refine wpList_bload (by rfl) _ _ (by rfl) (w.heap.size + 1) 64 (by rfl) _ hF _ Try.underlying64 (by rfl) 9 (by rfl) (by kernel_rfl) ?_)
      | (refine wpList_bstore (by rfl) _ _ _ (by rfl) w.heap.size 64 (by rfl) _ _ (by rfl) hR 9 (by rfl) (by kernel_rfl) (by rfl) (by intro x hx; simp at hx; rcases hx with rfl | rfl | rfl | rfl | rfl | rfl | rfl | rfl | rfl <;> rfl) ?_; intro w9 hR9 hU9; replace hR := hR9; replace hF := hF.upd hU9 (by omega); replace hB2 := hU9.below hB2 (by omega); clear hR9 hU9)
      | (refine wpList_bget (by rfl) 3 _ (by rfl) (w.heap.size + 1) 64 _ (by rfl) _ hF _ (by rfl) _ Try.underlying3 (by rfl) ?_))
    exact bodyPost_ret (v := .tuple #[fdV (fdK 1), .bool false]) (results_box2 (by rfl) _ _ w.heap.size 64 _ _ _ (by rfl) hR (by rfl) Try.underlying64 (by rfl) 9 (by rfl) (by kernel_rfl)) rfl ⟨⟨_, false, rfl, HN.out⟩, hB2⟩
  | some p =>
    obtain ⟨l, r⟩ := p
    rw [hn] at hA
    obtain ⟨ad, cap, rfl, hv⟩ := hA
    replace hv := hv.mono (show w.heap.size + 2 ≤ _ from Nat.le_of_eq hW.symm)
    have hl := (numsRd_length 2 s hn).1
    have hrl := (numsRd_length 2 s hn).2
    have hvl := hv.length
    obtain ⟨g, sp, rfl, hg, hgl, hL⟩ := hv.bx (by omega)
    clear hv hvl
    obtain ⟨q, u, rfl⟩ : ∃ q u, l = [q, u] := by match l, hl with | [q, u], _ => exact ⟨q, u, rfl⟩
    cases r with
    | nil =>
      have hre : (str []).toList.isEmpty = true := by rw [str_toList]; rfl
      have HN : Hid (recRd (1 :: s) = some (fdClock ⟨q, u⟩)) := by show _ = _; simp [recRd, hn]
      clear hn hl
      go_wp2_with (first
            | (refine wpList_bput (by rfl) _ _ 3 (by rfl) (w.heap.size + 1) 64 _ (by rfl) _ (.int .i64 _) (by rfl) hF (by kernel_rfl) (by simp) (by rfl) (by rfl) ?_; intro w9 hF9 hU9; replace hF := hF9; replace hR := hR.upd hU9 (by omega); replace hL := hL.upd hU9 (by omega); replace hB2 := hU9.below hB2 (by omega); clear hF9 hU9; dsimp only [List.set] at hF)
            | (refine wpList_bput (by rfl) _ _ 9 (by rfl) (w.heap.size + 1) 64 _ (by rfl) _ (.string _) (by rfl) hF (by kernel_rfl) (by simp) (by rfl) (by rfl) ?_; intro w9 hF9 hU9; replace hF := hF9; replace hR := hR.upd hU9 (by omega); replace hL := hL.upd hU9 (by omega); replace hB2 := hU9.below hB2 (by omega); clear hF9 hU9; dsimp only [List.set] at hF)
            | (refine wpList_bput (by rfl) _ _ 4 (by rfl) (w.heap.size + 1) 64 _ (by rfl) _ (.bool _) (by rfl) hF (by kernel_rfl) (by simp) (by rfl) (by rfl) ?_; intro w9 hF9 hU9; replace hF := hF9; replace hR := hR.upd hU9 (by omega); replace hL := hL.upd hU9 (by omega); replace hB2 := hU9.below hB2 (by omega); clear hF9 hU9; dsimp only [List.set] at hF)
            | (refine wpList_bload (by rfl) _ _ (by rfl) (w.heap.size + 1) 64 (by rfl) _ hF _ Try.underlying64 (by rfl) 9 (by rfl) (by kernel_rfl) ?_)
            | (refine wpList_bstore (by rfl) _ _ _ (by rfl) w.heap.size 64 (by rfl) _ _ (by rfl) hR 9 (by rfl) (by kernel_rfl) (by rfl) (by intro x hx; simp at hx; rcases hx with rfl | rfl | rfl | rfl | rfl | rfl | rfl | rfl | rfl <;> rfl) ?_; intro w9 hR9 hU9; replace hR := hR9; replace hF := hF.upd hU9 (by omega); replace hB2 := hU9.below hB2 (by omega); clear hR9 hU9)
            | (refine wpList_bget (by rfl) 3 _ (by rfl) (w.heap.size + 1) 64 _ (by rfl) _ hF _ (by rfl) _ Try.underlying3 (by rfl) ?_)
            | (refine wpList_bget (by rfl) 3 _ (by rfl) g 3 _ (by rfl) _ hL _ (by rfl) _ Try.underlying3 (by rfl) ?_))
      exact bodyPost_ret (v := .tuple #[fdV (fdClock ⟨q, u⟩), .bool true]) (results_box2 (by rfl) _ _ w.heap.size 64 _ _ _ (by rfl) hR (by rfl) Try.underlying64 (by rfl) 9 (by rfl) (by kernel_rfl)) rfl ⟨⟨_, true, rfl, HN.out⟩, hB2⟩

    | cons c t =>
      have hre : (str (c :: t)).toList.isEmpty = false := by rw [str_toList]; rfl
      have HN : Hid (recRd (1 :: s) = none) := by show _ = _; simp [recRd, hn]
      clear hn hl
      go_wp2_with (first
            | (refine wpList_bput (by rfl) _ _ 3 (by rfl) (w.heap.size + 1) 64 _ (by rfl) _ (.int .i64 _) (by rfl) hF (by kernel_rfl) (by simp) (by rfl) (by rfl) ?_; intro w9 hF9 hU9; replace hF := hF9; replace hR := hR.upd hU9 (by omega); replace hL := hL.upd hU9 (by omega); replace hB2 := hU9.below hB2 (by omega); clear hF9 hU9; dsimp only [List.set] at hF)
            | (refine wpList_bput (by rfl) _ _ 9 (by rfl) (w.heap.size + 1) 64 _ (by rfl) _ (.string _) (by rfl) hF (by kernel_rfl) (by simp) (by rfl) (by rfl) ?_; intro w9 hF9 hU9; replace hF := hF9; replace hR := hR.upd hU9 (by omega); replace hL := hL.upd hU9 (by omega); replace hB2 := hU9.below hB2 (by omega); clear hF9 hU9; dsimp only [List.set] at hF)
            | (refine wpList_bput (by rfl) _ _ 4 (by rfl) (w.heap.size + 1) 64 _ (by rfl) _ (.bool _) (by rfl) hF (by kernel_rfl) (by simp) (by rfl) (by rfl) ?_; intro w9 hF9 hU9; replace hF := hF9; replace hR := hR.upd hU9 (by omega); replace hL := hL.upd hU9 (by omega); replace hB2 := hU9.below hB2 (by omega); clear hF9 hU9; dsimp only [List.set] at hF)
            | (refine wpList_bload (by rfl) _ _ (by rfl) (w.heap.size + 1) 64 (by rfl) _ hF _ Try.underlying64 (by rfl) 9 (by rfl) (by kernel_rfl) ?_)
            | (refine wpList_bstore (by rfl) _ _ _ (by rfl) w.heap.size 64 (by rfl) _ _ (by rfl) hR 9 (by rfl) (by kernel_rfl) (by rfl) (by intro x hx; simp at hx; rcases hx with rfl | rfl | rfl | rfl | rfl | rfl | rfl | rfl | rfl <;> rfl) ?_; intro w9 hR9 hU9; replace hR := hR9; replace hF := hF.upd hU9 (by omega); replace hB2 := hU9.below hB2 (by omega); clear hR9 hU9)
            | (refine wpList_bget (by rfl) 3 _ (by rfl) (w.heap.size + 1) 64 _ (by rfl) _ hF _ (by rfl) _ Try.underlying3 (by rfl) ?_)
            | (refine wpList_bget (by rfl) 3 _ (by rfl) g 3 _ (by rfl) _ hL _ (by rfl) _ Try.underlying3 (by rfl) ?_))
      exact bodyPost_ret (v := .tuple #[fdV (fdClock ⟨q, u⟩), .bool false]) (results_box2 (by rfl) _ _ w.heap.size 64 _ _ _ (by rfl) hR (by rfl) Try.underlying64 (by rfl) 9 (by rfl) (by kernel_rfl)) rfl ⟨⟨_, false, rfl, HN.out⟩, hB2⟩

end Go.Proofs.Ytdjpkgaicmklmaa

/- Records read back: the reference's record, walked (cards). -/
namespace Go.Proofs.Ytdjpkgaicmklmaa
open Go.RowKit

set_option maxRecDepth 100000 in
set_option maxHeartbeats 4000000 in
theorem rec_card (s : List UInt8) (w : World) (hs : s.length ≤ 9223372036854775806) :
    Calls Try.prog 131 #[.string (str (2 :: s))] w fun e w' => RecAns (2 :: s) e ∧ Below w.heap.size w w' := by
  have h0 : 0 < (str (2 :: s)).size := by rw [str_size]; simp
  have hx : (str (2 :: s)).extract 1 (str (2 :: s)).size = str s := by rw [str_extract, str_size]; simp
  have hne : (str (2 :: s)).toList.isEmpty = false := by rw [str_toList]; rfl
  have hk : wrap64 (((str (2 :: s))[0]'h0).toNat : Int) = 2 := by
    have e : ((str (2 :: s))[0]'h0).toNat = 2 := rfl
    rw [e]; unfold wrap64; omega
  have hle : (1 : Int) ≤ ((str (2 :: s)).size : Int) := by omega
  go_enter Try.func131, Try.ntmps131
  go_wp2_with fail
  obtain ⟨hR, hF, hW, hB⟩ := two_boxes w 64 64 fd0.cells.toArray #[.int .i64 0, .int .i64 2, .int .i64 0, .int .i64 0, .int .i64 0, .int .i64 0, .int .i64 0, .bool false, .string ⟨#[]⟩]
  refine (rnums_any s 3 _ (by omega) (by omega)).mono ?_
  rintro e w2 ⟨hA, hb2⟩
  replace hF := hF.below hb2 hF.lt
  replace hR := hR.below hb2 hR.lt
  have hB2 : Below w.heap.size w w2 := hB.trans (hb2.mono (Nat.le_trans (by omega : w.heap.size ≤ w.heap.size + 2) (Nat.le_of_eq hW.symm)))
  clear hB hx hne hk hle
  unfold NumsAns at hA
  cases hn : numsRd 3 s with
  | none =>
    rw [hn] at hA
    obtain rfl := hA
    have HN : Hid (recRd (2 :: s) = none) := by show _ = _; simp [recRd, hn]
    clear hn
    go_wp2_with (first
      | (refine wpList_bput (by rfl) _ _ 3 (by rfl) (w.heap.size + 1) 64 _ (by rfl) _ (.int .i64 _) (by rfl) hF (by kernel_rfl) (by simp) (by rfl) (by rfl) ?_; intro w9 hF9 hU9; replace hF := hF9; replace hR := hR.upd hU9 (by omega); replace hB2 := hU9.below hB2 (by omega); clear hF9 hU9; dsimp only [List.set] at hF)
      | (refine wpList_bput (by rfl) _ _ 9 (by rfl) (w.heap.size + 1) 64 _ (by rfl) _ (.string _) (by rfl) hF (by kernel_rfl) (by simp) (by rfl) (by rfl) ?_; intro w9 hF9 hU9; replace hF := hF9; replace hR := hR.upd hU9 (by omega); replace hB2 := hU9.below hB2 (by omega); clear hF9 hU9; dsimp only [List.set] at hF)
      | (refine wpList_bput (by rfl) _ _ 4 (by rfl) (w.heap.size + 1) 64 _ (by rfl) _ (.bool _) (by rfl) hF (by kernel_rfl) (by simp) (by rfl) (by rfl) ?_; intro w9 hF9 hU9; replace hF := hF9; replace hR := hR.upd hU9 (by omega); replace hB2 := hU9.below hB2 (by omega); clear hF9 hU9; dsimp only [List.set] at hF)
      | (refine wpList_bload (by rfl) _ _ (by rfl) (w.heap.size + 1) 64 (by rfl) _ hF _ Try.underlying64 (by rfl) 9 (by rfl) (by kernel_rfl) ?_)
      | (refine wpList_bstore (by rfl) _ _ _ (by rfl) w.heap.size 64 (by rfl) _ _ (by rfl) hR 9 (by rfl) (by kernel_rfl) (by rfl) (by intro x hx; simp at hx; rcases hx with rfl | rfl | rfl | rfl | rfl | rfl | rfl | rfl | rfl <;> rfl) ?_; intro w9 hR9 hU9; replace hR := hR9; replace hF := hF.upd hU9 (by omega); replace hB2 := hU9.below hB2 (by omega); clear hR9 hU9)
      | (refine wpList_bget (by rfl) 3 _ (by rfl) (w.heap.size + 1) 64 _ (by rfl) _ hF _ (by rfl) _ Try.underlying3 (by rfl) ?_))
    exact bodyPost_ret (v := .tuple #[fdV (fdK 2), .bool false]) (results_box2 (by rfl) _ _ w.heap.size 64 _ _ _ (by rfl) hR (by rfl) Try.underlying64 (by rfl) 9 (by rfl) (by kernel_rfl)) rfl ⟨⟨_, false, rfl, HN.out⟩, hB2⟩
  | some p =>
    obtain ⟨l, r⟩ := p
    rw [hn] at hA
    obtain ⟨ad, cap, rfl, hv⟩ := hA
    replace hv := hv.mono (show w.heap.size + 2 ≤ _ from Nat.le_of_eq hW.symm)
    have hl := (numsRd_length 3 s hn).1
    have hrl := (numsRd_length 3 s hn).2
    have hvl := hv.length
    obtain ⟨g, sp, rfl, hg, hgl, hL⟩ := hv.bx (by omega)
    clear hv hvl
    obtain ⟨q, u, d, rfl⟩ : ∃ q u d, l = [q, u, d] := by match l, hl with | [q, u, d], _ => exact ⟨q, u, d, rfl⟩
    cases r with
    | nil =>
      have hre : (str []).toList.isEmpty = true := by rw [str_toList]; rfl
      have HN : Hid (recRd (2 :: s) = none) := by show _ = _; simp [recRd, hn]
      clear hn hl
      go_wp2_with (first
            | (refine wpList_bput (by rfl) _ _ 3 (by rfl) (w.heap.size + 1) 64 _ (by rfl) _ (.int .i64 _) (by rfl) hF (by kernel_rfl) (by simp) (by rfl) (by rfl) ?_; intro w9 hF9 hU9; replace hF := hF9; replace hR := hR.upd hU9 (by omega); replace hL := hL.upd hU9 (by omega); replace hB2 := hU9.below hB2 (by omega); clear hF9 hU9; dsimp only [List.set] at hF)
            | (refine wpList_bput (by rfl) _ _ 9 (by rfl) (w.heap.size + 1) 64 _ (by rfl) _ (.string _) (by rfl) hF (by kernel_rfl) (by simp) (by rfl) (by rfl) ?_; intro w9 hF9 hU9; replace hF := hF9; replace hR := hR.upd hU9 (by omega); replace hL := hL.upd hU9 (by omega); replace hB2 := hU9.below hB2 (by omega); clear hF9 hU9; dsimp only [List.set] at hF)
            | (refine wpList_bput (by rfl) _ _ 4 (by rfl) (w.heap.size + 1) 64 _ (by rfl) _ (.bool _) (by rfl) hF (by kernel_rfl) (by simp) (by rfl) (by rfl) ?_; intro w9 hF9 hU9; replace hF := hF9; replace hR := hR.upd hU9 (by omega); replace hL := hL.upd hU9 (by omega); replace hB2 := hU9.below hB2 (by omega); clear hF9 hU9; dsimp only [List.set] at hF)
            | (refine wpList_bload (by rfl) _ _ (by rfl) (w.heap.size + 1) 64 (by rfl) _ hF _ Try.underlying64 (by rfl) 9 (by rfl) (by kernel_rfl) ?_)
            | (refine wpList_bstore (by rfl) _ _ _ (by rfl) w.heap.size 64 (by rfl) _ _ (by rfl) hR 9 (by rfl) (by kernel_rfl) (by rfl) (by intro x hx; simp at hx; rcases hx with rfl | rfl | rfl | rfl | rfl | rfl | rfl | rfl | rfl <;> rfl) ?_; intro w9 hR9 hU9; replace hR := hR9; replace hF := hF.upd hU9 (by omega); replace hB2 := hU9.below hB2 (by omega); clear hR9 hU9)
            | (refine wpList_bget (by rfl) 3 _ (by rfl) (w.heap.size + 1) 64 _ (by rfl) _ hF _ (by rfl) _ Try.underlying3 (by rfl) ?_)
            | (refine wpList_bget (by rfl) 3 _ (by rfl) g 3 _ (by rfl) _ hL _ (by rfl) _ Try.underlying3 (by rfl) ?_))
      exact bodyPost_ret (v := .tuple #[fdV (⟨0, 2, 0, 0, q, u, d, false, ⟨#[]⟩⟩), .bool false]) (results_box2 (by rfl) _ _ w.heap.size 64 _ _ _ (by rfl) hR (by rfl) Try.underlying64 (by rfl) 9 (by rfl) (by kernel_rfl)) rfl ⟨⟨_, false, rfl, HN.out⟩, hB2⟩

    | cons c t =>
      have hre : (str (c :: t)).toList.isEmpty = false := by rw [str_toList]; rfl
      have hr0 : 0 < (str (c :: t)).size := by rw [str_size]; simp
      have hrx : (str (c :: t)).extract 1 (str (c :: t)).size = str t := by rw [str_extract, str_size]; simp
      have hrl2 : (1 : Int) ≤ ((str (c :: t)).size : Int) := by omega
      by_cases hc : c.toNat ≤ 1
      · by_cases hc0 : c = 0
        · subst hc0
          have hk : ((str (0 :: t))[0]'hr0).toNat = 0 := rfl
          have HN : Hid (recRd (2 :: s) = some (fdCard ⟨q, u, d, false, str t⟩)) := by show _ = _; simp [recRd, hn]
          clear hn hl
          go_wp2_with (first
                | (refine wpList_bput (by rfl) _ _ 3 (by rfl) (w.heap.size + 1) 64 _ (by rfl) _ (.int .i64 _) (by rfl) hF (by kernel_rfl) (by simp) (by rfl) (by rfl) ?_; intro w9 hF9 hU9; replace hF := hF9; replace hR := hR.upd hU9 (by omega); replace hL := hL.upd hU9 (by omega); replace hB2 := hU9.below hB2 (by omega); clear hF9 hU9; dsimp only [List.set] at hF)
                | (refine wpList_bput (by rfl) _ _ 9 (by rfl) (w.heap.size + 1) 64 _ (by rfl) _ (.string _) (by rfl) hF (by kernel_rfl) (by simp) (by rfl) (by rfl) ?_; intro w9 hF9 hU9; replace hF := hF9; replace hR := hR.upd hU9 (by omega); replace hL := hL.upd hU9 (by omega); replace hB2 := hU9.below hB2 (by omega); clear hF9 hU9; dsimp only [List.set] at hF)
                | (refine wpList_bput (by rfl) _ _ 4 (by rfl) (w.heap.size + 1) 64 _ (by rfl) _ (.bool _) (by rfl) hF (by kernel_rfl) (by simp) (by rfl) (by rfl) ?_; intro w9 hF9 hU9; replace hF := hF9; replace hR := hR.upd hU9 (by omega); replace hL := hL.upd hU9 (by omega); replace hB2 := hU9.below hB2 (by omega); clear hF9 hU9; dsimp only [List.set] at hF)
                | (refine wpList_bload (by rfl) _ _ (by rfl) (w.heap.size + 1) 64 (by rfl) _ hF _ Try.underlying64 (by rfl) 9 (by rfl) (by kernel_rfl) ?_)
                | (refine wpList_bstore (by rfl) _ _ _ (by rfl) w.heap.size 64 (by rfl) _ _ (by rfl) hR 9 (by rfl) (by kernel_rfl) (by rfl) (by intro x hx; simp at hx; rcases hx with rfl | rfl | rfl | rfl | rfl | rfl | rfl | rfl | rfl <;> rfl) ?_; intro w9 hR9 hU9; replace hR := hR9; replace hF := hF.upd hU9 (by omega); replace hB2 := hU9.below hB2 (by omega); clear hR9 hU9)
                | (refine wpList_bget (by rfl) 3 _ (by rfl) (w.heap.size + 1) 64 _ (by rfl) _ hF _ (by rfl) _ Try.underlying3 (by rfl) ?_)
                | (refine wpList_bget (by rfl) 3 _ (by rfl) g 3 _ (by rfl) _ hL _ (by rfl) _ Try.underlying3 (by rfl) ?_))
          exact bodyPost_ret (v := .tuple #[fdV (fdCard ⟨q, u, d, false, str t⟩), .bool true]) (results_box2 (by rfl) _ _ w.heap.size 64 _ _ _ (by rfl) hR (by rfl) Try.underlying64 (by rfl) 9 (by rfl) (by kernel_rfl)) rfl ⟨⟨_, true, rfl, HN.out⟩, hB2⟩

        · have hc1 : c = 1 := by have : c.toNat ≠ 0 := fun h => hc0 (UInt8.toNat_inj.1 h); exact UInt8.toNat_inj.1 (by show c.toNat = 1; omega)
          subst hc1
          have hk : ((str (1 :: t))[0]'hr0).toNat = 1 := rfl
          have HN : Hid (recRd (2 :: s) = some (fdCard ⟨q, u, d, true, str t⟩)) := by show _ = _; simp [recRd, hn]
          clear hn hl
          go_wp2_with (first
                | (refine wpList_bput (by rfl) _ _ 3 (by rfl) (w.heap.size + 1) 64 _ (by rfl) _ (.int .i64 _) (by rfl) hF (by kernel_rfl) (by simp) (by rfl) (by rfl) ?_; intro w9 hF9 hU9; replace hF := hF9; replace hR := hR.upd hU9 (by omega); replace hL := hL.upd hU9 (by omega); replace hB2 := hU9.below hB2 (by omega); clear hF9 hU9; dsimp only [List.set] at hF)
                | (refine wpList_bput (by rfl) _ _ 9 (by rfl) (w.heap.size + 1) 64 _ (by rfl) _ (.string _) (by rfl) hF (by kernel_rfl) (by simp) (by rfl) (by rfl) ?_; intro w9 hF9 hU9; replace hF := hF9; replace hR := hR.upd hU9 (by omega); replace hL := hL.upd hU9 (by omega); replace hB2 := hU9.below hB2 (by omega); clear hF9 hU9; dsimp only [List.set] at hF)
                | (refine wpList_bput (by rfl) _ _ 4 (by rfl) (w.heap.size + 1) 64 _ (by rfl) _ (.bool _) (by rfl) hF (by kernel_rfl) (by simp) (by rfl) (by rfl) ?_; intro w9 hF9 hU9; replace hF := hF9; replace hR := hR.upd hU9 (by omega); replace hL := hL.upd hU9 (by omega); replace hB2 := hU9.below hB2 (by omega); clear hF9 hU9; dsimp only [List.set] at hF)
                | (refine wpList_bload (by rfl) _ _ (by rfl) (w.heap.size + 1) 64 (by rfl) _ hF _ Try.underlying64 (by rfl) 9 (by rfl) (by kernel_rfl) ?_)
                | (refine wpList_bstore (by rfl) _ _ _ (by rfl) w.heap.size 64 (by rfl) _ _ (by rfl) hR 9 (by rfl) (by kernel_rfl) (by rfl) (by intro x hx; simp at hx; rcases hx with rfl | rfl | rfl | rfl | rfl | rfl | rfl | rfl | rfl <;> rfl) ?_; intro w9 hR9 hU9; replace hR := hR9; replace hF := hF.upd hU9 (by omega); replace hB2 := hU9.below hB2 (by omega); clear hR9 hU9)
                | (refine wpList_bget (by rfl) 3 _ (by rfl) (w.heap.size + 1) 64 _ (by rfl) _ hF _ (by rfl) _ Try.underlying3 (by rfl) ?_)
                | (refine wpList_bget (by rfl) 3 _ (by rfl) g 3 _ (by rfl) _ hL _ (by rfl) _ Try.underlying3 (by rfl) ?_))
          exact bodyPost_ret (v := .tuple #[fdV (fdCard ⟨q, u, d, true, str t⟩), .bool true]) (results_box2 (by rfl) _ _ w.heap.size 64 _ _ _ (by rfl) hR (by rfl) Try.underlying64 (by rfl) 9 (by rfl) (by kernel_rfl)) rfl ⟨⟨_, true, rfl, HN.out⟩, hB2⟩

      · have hk : 1 < ((str (c :: t))[0]'hr0).toNat := by have e : ((str (c :: t))[0]'hr0).toNat = c.toNat := rfl; omega
        have HN : Hid (recRd (2 :: s) = none) := by show _ = _; simp only [recRd, hn]; simp [hc]
        clear hn hl
        go_wp2_with (first
              | (refine wpList_bput (by rfl) _ _ 3 (by rfl) (w.heap.size + 1) 64 _ (by rfl) _ (.int .i64 _) (by rfl) hF (by kernel_rfl) (by simp) (by rfl) (by rfl) ?_; intro w9 hF9 hU9; replace hF := hF9; replace hR := hR.upd hU9 (by omega); replace hL := hL.upd hU9 (by omega); replace hB2 := hU9.below hB2 (by omega); clear hF9 hU9; dsimp only [List.set] at hF)
              | (refine wpList_bput (by rfl) _ _ 9 (by rfl) (w.heap.size + 1) 64 _ (by rfl) _ (.string _) (by rfl) hF (by kernel_rfl) (by simp) (by rfl) (by rfl) ?_; intro w9 hF9 hU9; replace hF := hF9; replace hR := hR.upd hU9 (by omega); replace hL := hL.upd hU9 (by omega); replace hB2 := hU9.below hB2 (by omega); clear hF9 hU9; dsimp only [List.set] at hF)
              | (refine wpList_bput (by rfl) _ _ 4 (by rfl) (w.heap.size + 1) 64 _ (by rfl) _ (.bool _) (by rfl) hF (by kernel_rfl) (by simp) (by rfl) (by rfl) ?_; intro w9 hF9 hU9; replace hF := hF9; replace hR := hR.upd hU9 (by omega); replace hL := hL.upd hU9 (by omega); replace hB2 := hU9.below hB2 (by omega); clear hF9 hU9; dsimp only [List.set] at hF)
              | (refine wpList_bload (by rfl) _ _ (by rfl) (w.heap.size + 1) 64 (by rfl) _ hF _ Try.underlying64 (by rfl) 9 (by rfl) (by kernel_rfl) ?_)
              | (refine wpList_bstore (by rfl) _ _ _ (by rfl) w.heap.size 64 (by rfl) _ _ (by rfl) hR 9 (by rfl) (by kernel_rfl) (by rfl) (by intro x hx; simp at hx; rcases hx with rfl | rfl | rfl | rfl | rfl | rfl | rfl | rfl | rfl <;> rfl) ?_; intro w9 hR9 hU9; replace hR := hR9; replace hF := hF.upd hU9 (by omega); replace hB2 := hU9.below hB2 (by omega); clear hR9 hU9)
              | (refine wpList_bget (by rfl) 3 _ (by rfl) (w.heap.size + 1) 64 _ (by rfl) _ hF _ (by rfl) _ Try.underlying3 (by rfl) ?_)
              | (refine wpList_bget (by rfl) 3 _ (by rfl) g 3 _ (by rfl) _ hL _ (by rfl) _ Try.underlying3 (by rfl) ?_))
        exact bodyPost_ret (v := .tuple #[fdV (⟨0, 2, 0, 0, q, u, d, false, ⟨#[]⟩⟩), .bool false]) (results_box2 (by rfl) _ _ w.heap.size 64 _ _ _ (by rfl) hR (by rfl) Try.underlying64 (by rfl) 9 (by rfl) (by kernel_rfl)) rfl ⟨⟨_, false, rfl, HN.out⟩, hB2⟩

end Go.Proofs.Ytdjpkgaicmklmaa

/- Records read back: the reference's record, walked (the rest). -/
namespace Go.Proofs.Ytdjpkgaicmklmaa
open Go.RowKit

set_option maxRecDepth 100000 in
set_option maxHeartbeats 4000000 in
theorem rec_nil (w : World) : Calls Try.prog 131 #[.string (str [])] w fun e w' => RecAns [] e ∧ Below w.heap.size w w' := by
  have hne : (str []).toList.isEmpty = true := by rw [str_toList]; rfl
  obtain ⟨hR, hF, hW, hB⟩ := two_boxes w 64 64 fd0.cells.toArray fd0.cells.toArray
  go_enter Try.func131, Try.ntmps131
  go_wp2_with (first
      | (refine wpList_bput (by rfl) _ _ 3 (by rfl) (w.heap.size + 1) 64 _ (by rfl) _ (.int .i64 _) (by rfl) hF (by kernel_rfl) (by simp) (by rfl) (by rfl) ?_; intro w9 hF9 hU9; replace hF := hF9; replace hR := hR.upd hU9 (by omega); replace hB := hU9.below hB (by omega); clear hF9 hU9; dsimp only [List.set] at hF)
      | (refine wpList_bput (by rfl) _ _ 9 (by rfl) (w.heap.size + 1) 64 _ (by rfl) _ (.string _) (by rfl) hF (by kernel_rfl) (by simp) (by rfl) (by rfl) ?_; intro w9 hF9 hU9; replace hF := hF9; replace hR := hR.upd hU9 (by omega); replace hB := hU9.below hB (by omega); clear hF9 hU9; dsimp only [List.set] at hF)
      | (refine wpList_bput (by rfl) _ _ 4 (by rfl) (w.heap.size + 1) 64 _ (by rfl) _ (.bool _) (by rfl) hF (by kernel_rfl) (by simp) (by rfl) (by rfl) ?_; intro w9 hF9 hU9; replace hF := hF9; replace hR := hR.upd hU9 (by omega); replace hB := hU9.below hB (by omega); clear hF9 hU9; dsimp only [List.set] at hF)
      | (refine wpList_bload (by rfl) _ _ (by rfl) (w.heap.size + 1) 64 (by rfl) _ hF _ Try.underlying64 (by rfl) 9 (by rfl) (by kernel_rfl) ?_)
      | (refine wpList_bstore (by rfl) _ _ _ (by rfl) w.heap.size 64 (by rfl) _ _ (by rfl) hR 9 (by rfl) (by kernel_rfl) (by rfl) (by intro x hx; simp at hx; rcases hx with rfl | rfl | rfl | rfl | rfl | rfl | rfl | rfl | rfl <;> rfl) ?_; intro w9 hR9 hU9; replace hR := hR9; replace hF := hF.upd hU9 (by omega); replace hB := hU9.below hB (by omega); clear hR9 hU9)
      | (refine wpList_bget (by rfl) 3 _ (by rfl) (w.heap.size + 1) 64 _ (by rfl) _ hF _ (by rfl) _ Try.underlying3 (by rfl) ?_))
  exact bodyPost_ret (v := .tuple #[fdV (fd0), .bool false]) (results_box2 (by rfl) _ _ w.heap.size 64 _ _ _ (by rfl) hR (by rfl) Try.underlying64 (by rfl) 9 (by rfl) (by kernel_rfl)) rfl ⟨⟨_, false, rfl, rfl⟩, hB⟩

set_option maxRecDepth 100000 in
set_option maxHeartbeats 4000000 in
theorem rec_none (c : UInt8) (s : List UInt8) (w : World) (h1 : c ≠ 1) (h2 : c ≠ 2) (h3 : c ≠ 3) (h4 : c ≠ 4) (_hs : s.length ≤ 9223372036854775806) :
    Calls Try.prog 131 #[.string (str (c :: s))] w fun e w' => RecAns (c :: s) e ∧ Below w.heap.size w w' := by
  have h0 : 0 < (str (c :: s)).size := by rw [str_size]; simp
  have hx : (str (c :: s)).extract 1 (str (c :: s)).size = str s := by rw [str_extract, str_size]; simp
  have hne : (str (c :: s)).toList.isEmpty = false := by rw [str_toList]; rfl
  have hcl := c.toNat_lt
  have hk : wrap64 (((str (c :: s))[0]'h0).toNat : Int) = (c.toNat : Int) := by
    have e : ((str (c :: s))[0]'h0).toNat = c.toNat := rfl
    rw [e]; unfold wrap64; omega
  have ne (n : Nat) (d : UInt8) (hd : d.toNat = n) (h : c ≠ d) : ((c.toNat : Int) == (n : Int)) = false := by
    rw [beq_eq_false_iff_ne]; intro e; exact h (UInt8.toNat_inj.1 (by omega))
  have n1 : ((c.toNat : Int) == 1) = false := ne 1 1 rfl h1
  have n2 : ((c.toNat : Int) == 2) = false := ne 2 2 rfl h2
  have n3 : ((c.toNat : Int) == 3) = false := ne 3 3 rfl h3
  have n4 : ((c.toNat : Int) == 4) = false := ne 4 4 rfl h4
  have hle : (1 : Int) ≤ ((str (c :: s)).size : Int) := by omega
  have HN : Hid (recRd (c :: s) = none) := by show _ = _; simp [recRd, h1, h2, h3, h4]
  obtain ⟨hR, hF, hW, hB⟩ := two_boxes w 64 64 fd0.cells.toArray #[.int .i64 0, .int .i64 (c.toNat : Int), .int .i64 0, .int .i64 0, .int .i64 0, .int .i64 0, .int .i64 0, .bool false, .string ⟨#[]⟩]
  clear h1 h2 h3 h4 ne
  go_enter Try.func131, Try.ntmps131
  go_wp2_with (first
      | (refine wpList_bput (by rfl) _ _ 3 (by rfl) (w.heap.size + 1) 64 _ (by rfl) _ (.int .i64 _) (by rfl) hF (by kernel_rfl) (by simp) (by rfl) (by rfl) ?_; intro w9 hF9 hU9; replace hF := hF9; replace hR := hR.upd hU9 (by omega); replace hB := hU9.below hB (by omega); clear hF9 hU9; dsimp only [List.set] at hF)
      | (refine wpList_bput (by rfl) _ _ 9 (by rfl) (w.heap.size + 1) 64 _ (by rfl) _ (.string _) (by rfl) hF (by kernel_rfl) (by simp) (by rfl) (by rfl) ?_; intro w9 hF9 hU9; replace hF := hF9; replace hR := hR.upd hU9 (by omega); replace hB := hU9.below hB (by omega); clear hF9 hU9; dsimp only [List.set] at hF)
      | (refine wpList_bput (by rfl) _ _ 4 (by rfl) (w.heap.size + 1) 64 _ (by rfl) _ (.bool _) (by rfl) hF (by kernel_rfl) (by simp) (by rfl) (by rfl) ?_; intro w9 hF9 hU9; replace hF := hF9; replace hR := hR.upd hU9 (by omega); replace hB := hU9.below hB (by omega); clear hF9 hU9; dsimp only [List.set] at hF)
      | (refine wpList_bload (by rfl) _ _ (by rfl) (w.heap.size + 1) 64 (by rfl) _ hF _ Try.underlying64 (by rfl) 9 (by rfl) (by kernel_rfl) ?_)
      | (refine wpList_bstore (by rfl) _ _ _ (by rfl) w.heap.size 64 (by rfl) _ _ (by rfl) hR 9 (by rfl) (by kernel_rfl) (by rfl) (by intro x hx; simp at hx; rcases hx with rfl | rfl | rfl | rfl | rfl | rfl | rfl | rfl | rfl <;> rfl) ?_; intro w9 hR9 hU9; replace hR := hR9; replace hF := hF.upd hU9 (by omega); replace hB := hU9.below hB (by omega); clear hR9 hU9)
      | (refine wpList_bget (by rfl) 3 _ (by rfl) (w.heap.size + 1) 64 _ (by rfl) _ hF _ (by rfl) _ Try.underlying3 (by rfl) ?_))
  exact bodyPost_ret (v := .tuple #[fdV (fdK c.toNat), .bool false]) (results_box2 (by rfl) _ _ w.heap.size 64 _ _ _ (by rfl) hR (by rfl) Try.underlying64 (by rfl) 9 (by rfl) (by kernel_rfl)) rfl ⟨⟨_, false, rfl, HN.out⟩, hB⟩

theorem rrecord_any (s : List UInt8) (w : World) (hs : s.length ≤ 9223372036854775806) :
    Calls Try.prog 131 #[.string (str s)] w fun e w' => RecAns s e ∧ Below w.heap.size w w' := by
  match s, hs with
  | [], _ => exact rec_nil w
  | c :: s, hs =>
    have hs' : s.length ≤ 9223372036854775806 := by simp at hs; omega
    by_cases h1 : c = 1
    · subst h1; exact rec_clock s w hs'
    · by_cases h2 : c = 2
      · subst h2; exact rec_card s w hs'
      · by_cases h3 : c = 3
        · subst h3; exact rec_edit s w hs'
        · by_cases h4 : c = 4
          · subst h4; exact rec_head s w hs'
          · exact rec_none c s w h1 h2 h3 h4 hs'
end Go.Proofs.Ytdjpkgaicmklmaa

/- Frames read back: the reference's stands, walked. -/
namespace Go.Proofs.Ytdjpkgaicmklmaa
open Go.RowKit

/-- The frame with which bytes begin: its record, and how many bytes it has. -/
def standRd : List UInt8 → Option (Fd × Nat)
  | x :: y :: k :: t => if x = 245 ∧ y = 95 then
      if k.toNat = 0 ∨ t.length < k.toNat + 4 then none
      else if fourI (crc pSum (k :: t.take k.toNat)) = (t.drop k.toNat).take 4 then (recRd (t.take k.toNat)).map fun f => (f, k.toNat + 7) else none
    else none
  | _ => none
def Fd.putI (f : Fd) (a : Int) : Fd := { f with at_ := a }
/-- What stands answers at a place. -/
def standV (a : Int) (x : Option (Fd × Nat)) : Value := match x with
  | some (f, n) => .tuple #[fdV (f.putI a), .int .i64 (n : Nat)]
  | none => .tuple #[fdV fd0, .int .i64 0]


theorem standRd_short (s : List UInt8) (h : s.length < 8) : standRd s = none := by
  match s, h with
  | [], _ | [_], _ | [_, _], _ => rfl
  | x :: y :: k :: t, h =>
    simp only [standRd]
    split
    · split
      · rfl
      · rename_i h2; simp at h; omega
    · rfl

set_option maxRecDepth 100000 in
set_option maxHeartbeats 4000000 in
theorem rstands_any (b : List UInt8) (i : Nat) (w : World) (hb : b.length ≤ 1099511627776) (hi : i ≤ b.length) :
    Calls Try.prog 89 #[.string (str b), .int .i64 i] w fun e w' => e = .returned (standV i (standRd (b.drop i))) ∧ Below w.heap.size w w' := by
  have hz := str_size b
  have HZ : Hid ((str b).size = b.length) := hz
  obtain ⟨hR, hW, hB⟩ := one_box w 64 fd0.cells.toArray
  have hib : i ≤ (str b).size := by omega
  have hbb : (str b).size ≤ 1099511627776 := by omega
  by_cases h8 : (str b).size < i + 8
  · have HN : Hid (standRd (b.drop i) = none) := standRd_short _ (by simp; omega)
    clear hz
    go_enter Try.func89, Try.ntmps89
    go_wp2_with fail
    exact bodyPost_ret (v := .tuple #[fdV fd0, .int .i64 0]) (results_box2 (by rfl) _ _ w.heap.size 64 _ _ _ (by rfl) hR (by rfl) Try.underlying64 (by rfl) 9 (by rfl) (by kernel_rfl)) rfl ⟨by rw [HN.out]; rfl, hB⟩
  · obtain ⟨x, y, k, t, hd, ht⟩ : ∃ x y k t, b.drop i = x :: y :: k :: t ∧ t.length + 3 + i = b.length := by
      have hl : (b.drop i).length = b.length - i := by simp
      match hh : b.drop i with
      | [] | [_] | [_, _] => rw [hh] at hl; simp at hl; omega
      | x :: y :: k :: t => exact ⟨x, y, k, t, rfl, by rw [hh] at hl; simp at hl; omega⟩
    have l0 : i < (str b).size := by omega
    have l1 : i + 1 < (str b).size := by omega
    have l2 : i + 2 < (str b).size := by omega
    have at_ (j : Nat) (h : i + j < (str b).size) (v : UInt8) (hv : (b.drop i)[j]? = some v) : ((str b)[i + j]'h) = v := by
      rw [List.getElem?_drop] at hv
      exact (List.getElem?_eq_some_iff.1 hv).2
    have ex : ((str b)[i]'l0) = x := at_ 0 l0 x (by rw [hd]; rfl)
    have ey : ((str b)[i + 1]'l1) = y := at_ 1 l1 y (by rw [hd]; rfl)
    have ek : ((str b)[i + 2]'l2) = k := at_ 2 l2 k (by rw [hd]; rfl)
    clear at_
    rw [hd]
    by_cases hx : x = 245
    · by_cases hy : y = 95
      · subst hx hy
        have hx' : ((str b)[i]'l0).toNat = 245 := by rw [ex]; rfl
        have hy' : ((str b)[i + 1]'l1).toNat = 95 := by rw [ey]; rfl
        have hkl := k.toNat_lt
        have hk' : wrap64 (((str b)[i + 2]'l2).toNat : Int) = (k.toNat : Int) := by rw [ek]; unfold wrap64; omega
        clear ex ey ek
        by_cases hk0 : k.toNat = 0
        · have hk0' : ((k.toNat : Int) == 0) = true := by simp [hk0]
          have HN : Hid (standRd (245 :: 95 :: k :: t) = none) := by show _ = _; simp [standRd, hk0]
          clear hz hd
          go_enter Try.func89, Try.ntmps89
          go_wp2_with fail
          exact bodyPost_ret (v := .tuple #[fdV fd0, .int .i64 0]) (results_box2 (by rfl) _ _ w.heap.size 64 _ _ _ (by rfl) hR (by rfl) Try.underlying64 (by rfl) 9 (by rfl) (by kernel_rfl)) rfl ⟨by rw [HN.out]; rfl, hB⟩
        · have hk0' : ((k.toNat : Int) == 0) = false := by simp; omega
          by_cases hn : (str b).size < i + k.toNat + 7
          · have HN : Hid (standRd (245 :: 95 :: k :: t) = none) := by show _ = _; simp only [standRd]; simp [show t.length < k.toNat + 4 by omega]
            clear hz hd
            go_enter Try.func89, Try.ntmps89
            go_wp2_with fail
            exact bodyPost_ret (v := .tuple #[fdV fd0, .int .i64 0]) (results_box2 (by rfl) _ _ w.heap.size 64 _ _ _ (by rfl) hR (by rfl) Try.underlying64 (by rfl) 9 (by rfl) (by kernel_rfl)) rfl ⟨by rw [HN.out]; rfl, hB⟩
          · have hdt (j : Nat) : b.drop (i + (j + 3)) = t.drop j := by rw [← List.drop_drop, hd]; rfl
            have x1 : (str b).extract (i + 3) (i + 3 + k.toNat) = str (t.take k.toNat) := by rw [str_extract, hdt 0]; simp
            have x2 : (str b).extract (i + 2) (i + 3 + k.toNat) = str (k :: t.take k.toNat) := by
              rw [str_extract, ← List.drop_drop, hd, show i + 3 + k.toNat - (i + 2) = k.toNat + 1 by omega]; rfl
            have x3 : (str b).extract (i + 3 + k.toNat) (i + 7 + k.toNat) = str ((t.drop k.toNat).take 4) := by
              rw [str_extract, show i + 3 + k.toNat = i + (k.toNat + 3) by omega, hdt, show i + 7 + k.toNat - (i + (k.toNat + 3)) = 4 by omega]
            have hlt : (k :: t.take k.toNat).length ≤ 8796093022208 := by simp; omega
            have hlr : (t.take k.toNat).length ≤ 9223372036854775806 := by simp; omega
            have hfl : ¬ (k.toNat = 0 ∨ t.length < k.toNat + 4) := by omega
            clear hz hd hdt
            go_enter Try.func89, Try.ntmps89
            go_wp2_with fail
            refine (rsum_any (k :: t.take k.toNat) _ hlt).mono ?_
            rintro e w1 ⟨rfl, hb1⟩
            replace hR := hR.below hb1 hR.lt
            replace hB := hB.trans (hb1.mono (Nat.le_of_lt hR.lt |> fun _ => Nat.le_trans (Nat.le_succ _) (Nat.le_of_eq hW.symm)))
            have hc := crc_lt (p := pSum) (by decide) (k :: t.take k.toNat)
            go_wp2_with fail
            refine (rfour_any _ _ (by omega) (by omega)).mono ?_
            rintro e w2 ⟨rfl, hb2⟩
            replace hR := hR.below hb2 hR.lt
            replace hB := hB.trans (hb2.mono (Nat.le_trans (Nat.le_refl _) hB.size))
            clear hb1 hb2
            by_cases hq : fourI (crc pSum (k :: t.take k.toNat)) = (t.drop k.toNat).take 4
            · have hqb : ((str (fourI (crc pSum (k :: t.take k.toNat)))).toList != (str ((t.drop k.toNat).take 4)).toList) = false := by rw [bne, str_beq, hq]; simp
              go_wp2_with fail
              refine (rrecord_any (t.take k.toNat) _ hlr).mono ?_
              rintro e w3 ⟨⟨f, o, rfl, hf⟩, hb3⟩
              replace hR := hR.below hb3 hR.lt
              replace hB := hB.trans (hb3.mono hB.size)
              cases o with
              | false =>
                have HN : Hid (standRd (245 :: 95 :: k :: t) = none) := by
                  show _ = _; simp only [standRd, if_neg hfl, if_pos hq]; rw [hf]; rfl
                clear hf hb3
                go_wp2_with (first
                  | (refine wpList_bstore (by rfl) _ _ _ (by rfl) w.heap.size 64 (by rfl) _ _ (by rfl) hR 9 (by rfl) (by kernel_rfl) (by rfl) (by intro x hx; simp at hx; rcases hx with rfl | rfl | rfl | rfl | rfl | rfl | rfl | rfl | rfl <;> rfl) ?_; intro w9 hR9 hU9; replace hR := hR9; replace hB := hU9.below hB (Nat.le_refl _); clear hR9 hU9)
                  | (refine wpList_bstore (by rfl) _ _ _ (by rfl) w.heap.size 64 (by rfl) _ _ (by rfl) (hR.alloc _) 9 (by rfl) (by kernel_rfl) (by rfl) (by intro x hx; simp at hx; rcases hx with rfl | rfl | rfl | rfl | rfl | rfl | rfl | rfl | rfl <;> rfl) ?_; intro w9 hR9 hU9; replace hR := hR9; replace hB := hU9.below (hB.alloc hB.size _) (Nat.le_refl _); clear hR9 hU9))
                exact bodyPost_ret (v := .tuple #[fdV fd0, .int .i64 0]) (results_box2 (by rfl) _ _ w.heap.size 64 _ _ _ (by rfl) hR (by rfl) Try.underlying64 (by rfl) 9 (by rfl) (by kernel_rfl)) rfl ⟨by rw [HN.out]; rfl, hB⟩
              | true =>
                have HN : Hid (standRd (245 :: 95 :: k :: t) = some (f, k.toNat + 7)) := by
                  show _ = _; simp only [standRd, if_neg hfl, if_pos hq]; rw [hf]; rfl
                clear hf hb3
                go_wp2_with (first
                  | (refine wpList_bstore (by rfl) _ _ _ (by rfl) w.heap.size 64 (by rfl) _ _ (by rfl) hR 9 (by rfl) (by kernel_rfl) (by rfl) (by intro x hx; simp at hx; rcases hx with rfl | rfl | rfl | rfl | rfl | rfl | rfl | rfl | rfl <;> rfl) ?_; intro w9 hR9 hU9; replace hR := hR9; replace hB := hU9.below hB (Nat.le_refl _); clear hR9 hU9)
                  | (refine wpList_bstore (by rfl) _ _ _ (by rfl) w.heap.size 64 (by rfl) _ _ (by rfl) (hR.alloc _) 9 (by rfl) (by kernel_rfl) (by rfl) (by intro x hx; simp at hx; rcases hx with rfl | rfl | rfl | rfl | rfl | rfl | rfl | rfl | rfl <;> rfl) ?_; intro w9 hR9 hU9; replace hR := hR9; replace hB := hU9.below (hB.alloc hB.size _) (Nat.le_refl _); clear hR9 hU9))
                exact bodyPost_ret (v := .tuple #[fdV (f.putI i), .int .i64 ((k.toNat + 7 : Nat) : Int)]) (results_box2 (by rfl) _ _ w.heap.size 64 _ _ _ (by rfl) hR (by rfl) Try.underlying64 (by rfl) 9 (by rfl) (by kernel_rfl)) rfl ⟨by rw [HN.out]; rfl, hB⟩
            · have hqb : ((str (fourI (crc pSum (k :: t.take k.toNat)))).toList != (str ((t.drop k.toNat).take 4)).toList) = true := by
                rw [bne, str_beq, Bool.not_eq_true', beq_eq_false_iff_ne]; exact hq
              have hqc : ((str (fourI (crc pSum (k :: t.take k.toNat)))).toList == (str ((t.drop k.toNat).take 4)).toList) = false := by
                rw [str_beq, beq_eq_false_iff_ne]; exact hq
              have HN : Hid (standRd (245 :: 95 :: k :: t) = none) := by
                show _ = _; simp only [standRd, if_neg hfl, if_neg hq]; rfl
              clear hq
              go_wp2_with (refine wpList_bstore (by rfl) _ _ _ (by rfl) w.heap.size 64 (by rfl) _ _ (by rfl) hR 9 (by rfl) (by kernel_rfl) (by rfl) (by intro x hx; simp at hx; rcases hx with rfl | rfl | rfl | rfl | rfl | rfl | rfl | rfl | rfl <;> rfl) ?_; intro w9 hR9 hU9; replace hR := hR9; replace hB := hU9.below hB (Nat.le_refl _); clear hR9 hU9)
              exact bodyPost_ret (v := .tuple #[fdV fd0, .int .i64 0]) (results_box2 (by rfl) _ _ w.heap.size 64 _ _ _ (by rfl) hR (by rfl) Try.underlying64 (by rfl) 9 (by rfl) (by kernel_rfl)) rfl ⟨by rw [HN.out]; rfl, hB⟩
      · have hx' : ((str b)[i]'l0).toNat = 245 := by rw [ex, hx]; rfl
        have hy' : ((((str b)[i + 1]'l1).toNat : Int) != 95) = true := by
          rw [bne_iff_ne, ey]; intro e; exact hy (UInt8.toNat_inj.1 (by show y.toNat = 95; omega))
        have HN : Hid (standRd (x :: y :: k :: t) = none) := by show _ = _; simp [standRd, hy]
        clear hz hd ex ey ek
        go_enter Try.func89, Try.ntmps89
        go_wp2_with fail
        exact bodyPost_ret (v := .tuple #[fdV fd0, .int .i64 0]) (results_box2 (by rfl) _ _ w.heap.size 64 _ _ _ (by rfl) hR (by rfl) Try.underlying64 (by rfl) 9 (by rfl) (by kernel_rfl)) rfl ⟨by rw [HN.out]; rfl, hB⟩
    · have hx' : ((((str b)[i]'l0).toNat : Int) != 245) = true := by
        rw [bne_iff_ne, ex]; intro e; exact hx (UInt8.toNat_inj.1 (by show x.toNat = 245; omega))
      have HN : Hid (standRd (x :: y :: k :: t) = none) := by show _ = _; simp [standRd, hx]
      clear hz hd ex ey ek
      go_enter Try.func89, Try.ntmps89
      go_wp2_with fail
      exact bodyPost_ret (v := .tuple #[fdV fd0, .int .i64 0]) (results_box2 (by rfl) _ _ w.heap.size 64 _ _ _ (by rfl) hR (by rfl) Try.underlying64 (by rfl) 9 (by rfl) (by kernel_rfl)) rfl ⟨by rw [HN.out]; rfl, hB⟩
end Go.Proofs.Ytdjpkgaicmklmaa

/- The program's FrameAt, walked. -/
namespace Go.Proofs.Ytdjpkgaicmklmaa
open Go.RowKit

set_option maxRecDepth 100000 in
set_option maxHeartbeats 4000000 in
theorem frameAt_any (b : List UInt8) (i : Nat) (w : World) (hb : b.length ≤ 1099511627776) (hi : i ≤ b.length) :
    Calls Try.prog 115 #[.string (str b), .int .i64 i] w fun e w' => e = .returned (standV i (standRd (b.drop i))) ∧ Below w.heap.size w w' := by
  have hz := str_size b
  have HZ : Hid ((str b).size = b.length) := hz
  obtain ⟨hR, hW, hB⟩ := one_box w 64 fd0.cells.toArray
  have hib : i ≤ (str b).size := by omega
  have hbb : (str b).size ≤ 1099511627776 := by omega
  by_cases h8 : (str b).size ≤ i + 2
  · have HN : Hid (standRd (b.drop i) = none) := standRd_short _ (by simp; omega)
    clear hz
    go_enter Try.func115, Try.ntmps115
    go_wp2_with fail
    exact bodyPost_ret (v := .tuple #[fdV fd0, .int .i64 0]) (results_box2 (by rfl) _ _ w.heap.size 64 _ _ _ (by rfl) hR (by rfl) Try.underlying64 (by rfl) 9 (by rfl) (by kernel_rfl)) rfl ⟨by rw [HN.out]; rfl, hB⟩
  · obtain ⟨x, y, k, t, hd, ht⟩ : ∃ x y k t, b.drop i = x :: y :: k :: t ∧ t.length + 3 + i = b.length := by
      have hl : (b.drop i).length = b.length - i := by simp
      match hh : b.drop i with
      | [] | [_] | [_, _] => rw [hh] at hl; simp at hl; omega
      | x :: y :: k :: t => exact ⟨x, y, k, t, rfl, by rw [hh] at hl; simp at hl; omega⟩
    have l2 : i + 2 < (str b).size := by omega
    have ek : ((str b)[i + 2]'l2) = k := by
      have hv : (b.drop i)[2]? = some k := by rw [hd]; rfl
      rw [List.getElem?_drop] at hv
      exact (List.getElem?_eq_some_iff.1 hv).2
    have x0 : (str b).extract i (i + 2) = str [x, y] := by rw [str_extract, hd, show i + 2 - i = 2 by omega]; rfl
    rw [hd]
    by_cases hxy : x = 245 ∧ y = 95
    · obtain ⟨hx, hy⟩ := hxy
      subst hx hy
      have hmk : ((str [245, 95]).toList == [245, 95]) = true := by rw [str_toList]; rfl
      have hkl := k.toNat_lt
      have hk' : wrap64 (((str b)[i + 2]'l2).toNat : Int) = (k.toNat : Int) := by rw [ek]; unfold wrap64; omega
      clear ek
      by_cases hn : (str b).size < i + k.toNat + 7
      · have HN : Hid (standRd (245 :: 95 :: k :: t) = none) := by show _ = _; simp only [standRd]; simp [show t.length < k.toNat + 4 by omega]
        clear hz hd
        go_enter Try.func115, Try.ntmps115
        go_wp2_with fail
        exact bodyPost_ret (v := .tuple #[fdV fd0, .int .i64 0]) (results_box2 (by rfl) _ _ w.heap.size 64 _ _ _ (by rfl) hR (by rfl) Try.underlying64 (by rfl) 9 (by rfl) (by kernel_rfl)) rfl ⟨by rw [HN.out]; rfl, hB⟩
      · have hdt (j : Nat) : b.drop (i + (j + 3)) = t.drop j := by rw [← List.drop_drop, hd]; rfl
        have x1 : (str b).extract (i + 2 + 1) (i + 2 + 1 + k.toNat) = str (t.take k.toNat) := by rw [str_extract, show i + 2 + 1 = i + (0 + 3) by omega, hdt 0]; simp
        have x2 : (str b).extract (i + 2) (i + 2 + 1 + k.toNat) = str (k :: t.take k.toNat) := by
          rw [str_extract, ← List.drop_drop, hd, show i + 2 + 1 + k.toNat - (i + 2) = k.toNat + 1 by omega]; rfl
        have x3 : (str b).extract (i + 2 + 1 + k.toNat) (i + 2 + 1 + k.toNat + 4) = str ((t.drop k.toNat).take 4) := by
          rw [str_extract, show i + 2 + 1 + k.toNat = i + (k.toNat + 3) by omega, hdt, show i + (k.toNat + 3) + 4 - (i + (k.toNat + 3)) = 4 by omega]
        have hlt : (k :: t.take k.toNat).length ≤ 9223372036854775807 := by simp; omega
        have hlr : (t.take k.toNat).length ≤ 9223372036854775806 := by simp; omega
        have hl4 : ((t.drop k.toNat).take 4).length = 4 := by simp; omega
        have hfl : ¬ t.length < k.toNat + 4 := by omega
        have HL : Hid (t.length + 3 + i = (str b).size) := by show _ = _; omega
        clear hz hd hdt
        go_enter Try.func115, Try.ntmps115
        go_wp2_with fail
        refine (foundIn_any (t.take k.toNat) _ hlr).mono ?_
        rintro e w1 ⟨rfl, hb1⟩
        replace hR := hR.below hb1 hR.lt
        replace hB := hB.trans (hb1.mono (Nat.le_trans (Nat.le_succ _) (Nat.le_of_eq hW.symm)))
        clear hb1
        cases hf : recRd (t.take k.toNat) with
        | none =>
          have HN : Hid (standRd (245 :: 95 :: k :: t) = none) := by
            show _ = _; simp only [standRd, hf]; simp
          clear hf
          simp only [foundV]
          go_wp2_with (first
            | (refine wpList_bstore (by rfl) _ _ _ (by rfl) w.heap.size 64 (by rfl) _ _ (by rfl) hR 9 (by rfl) (by kernel_rfl) (by rfl) (by intro x hx; simp at hx; rcases hx with rfl | rfl | rfl | rfl | rfl | rfl | rfl | rfl | rfl <;> rfl) ?_; intro w9 hR9 hU9; replace hR := hR9; replace hB := hU9.below hB (Nat.le_refl _); clear hR9 hU9)
            | (refine wpList_bstore (by rfl) _ _ _ (by rfl) w.heap.size 64 (by rfl) _ _ (by rfl) (hR.alloc _) 9 (by rfl) (by kernel_rfl) (by rfl) (by intro x hx; simp at hx; rcases hx with rfl | rfl | rfl | rfl | rfl | rfl | rfl | rfl | rfl <;> rfl) ?_; intro w9 hR9 hU9; replace hR := hR9; replace hB := hU9.below (hB.alloc hB.size _) (Nat.le_refl _); clear hR9 hU9))
          exact bodyPost_ret (v := .tuple #[fdV fd0, .int .i64 0]) (results_box2 (by rfl) _ _ w.heap.size 64 _ _ _ (by rfl) hR (by rfl) Try.underlying64 (by rfl) 9 (by rfl) (by kernel_rfl)) rfl ⟨by rw [HN.out]; rfl, hB⟩
        | some f =>
          have hk0 : k.toNat ≠ 0 := by
            intro h0
            rw [h0] at hf
            simp [recRd] at hf
          have hfl2 : ¬ (k.toNat = 0 ∨ t.length < k.toNat + 4) := by omega
          simp only [foundV]
          go_wp2_with fail
          refine (sum_any (k :: t.take k.toNat) _ hlt).mono ?_
          rintro e w2 ⟨rfl, hw2⟩
          subst hw2
          go_wp2_with fail
          refine (fromFour_any ((t.drop k.toNat).take 4) _ hl4).mono ?_
          rintro e w3 ⟨rfl, hw3⟩
          subst hw3
          have hc := crc_lt (p := pSum) (by decide) (k :: t.take k.toNat)
          have hiff := fourRd_iff hl4 (crc pSum (k :: t.take k.toNat)) (by omega) (by omega)
          by_cases hq : fourRd ((t.drop k.toNat).take 4) = (crc pSum (k :: t.take k.toNat) : Int)
          · have hqb : (fourRd ((t.drop k.toNat).take 4) != (crc pSum (k :: t.take k.toNat) : Int)) = false := by rw [hq]; simp
            have HN : Hid (standRd (245 :: 95 :: k :: t) = some (f, k.toNat + 7)) := by
              show _ = _; simp only [standRd, if_neg hfl2, if_pos (hiff.1 hq)]; rw [hf]; rfl
            clear hf hiff
            go_wp2_with (first
              | (refine wpList_bstore (by rfl) _ _ _ (by rfl) w.heap.size 64 (by rfl) _ _ (by rfl) hR 9 (by rfl) (by kernel_rfl) (by rfl) (by intro x hx; simp at hx; rcases hx with rfl | rfl | rfl | rfl | rfl | rfl | rfl | rfl | rfl <;> rfl) ?_; intro w9 hR9 hU9; replace hR := hR9; replace hB := hU9.below hB (Nat.le_refl _); clear hR9 hU9)
              | (refine wpList_bstore (by rfl) _ _ _ (by rfl) w.heap.size 64 (by rfl) _ _ (by rfl) (hR.alloc _) 9 (by rfl) (by kernel_rfl) (by rfl) (by intro x hx; simp at hx; rcases hx with rfl | rfl | rfl | rfl | rfl | rfl | rfl | rfl | rfl <;> rfl) ?_; intro w9 hR9 hU9; replace hR := hR9; replace hB := hU9.below (hB.alloc hB.size _) (Nat.le_refl _); clear hR9 hU9))
            exact bodyPost_ret (v := .tuple #[fdV (f.putI i), .int .i64 ((i : Int) + 2 + 1 + (k.toNat : Int) + 4 - (i : Int))]) (results_box2 (by rfl) _ _ w.heap.size 64 _ _ _ (by rfl) hR (by rfl) Try.underlying64 (by rfl) 9 (by rfl) (by kernel_rfl)) rfl ⟨by rw [HN.out]; simp only [standV]; rw [show ((i : Int) + 2 + 1 + (k.toNat : Int) + 4 - (i : Int)) = ((k.toNat + 7 : Nat) : Int) by omega], hB⟩
          · have hqb : (fourRd ((t.drop k.toNat).take 4) != (crc pSum (k :: t.take k.toNat) : Int)) = true := by rw [bne_iff_ne]; exact hq
            have HN : Hid (standRd (245 :: 95 :: k :: t) = none) := by
              show _ = _; simp only [standRd, if_neg hfl2, if_neg (fun h => hq (hiff.2 h))]; rfl
            clear hf hiff hq
            go_wp2_with (first
              | (refine wpList_bstore (by rfl) _ _ _ (by rfl) w.heap.size 64 (by rfl) _ _ (by rfl) hR 9 (by rfl) (by kernel_rfl) (by rfl) (by intro x hx; simp at hx; rcases hx with rfl | rfl | rfl | rfl | rfl | rfl | rfl | rfl | rfl <;> rfl) ?_; intro w9 hR9 hU9; replace hR := hR9; replace hB := hU9.below hB (Nat.le_refl _); clear hR9 hU9)
              | (refine wpList_bstore (by rfl) _ _ _ (by rfl) w.heap.size 64 (by rfl) _ _ (by rfl) (hR.alloc _) 9 (by rfl) (by kernel_rfl) (by rfl) (by intro x hx; simp at hx; rcases hx with rfl | rfl | rfl | rfl | rfl | rfl | rfl | rfl | rfl <;> rfl) ?_; intro w9 hR9 hU9; replace hR := hR9; replace hB := hU9.below (hB.alloc hB.size _) (Nat.le_refl _); clear hR9 hU9))
            exact bodyPost_ret (v := .tuple #[fdV fd0, .int .i64 0]) (results_box2 (by rfl) _ _ w.heap.size 64 _ _ _ (by rfl) hR (by rfl) Try.underlying64 (by rfl) 9 (by rfl) (by kernel_rfl)) rfl ⟨by rw [HN.out]; rfl, hB⟩
    · have hmk : ((str [x, y]).toList == [245, 95]) = false := by
        rw [str_toList, beq_eq_false_iff_ne]; simpa using hxy
      have HN : Hid (standRd (x :: y :: k :: t) = none) := by show _ = _; simp only [standRd, if_neg hxy]
      clear hz hd ek hxy
      go_enter Try.func115, Try.ntmps115
      go_wp2_with fail
      exact bodyPost_ret (v := .tuple #[fdV fd0, .int .i64 0]) (results_box2 (by rfl) _ _ w.heap.size 64 _ _ _ (by rfl) hR (by rfl) Try.underlying64 (by rfl) 9 (by rfl) (by kernel_rfl)) rfl ⟨by rw [HN.out]; rfl, hB⟩
end Go.Proofs.Ytdjpkgaicmklmaa

/- Salvage, of the reference and of the program, walked. -/
namespace Go.Proofs.Ytdjpkgaicmklmaa
open Go.RowKit

/-- What is found from a place on. -/
def salvF : Nat → Nat → List UInt8 → List Fd
  | 0, _, _ => []
  | k + 1, i, s => if s = [] then [] else match standRd s with
    | some (f, n) => f.putI i :: salvF k (i + n) (s.drop n)
    | none => salvF k (i + 1) (s.drop 1)
def salv (b : List UInt8) : List Fd := salvF b.length 0 b
theorem salvF_nil (k i : Nat) : salvF k i [] = [] := by cases k <;> rfl
theorem salvF_none {k i : Nat} {s : List UInt8} (hne : s ≠ []) (h : standRd s = none) : salvF (k + 1) i s = salvF k (i + 1) (s.drop 1) := by simp only [salvF, if_neg hne, h]
theorem salvF_some {k i : Nat} {s : List UInt8} {f : Fd} {n : Nat} (hne : s ≠ []) (h : standRd s = some (f, n)) : salvF (k + 1) i s = f.putI i :: salvF k (i + n) (s.drop n) := by simp only [salvF, if_neg hne, h]
theorem standRd_le {s : List UInt8} {f : Fd} {n : Nat} (h : standRd s = some (f, n)) : 7 < n ∧ n ≤ s.length := by
  match s, h with
  | x :: y :: k :: t, h =>
    simp only [standRd] at h
    split at h
    · split at h
      · cases h
      · split at h
        · cases hr : recRd (t.take k.toNat) with
          | none => rw [hr] at h; cases h
          | some g => rw [hr] at h; simp at h; obtain ⟨_, rfl⟩ := h; simp; omega
        · cases h
    · cases h
theorem onesF (f : Fd) : ∀ v, v ∈ f.cells → v.oneCell' = true := by intro v h; simp at h; rcases h with rfl | rfl | rfl | rfl | rfl | rfl | rfl | rfl | rfl <;> rfl

set_option maxRecDepth 100000 in
set_option maxHeartbeats 4000000 in
theorem rsalvage_any (b : List UInt8) (w : World) (hb : b.length ≤ 1099511627776) :
    Calls Try.prog 49 #[.string (str b)] w fun e w' => ∃ ad cap N, e = .returned (.slice ad N cap) ∧ N = (salv b).length ∧ Vec w' w.heap.size 64 9 ad N cap (fcells (salv b)) ∧ Below w.heap.size w w' := by
  have hz := str_size b
  have HZ : Hid ((str b).size = b.length) := hz
  have hbb : (str b).size ≤ 1099511627776 := by omega
  have HB : Hid (b.length ≤ 1099511627776) := hb
  clear hz hb
  go_enter Try.func49, Try.ntmps49
  go_wp2_with fail
  go_loopw [3, 4, 5, 6] (fun v u _ _ wr => ∃ (i : Nat) (ad : Option Addr) (cap N k : Nat) (l : List Fd), i ≤ (str b).size ∧ u = .int .i64 i ∧ v = .slice ad N cap ∧ N = l.length ∧ N ≤ i ∧ b.length - i ≤ k ∧ l ++ salvF k i (b.drop i) = salv b ∧ Vec wr w.heap.size 64 9 ad N cap (fcells l) ∧ Below w.heap.size w wr) (fun _ u _ _ _ => b.length - (intOf u).toNat)
  case atStart => exact ⟨0, _, _, 0, b.length, [], by omega, rfl, rfl, rfl, by omega, by omega, by simp [salv], Vec.nil _ _ _ _, Below.refl _ _⟩
  case round =>
    obtain ⟨i, ad, cap, N, k, l, hi, rfl, rfl, hN, hNi, hk, hl, hv, hbw⟩ := hrel
    have HN : Hid (N = l.length) := hN
    have HL : Hid (l ++ salvF k i (b.drop i) = salv b) := hl
    have HK : Hid (b.length - i ≤ k) := hk
    clear hN hl hk
    by_cases hlt : i < (str b).size
    · have hi2 : i ≤ b.length := by rw [← HZ.out]; omega
      go_wp2_with fail
      refine (rstands_any b i _ HB.out hi2).mono ?_
      rintro e w1 ⟨rfl, hb1⟩
      have hv1 := hv.keep hb1
      have hbw1 := hbw.trans (hb1.mono hbw.size)
      have hz1 := hbw1.size
      clear hv hbw hb1
      obtain ⟨k, rfl⟩ : ∃ k', k = k' + 1 := ⟨k - 1, by have := HK.out; have := HZ.out; omega⟩
      have hne : b.drop i ≠ [] := by
        intro h; have := congrArg List.length h; simp at this; have := HZ.out; omega
      cases hst : standRd (b.drop i) with
      | none =>
        have HS : Hid (l ++ salvF k (i + 1) (b.drop (i + 1)) = salv b) := by
          show _ = _; rw [← HL.out, salvF_none hne hst, List.drop_drop]
        simp only [standV]
        clear hst hne HL
        go_wp2_with fail
        go_roundw
        case rel => exact ⟨i + 1, ad, cap, N, k, l, by omega, by go_num, rfl, HN.out, by omega, by have := HK.out; omega, HS.out, hv1.keep ((Below.refl _ _).alloc (Nat.le_refl _) _), hbw1.alloc hz1 _⟩
        case measure => have := HZ.out; simp [intOf]; omega
      | some p =>
        obtain ⟨f, n⟩ := p
        have hn := standRd_le hst
        simp at hn
        have HS : Hid ((l ++ [f.putI i]) ++ salvF k (i + n) (b.drop (i + n)) = salv b) := by
          show _ = _; rw [← HL.out, salvF_some hne hst, List.drop_drop]; simp
        have hnl : i + n ≤ (str b).size := by have := HZ.out; omega
        have hn7 : 7 < n := by omega
        simp only [standV]
        clear hst hne HL hn
        have hn0 : 0 < n := by omega
        have hvx : ∀ o1 o2, Vec ((w1.alloc o1).alloc o2) w.heap.size 64 9 ad N cap (fcells l) := fun o1 o2 => hv1.keep (((Below.refl _ w1).alloc (Nat.le_refl _) _).alloc (by simp) _)
        have HX : Hid (∀ o1 o2, Vec ((w1.alloc o1).alloc o2) w.heap.size 64 9 ad N cap (fcells l)) := hvx
        clear hvx
        go_wp2_with (at_builtin; refine wpList_push (by rfl) _ _ 57 (by rfl) w.heap.size 64 9 80 (.agg #[.int .i64 0, .int .i64 0, .int .i64 0, .int .i64 0, .int .i64 0, .int .i64 0, .int .i64 0, .bool false, .string ⟨#[]⟩]) Try.underlying57 (by kernel_rfl) rfl (by decide) ad N cap _ (by rfl) (HX.out _ _) _ _ (f.putI i).cells (by rfl) rfl ?_ ?_ ?_ ?_ ?_ ?_; exact new_cells2 _ _ _ _; exact onesF _; (omega); (omega); (simp; omega); intro ad' cap' w' hv' hb' hs')
        have h2 : Below w.heap.size w w' := ((hbw1.alloc hz1 _).alloc (by simp; omega) _).trans hb'
        have hv2 : Vec w' w.heap.size 64 9 ad' (N + 1) cap' (fcells (l ++ [f.putI i])) := by
          rw [fcells_append, fcells_one]; exact hv'
        go_roundw
        case rel => exact ⟨i + n, ad', cap', N + 1, k, l ++ [f.putI i], by omega, by go_num, rfl, by have := HN.out; simp; omega, by omega, by have := HK.out; omega, HS.out, hv2, h2⟩
        case measure => have := HZ.out; simp [intOf]; omega
    · have he : b.drop i = [] := List.drop_of_length_le (by rw [← HZ.out]; omega)
      have HS : Hid (l = salv b) := by show _ = _; rw [← HL.out, he, salvF_nil]; simp
      go_wp2_with fail
      go_ret
      exact ⟨ad, cap, N, rfl, by rw [← HS.out]; exact HN.out, by rw [← HS.out]; exact hv, hbw⟩

set_option maxRecDepth 100000 in
set_option maxHeartbeats 4000000 in
theorem bsalvage_any (b : List UInt8) (w : World) (hb : b.length ≤ 1099511627776) :
    Calls Try.prog 73 #[.string (str b)] w fun e w' => ∃ ad cap N, e = .returned (.slice ad N cap) ∧ N = (salv b).length ∧ Vec w' w.heap.size 64 9 ad N cap (fcells (salv b)) ∧ Below w.heap.size w w' := by
  have hz := str_size b
  have HZ : Hid ((str b).size = b.length) := hz
  have hbb : (str b).size ≤ 1099511627776 := by omega
  have HB : Hid (b.length ≤ 1099511627776) := hb
  clear hz hb
  have hV0 : Hid (Vec (w.alloc (.cells #[] 64)) w.heap.size 64 9 (some ⟨w.heap.size, 0, none⟩) 0 0 (fcells [])) := Vec.lit w w.heap.size 64 9 0 [] (Nat.le_refl _) (by omega) rfl
  go_enter Try.func73, Try.ntmps73
  go_wp2_with fail
  go_loopw [3, 4, 5, 6] (fun v u _ _ wr => ∃ (i : Nat) (ad : Option Addr) (cap N k : Nat) (l : List Fd), i ≤ (str b).size ∧ u = .int .i64 i ∧ v = .slice ad N cap ∧ N = l.length ∧ N ≤ i ∧ b.length - i ≤ k ∧ l ++ salvF k i (b.drop i) = salv b ∧ Vec wr w.heap.size 64 9 ad N cap (fcells l) ∧ Below w.heap.size w wr) (fun _ u _ _ _ => b.length - (intOf u).toNat)
  case atStart => exact ⟨0, _, _, 0, b.length, [], by omega, rfl, rfl, rfl, by omega, by omega, by simp [salv], hV0.out, (Below.refl _ _).alloc (Nat.le_refl _) _⟩
  case round =>
    obtain ⟨i, ad, cap, N, k, l, hi, rfl, rfl, hN, hNi, hk, hl, hv, hbw⟩ := hrel
    have HN : Hid (N = l.length) := hN
    have HL : Hid (l ++ salvF k i (b.drop i) = salv b) := hl
    have HK : Hid (b.length - i ≤ k) := hk
    clear hN hl hk
    by_cases hlt : i < (str b).size
    · have hi2 : i ≤ b.length := by rw [← HZ.out]; omega
      go_wp2_with fail
      refine (frameAt_any b i _ HB.out hi2).mono ?_
      rintro e w1 ⟨rfl, hb1⟩
      have hv1 := hv.keep hb1
      have hbw1 := hbw.trans (hb1.mono hbw.size)
      have hz1 := hbw1.size
      clear hv hbw hb1
      obtain ⟨k, rfl⟩ : ∃ k', k = k' + 1 := ⟨k - 1, by have := HK.out; have := HZ.out; omega⟩
      have hne : b.drop i ≠ [] := by
        intro h; have := congrArg List.length h; simp at this; have := HZ.out; omega
      cases hst : standRd (b.drop i) with
      | none =>
        have HS : Hid (l ++ salvF k (i + 1) (b.drop (i + 1)) = salv b) := by
          show _ = _; rw [← HL.out, salvF_none hne hst, List.drop_drop]
        simp only [standV]
        clear hst hne HL
        go_wp2_with fail
        go_roundw
        case rel => exact ⟨i + 1, ad, cap, N, k, l, by omega, by go_num, rfl, HN.out, by omega, by have := HK.out; omega, HS.out, hv1.keep ((Below.refl _ _).alloc (Nat.le_refl _) _), hbw1.alloc hz1 _⟩
        case measure => have := HZ.out; simp [intOf]; omega
      | some p =>
        obtain ⟨f, n⟩ := p
        have hn := standRd_le hst
        simp at hn
        have HS : Hid ((l ++ [f.putI i]) ++ salvF k (i + n) (b.drop (i + n)) = salv b) := by
          show _ = _; rw [← HL.out, salvF_some hne hst, List.drop_drop]; simp
        have hnl : i + n ≤ (str b).size := by have := HZ.out; omega
        have hn7 : 7 < n := by omega
        simp only [standV]
        clear hst hne HL hn
        have hn0 : ((n : Int) == 0) = false := by rw [beq_eq_false_iff_ne]; omega
        have hvx : ∀ o1 o2, Vec ((w1.alloc o1).alloc o2) w.heap.size 64 9 ad N cap (fcells l) := fun o1 o2 => hv1.keep (((Below.refl _ w1).alloc (Nat.le_refl _) _).alloc (by simp) _)
        have HX : Hid (∀ o1 o2, Vec ((w1.alloc o1).alloc o2) w.heap.size 64 9 ad N cap (fcells l)) := hvx
        clear hvx
        go_wp2_with (at_builtin; refine wpList_push (by rfl) _ _ 57 (by rfl) w.heap.size 64 9 80 (.agg #[.int .i64 0, .int .i64 0, .int .i64 0, .int .i64 0, .int .i64 0, .int .i64 0, .int .i64 0, .bool false, .string ⟨#[]⟩]) Try.underlying57 (by kernel_rfl) rfl (by decide) ad N cap _ (by rfl) (HX.out _ _) _ _ (f.putI i).cells (by rfl) rfl ?_ ?_ ?_ ?_ ?_ ?_; exact new_cells2 _ _ _ _; exact onesF _; (omega); (omega); (simp; omega); intro ad' cap' w' hv' hb' hs')
        have h2 : Below w.heap.size w w' := ((hbw1.alloc hz1 _).alloc (by simp; omega) _).trans hb'
        have hv2 : Vec w' w.heap.size 64 9 ad' (N + 1) cap' (fcells (l ++ [f.putI i])) := by
          rw [fcells_append, fcells_one]; exact hv'
        go_roundw
        case rel => exact ⟨i + n, ad', cap', N + 1, k, l ++ [f.putI i], by omega, by go_num, rfl, by have := HN.out; simp; omega, by omega, by have := HK.out; omega, HS.out, hv2, h2⟩
        case measure => have := HZ.out; simp [intOf]; omega
    · have he : b.drop i = [] := List.drop_of_length_le (by rw [← HZ.out]; omega)
      have HS : Hid (l = salv b) := by show _ = _; rw [← HL.out, he, salvF_nil]; simp
      go_wp2_with fail
      go_ret
      exact ⟨ad, cap, N, rfl, by rw [← HS.out]; exact HN.out, by rw [← HS.out]; exact hv, hbw⟩

set_option maxRecDepth 100000 in
set_option maxHeartbeats 4000000 in
theorem psalvage_any (b : List UInt8) (w : World) (hb : b.length ≤ 1099511627776) :
    Calls Try.prog 34 #[.string (str b)] w fun e w' => ∃ ad cap N, e = .returned (.slice ad N cap) ∧ N = (salv b).length ∧ Vec w' w.heap.size 64 9 ad N cap (fcells (salv b)) ∧ Below w.heap.size w w' := by
  go_enter Try.func34, Try.ntmps34
  go_wp2_with fail
  refine (bsalvage_any b _ hb).mono ?_
  rintro e w' ⟨ad, cap, N, rfl, rfl, h⟩
  go_wp2_with fail
  go_ret
  exact ⟨ad, cap, _, rfl, rfl, h⟩
end Go.Proofs.Ytdjpkgaicmklmaa

/- What is written is read back: numbers, records, frames; what Salvage finds in a bundle that is cut. -/
namespace Go.Proofs.Ytdjpkgaicmklmaa
open Go.RowKit

theorem rdAcc_num_back (x : List UInt8) : ∀ (k K : Nat) (n : Int), 0 ≤ n → n < 128 ^ (k + 1) → k ≤ K → ∀ (j i : Nat) (v : Int), rdAcc (k + 1 + j) i v ((numI K n).map byt ++ x) = some (v + n * 128 ^ i, i + (numI K n).length)
  | 0, K, n, h0, h1, _, j, i, v => by
    have h1 : n < 128 := by simpa using h1
    have hb := byt_toNat n h0 (by omega)
    rw [numI_small K n h1, show 0 + 1 + j = j + 1 by omega]
    simp only [List.map_cons, List.map_nil, List.cons_append, List.nil_append, rdAcc, List.length_cons, List.length_nil]
    rw [if_pos (by omega), show (((byt n).toNat % 128 : Nat) : Int) = n by omega]
  | k + 1, 0, n, _, _, hk, _, _, _ => by omega
  | k + 1, K + 1, n, h0, h1, hk, j, i, v => by
    by_cases hn : n < 128
    · have hb := byt_toNat n h0 (by omega)
      rw [numI_small (K + 1) n hn, show k + 1 + 1 + j = (k + 1 + j) + 1 by omega]
      simp only [List.map_cons, List.map_nil, List.cons_append, List.nil_append, rdAcc, List.length_cons, List.length_nil]
      rw [if_pos (by omega), show (((byt n).toNat % 128 : Nat) : Int) = n by omega]
    · have hb := byt_toNat (n % 128 + 128) (by omega) (by omega)
      have e : numI (K + 1) n = (n % 128 + 128) :: numI K (n / 128) := by simp [numI, hn]
      rw [e, show k + 1 + 1 + j = (k + 1 + j) + 1 by omega]
      simp only [List.map_cons, List.cons_append, rdAcc]
      rw [if_neg (by omega), rdAcc_num_back x k K (n / 128) (by omega) (by rw [Int.pow_succ] at h1; omega) (by omega) j (i + 1)]
      have ev : (((byt (n % 128 + 128)).toNat % 128 : Nat) : Int) = n % 128 := by omega
      rw [ev, Int.pow_succ]
      have : v + n % 128 * 128 ^ i + n / 128 * (128 ^ i * 128) = v + n * 128 ^ i := by
        have h : n = n / 128 * 128 + n % 128 := by omega
        have e2 : n / 128 * (128 ^ i * 128) = n / 128 * 128 * 128 ^ i := by rw [Int.mul_comm (128 ^ i) 128, Int.mul_assoc]
        rw [e2]
        conv => rhs; rw [h]
        rw [Int.add_mul]; omega
      rw [this]
      simp; omega
theorem numRd_back {n : Int} (h : Num n) (x : List UInt8) : numRd (numB n ++ x) = some (n, (numB n).length) := by
  have e := rdAcc_num_back x 8 9 n h.1 (by have := h.2; omega) (by omega) 0 0 0
  have e2 : rdAcc 9 0 0 (numB n ++ x) = some (n, (numB n).length) := by
    unfold numB; rw [e]; simp
  unfold numRd
  rw [e2]
  simp only
  rw [if_pos]
  simp
theorem numsRd_back {n : Int} (h : Num n) (k : Nat) (x : List UInt8) : numsRd (k + 1) (numB n ++ x) = (numsRd k x).map fun p => (n :: p.1, p.2) := by
  simp only [numsRd, numRd_back h, List.drop_left]
  cases numsRd k x <;> rfl
/-- What is written is read. -/
theorem recRd_back {f : Fd} (h : FdOk f) (hs : f.seq = 0 → f.base = 0) : recRd (recF f) = some f := by
  rcases h with ⟨s, b, rfl, h1, h2, h3⟩ | ⟨c, rfl, h1, h2⟩ | ⟨c, rfl, h1, h2, h3, h4⟩ | ⟨c, rfl, h1, h2⟩
  · rw [recF_head, recHead, rec4, numsRd_back h1]
    simp only [numsRd, Option.map_some]
    by_cases hq : s = 0
    · have : b = 0 := hs hq
      subst hq this
      simp
    · simp only [if_neg hq]
      rw [if_pos (by simp [fourI]), fourRd_four b h2 (by omega)]
  · rw [recF_clock, recClock, rec1, numsRd_back h1]
    rw [show numB c.count = numB c.count ++ [] by simp, numsRd_back h2]
    simp [numsRd]
  · rw [recF_card, recCard, rec2, numsRd_back h1, numsRd_back h2, numsRd_back h3]
    simp only [numsRd, Option.map_some]
    obtain ⟨i, s, n, g, x⟩ := c
    cases g
    · simp [str_data]
    · simp [str_data]
  · rw [recF_edit, recEdit, rec3, numsRd_back h1]
    simp [numsRd, str_data]

theorem recF_pos (f : Fd) : 0 < (recF f).length := by
  unfold recF
  split
  · simp [recHead]
  · split
    · simp [recClock]
    · split
      · simp [recCard]
      · simp [recEdit]
theorem standRd_back {f : Fd} (h : FdOk f) (hs : f.seq = 0 → f.base = 0) (x : List UInt8) : standRd (frameB (recF f) ++ x) = some (f, lenF f) := by
  have hl := recF_length h
  have hp := recF_pos f
  have hk : (byt (recF f).length).toNat = (recF f).length := by have := byt_toNat (recF f).length (by omega) (by omega); omega
  simp only [frameB, List.cons_append, standRd]
  rw [if_pos (by simp), hk, if_neg (by simp only [List.length_append, fourI, List.length_cons]; omega)]
  have e1 : (recF f ++ fourI (crc pSum (byt (recF f).length :: recF f)) ++ x).take (recF f).length = recF f := by
    rw [List.append_assoc, List.take_left]
  have e2 : ((recF f ++ fourI (crc pSum (byt (recF f).length :: recF f)) ++ x).drop (recF f).length).take 4 = fourI (crc pSum (byt (recF f).length :: recF f)) := by
    rw [List.append_assoc, List.drop_left, List.take_append_of_le_length (by simp [fourI])]
    simp [fourI]
  rw [e1, e2, if_pos rfl, recRd_back h hs]
  rfl

abbrev framesB (l : List Fd) : List UInt8 := l.flatMap (fun f => frameB (recF f))
theorem framesB_length (l : List Fd) : (framesB l).length = lenL l := by
  induction l with
  | nil => rfl
  | cons f l ih => simp only [framesB, List.flatMap_cons, List.length_append, frameB_length, lenL, List.map_cons, List.sum_cons, lenF] at ih ⊢; rw [ih]
def Okay (l : List Fd) : Prop := ∀ f, f ∈ l → FdOk f ∧ (f.seq = 0 → f.base = 0)

/-- Of frames that are cut, those that are left whole are found where they stand. -/
theorem salvF_cut (tail : List UInt8) : ∀ (l : List Fd), Okay l → ∀ (j fuel p : Nat), ((framesB l ++ tail).take j).length ≤ fuel → ∀ i, i < l.length → lenL (l.take (i + 1)) ≤ j →
    (salvF fuel p ((framesB l ++ tail).take j))[i]? = (atL p l)[i]?
  | [], _, _, _, _, _, i, hi, _ => by simp at hi
  | f :: l, ho, j, fuel, p, hf, i, hi, hj => by
    have hw := ho f (by simp)
    have ho' : Okay l := fun g hg => ho g (by simp [hg])
    have hlf : lenF f ≤ j := by
      have : lenL ((f :: l).take (i + 1)) = lenF f + lenL (l.take i) := by simp [lenL]
      omega
    have e : (framesB (f :: l) ++ tail).take j = frameB (recF f) ++ (framesB l ++ tail).take (j - lenF f) := by
      have hlen : (frameB (recF f)).length = lenF f := frameB_length _
      rw [show framesB (f :: l) ++ tail = frameB (recF f) ++ (framesB l ++ tail) by simp [framesB]]
      rw [List.take_append, hlen, List.take_of_length_le (by omega)]
    rw [e] at hf ⊢
    have hlen : (frameB (recF f)).length = lenF f := frameB_length _
    obtain ⟨fuel, rfl⟩ : ∃ k, fuel = k + 1 := ⟨fuel - 1, by simp [hlen, lenF] at hf; omega⟩
    have hne : frameB (recF f) ++ (framesB l ++ tail).take (j - lenF f) ≠ [] := by simp [frameB]
    rw [salvF_some hne (standRd_back hw.1 hw.2 _)]
    have ed : (frameB (recF f) ++ (framesB l ++ tail).take (j - lenF f)).drop (lenF f) = (framesB l ++ tail).take (j - lenF f) := by rw [← hlen, List.drop_left]
    rw [ed]
    cases i with
    | zero => rfl
    | succ i =>
      simp only [List.getElem?_cons_succ, atL]
      refine salvF_cut tail l ho' (j - lenF f) fuel (p + lenF f) ?_ i (by simpa using hi) ?_
      · rw [List.length_append, hlen] at hf; simp [lenF] at hf ⊢; omega
      · have : lenL ((f :: l).take (i + 1 + 1)) = lenF f + lenL (l.take (i + 1)) := by simp [lenL]
        omega
theorem salvF_small : ∀ (fuel p : Nat) (s : List UInt8), s.length < 8 → salvF fuel p s = []
  | 0, _, _, _ => rfl
  | k + 1, p, s, h => by
    by_cases hs : s = []
    · subst hs; rfl
    · rw [salvF_none hs (standRd_short s h)]
      exact salvF_small k (p + 1) (s.drop 1) (by simp; omega)
/-- Of frames and a few bytes behind them these frames are found. -/
theorem salvF_whole (tail : List UInt8) (ht : tail.length < 8) : ∀ (l : List Fd), Okay l → ∀ (fuel p : Nat), (framesB l ++ tail).length ≤ fuel → salvF fuel p (framesB l ++ tail) = atL p l
  | [], _, fuel, p, _ => by simp only [framesB, List.flatMap_nil, List.nil_append, atL]; exact salvF_small _ _ _ ht
  | f :: l, ho, fuel, p, hf => by
    have hw := ho f (by simp)
    have ho' : Okay l := fun g hg => ho g (by simp [hg])
    have hlen : (frameB (recF f)).length = lenF f := frameB_length _
    have e : framesB (f :: l) ++ tail = frameB (recF f) ++ (framesB l ++ tail) := by simp [framesB]
    rw [e] at hf ⊢
    rw [List.length_append, hlen] at hf
    obtain ⟨fuel, rfl⟩ : ∃ k, fuel = k + 1 := ⟨fuel - 1, by simp [lenF] at hf; omega⟩
    rw [salvF_some (by simp [frameB]) (standRd_back hw.1 hw.2 _), ← hlen, List.drop_left, hlen, salvF_whole tail ht l ho' fuel (p + lenF f) (by simp [lenF] at hf ⊢; omega)]
    rfl

theorem standRd_first {c : UInt8} {s : List UInt8} (h : c ≠ 245) : standRd (c :: s) = none := by
  match s with
  | [] | [_] => rfl
  | y :: k :: t => simp only [standRd]; rw [if_neg (fun e => h e.1)]
theorem salvF_magic (s : List UInt8) : ∀ fuel, (80 :: 82 :: 67 :: 49 :: s).length ≤ fuel → ∃ k, s.length ≤ k ∧ salvF fuel 0 (80 :: 82 :: 67 :: 49 :: s) = salvF k 4 s := by
  intro fuel h
  obtain ⟨k, rfl⟩ : ∃ k, fuel = k + 1 + 1 + 1 + 1 := ⟨fuel - 4, by simp at h; omega⟩
  refine ⟨k, by simp at h; omega, ?_⟩
  rw [salvF_none (by simp) (standRd_first (by decide)), List.drop_one, List.tail_cons, salvF_none (by simp) (standRd_first (by decide)), List.drop_one, List.tail_cons,
    salvF_none (by simp) (standRd_first (by decide)), List.drop_one, List.tail_cons, salvF_none (by simp) (standRd_first (by decide)), List.drop_one, List.tail_cons]
/-- Of a bundle its records are found, and no others. -/
theorem salv_bundle (l : List Fd) (h : Okay l) : salv (bundleB l) = atL 4 l := by
  have e : bundleB l = 80 :: 82 :: 67 :: 49 :: (framesB l ++ fourI (crc pSeal (bodyB l))) := by simp [bundleB, bodyB, framesB]
  unfold salv
  rw [e]
  obtain ⟨k, hk, hs⟩ := salvF_magic (framesB l ++ fourI (crc pSeal (bodyB l))) _ (Nat.le_refl _)
  rw [hs]
  exact salvF_whole _ (by simp [fourI]) l h k 4 hk
/-- Of a bundle that is cut those that are left whole are found first. -/
theorem salv_cut (l : List Fd) (h : Okay l) (k i : Nat) (hi : i < l.length) (hk : 4 + lenL (l.take (i + 1)) ≤ k) : (salv ((bundleB l).take k))[i]? = (atL 4 l)[i]? := by
  have e : bundleB l = 80 :: 82 :: 67 :: 49 :: (framesB l ++ fourI (crc pSeal (bodyB l))) := by simp [bundleB, bodyB, framesB]
  obtain ⟨j, rfl⟩ : ∃ j, k = j + 1 + 1 + 1 + 1 := ⟨k - 4, by omega⟩
  unfold salv
  rw [e]
  simp only [List.take_succ_cons]
  obtain ⟨k, hk2, hs⟩ := salvF_magic ((framesB l ++ fourI (crc pSeal (bodyB l))).take j) _ (Nat.le_refl _)
  rw [hs]
  exact salvF_cut _ l h j k 4 hk2 i hi (by omega)
theorem atL_at : ∀ (l : List Fd) (p i : Nat) (h : i < l.length), (atL p l)[i]? = some ((l[i]).put (p + lenL (l.take i)))
  | f :: l, p, 0, _ => by simp [atL, lenL]
  | f :: l, p, i + 1, h => by
    simp only [atL, List.getElem?_cons_succ]
    rw [atL_at l (p + lenF f) i (by simpa using h)]
    simp [lenL]; congr 1; omega
end Go.Proofs.Ytdjpkgaicmklmaa

/- What was found, as it lies in memory; how much it is at most. -/
namespace Go.Proofs.Ytdjpkgaicmklmaa
open Go.RowKit

theorem Lies.found {w : World} {a : Option Addr} {n : Nat} {c : Nat → Fd} (h : Lies w a n 9 (fun i => (c i).cells)) (cap : Nat) {k : Nat} (hk : k < n) :
    ∃ b o, b < w.heap.size ∧ (∀ w', (Instr.indexAt 57 (.slice a n cap) (.int .i64 (k : Int))).run Try.prog w' = .ok (.pointer (some ⟨b, o, none⟩)) w') ∧
      w.cell? ⟨b, o, none⟩ = some (.int .i64 (c k).at_) ∧ w.cell? ⟨b, o + 1, none⟩ = some (.int .i64 (c k).kind) ∧ w.cell? ⟨b, o + 2, none⟩ = some (.int .i64 (c k).seq) ∧
      w.cell? ⟨b, o + 3, none⟩ = some (.int .i64 (c k).base) ∧ w.cell? ⟨b, o + 4, none⟩ = some (.int .i64 (c k).id) ∧ w.cell? ⟨b, o + 5, none⟩ = some (.int .i64 (c k).site) ∧
      w.cell? ⟨b, o + 6, none⟩ = some (.int .i64 (c k).count) ∧ w.cell? ⟨b, o + 7, none⟩ = some (.bool (c k).gone) ∧ w.cell? ⟨b, o + 8, none⟩ = some (.string (c k).text) := by
  obtain ⟨b, o, hb, hi, hc⟩ := h.at cap (P := Try.prog) (t := 57) (by kernel_rfl) (by kernel_rfl) hk
  exact ⟨b, o, hb, hi, hc 0 _ (by omega) rfl, hc 1 _ (by omega) rfl, hc 2 _ (by omega) rfl, hc 3 _ (by omega) rfl, hc 4 _ (by omega) rfl, hc 5 _ (by omega) rfl, hc 6 _ (by omega) rfl, hc 7 _ (by omega) rfl, hc 8 _ (by omega) rfl⟩
theorem fvec_lies {w : World} {B : Nat} {ad : Option Addr} {n cap : Nat} {L : List Fd} (h : Vec w B 64 9 ad n cap (fcells L)) (hn : n = L.length) : Lies w ad n 9 (fun i => (L.getD i fd0).cells) := by
  refine Vec.lies (rows := L.map Fd.cells) h ?_ (by simp [hn]) _ ?_
  · intro r hr; obtain ⟨f, _, rfl⟩ := List.mem_map.1 hr; rfl
  · intro i hi; subst hn; simp [List.getD, hi]
theorem salvF_length : ∀ (k p : Nat) (s : List UInt8), (salvF k p s).length ≤ k
  | 0, _, _ => by simp [salvF]
  | k + 1, p, s => by
    simp only [salvF]
    split
    · simp
    · split
      · rename_i f n _; have := salvF_length k (p + n) (s.drop n); simp; omega
      · have := salvF_length k (p + 1) (s.drop 1); omega
theorem salv_length (b : List UInt8) : (salv b).length ≤ b.length := salvF_length _ _ _
end Go.Proofs.Ytdjpkgaicmklmaa

/- parcelkeep.Cut: called with any writes and numbers it answers true. -/
namespace Go.Proofs.Ytdjpkgaicmklmaa
open Go.RowKit

theorem lenL_le (l : List Fd) : ∀ f ∈ l, lenF f ≤ lenL l := by
  induction l with
  | nil => intro f h; cases h
  | cons g l ih =>
    intro f h
    simp only [lenL, List.map_cons, List.sum_cons] at ih ⊢
    rcases List.mem_cons.1 h with rfl | h
    · omega
    · have := ih f h; omega

set_option maxRecDepth 100000 in
set_option maxHeartbeats 4000000 in
theorem cuts_any (nw nn nx : Nat) (fw fx : Nat → Wr) (fn : Nat → Int) (aw an ax : Option Addr) (cw cn cx : Nat) (at_ : Int) (w : World)
    (hW : Ws w aw nw fw) (hN : Ns w an nn fn) (hX : Ws w ax nx fx) (kw : nw ≤ cw) (hat : I64 at_) :
    Calls Try.prog 13 #[.slice aw nw cw, .slice an nn cn, .slice ax nx cx, .int .i64 at_] w fun e w' => e = .returned (.bool true) ∧ Below w.heap.size w w' := by
  go_enter Try.func13, Try.ntmps13
  go_wp2_with fail
  refine (state_call (S := ⟨nw, fw, nn, fn⟩) (Below.refl _ w) hW hN hX kw).mono ?_
  rintro e w1 ⟨a1, a2, a3, k1, k2, k3, rfl, hR, hb1⟩
  have hRc := stateR_chk ⟨nw, fw, nn, fn⟩ nx fx
  generalize stateR ⟨nw, fw, nn, fn⟩ nx fx = R at *
  have hh : Below w1.heap.size w1 (w1.alloc (.cells #[.slice a1 R.n1 k1, .slice a2 R.n2 k2, .slice a3 R.n3 k3] 26)) := (Below.refl _ _).alloc (Nat.le_refl _) _
  have i0 : InC w w1 R a1 a2 a3 k1 k2 k3 (w1.alloc (.cells #[.slice a1 R.n1 k1, .slice a2 R.n2 k2, .slice a3 R.n3 k3] 26)) := ⟨Below.refl _ _, hR.below hh, hb1.trans (hh.mono hb1.size)⟩
  clear hh hb1 hR
  have hFR := Rep.fit hRc
  have eR : R.exp = bundleB (recsOf 0 0 R) := by unfold Rep.exp; rw [if_pos hRc]
  have hok : Okay (recsOf 0 0 R) := fun f hf => ⟨hFR.ok (by exact ⟨by decide, by decide⟩) (by decide) (by decide) f hf, fun _ => (recsOf_zero R f hf).2⟩
  have hcnt : (recsOf 0 0 R).length ≤ 3000001 := by rw [recsOf_length]; have := hFR.n1; have := hFR.n2; have := hFR.n3; omega
  have hbl : (bundleB (recsOf 0 0 R)).length ≤ 1000000000 := by
    have := bodyB_length (recsOf 0 0 R) (fun f hf => (hok f hf).1)
    unfold bundleB; rw [List.length_append]; simp [fourI]; omega
  have hln := bundleB_length (recsOf 0 0 R)
  have hc1 := salv_bundle (recsOf 0 0 R) hok
  have hc2 := salv_cut (recsOf 0 0 R) hok
  have hpos : 0 < (recsOf 0 0 R).length := by rw [recsOf_length]; omega
  have HFR : Hid (Fit R) := hFR
  have HRC : Hid (R.chk = 0) := hRc
  generalize hll : recsOf 0 0 R = l at *
  have HLL : Hid (recsOf 0 0 R = l) := hll
  generalize hBB : bundleB l = B at *
  have hRB : Hid (R.exp = B) := eR
  have HLN : Hid (B.length = 8 + lenL l) := hln
  have HC1 : Hid (salv B = atL 4 l) := hc1
  have HC2 : Hid (∀ (k i : Nat) (hi : i < l.length), 4 + lenL (l.take (i + 1)) ≤ k → (salv (B.take k))[i]? = (atL 4 l)[i]?) := hc2
  have HBL : Hid (B.length ≤ 1000000000) := hbl
  have hsz : ((str B).size : Int) = ((8 + lenL l : Nat) : Int) := by rw [str_size, hln]
  have hLL2 : 8 + lenL l ≤ 1000000000 := by omega
  clear hll hBB eR hln hc1 hc2 hbl hFR hRc hok
  obtain ⟨x1, x2, x3⟩ := box3 i0.bR
  go_wp2_with fail
  refine (export_any R a1 a2 a3 k1 k2 k3 _ i0.hR).mono ?_
  rintro e w3 ⟨rfl, hb3⟩
  have i1 := i0.step hb3
  rw [HRC.out, hRB.out]
  clear hb3 i0 x1 x2 x3
  obtain ⟨x1, x2, x3⟩ := box3 i1.bR
  go_wp2_with fail
  refine (krecords_any R a1 a2 a3 k1 k2 k3 _ i1.hR HFR.out).mono ?_
  rintro e w7 ⟨ad, cap, N, ⟨rfl, hN9, hv⟩, hb3⟩
  have i0 := i1.step hb3
  clear hb3 i1 x1 x2 x3
  rw [HLL.out] at hN9 hv ⊢
  have hl1 := fvec_lies hv (by rw [atL_length]; exact hN9)
  have HN9 : Hid (N = l.length) := hN9
  have hNb : N ≤ 3000001 := by omega
  have hN0 : 0 < N := by omega
  clear hv hN9 hcnt hpos
  generalize hL : 8 + lenL l = L at *
  have HL : Hid (8 + lenL l = L) := hL
  clear hL
  go_wp2_with fail
  have hL0 : (0 : Int) < (L : Int) + 1 := by omega
  refine (pick_any at_ ((L : Int) + 1) _ hat hL0 (by omega)).mono ?_
  rintro e w4 ⟨rfl, hw4⟩
  subst hw4
  obtain ⟨k, hk, hkL⟩ : ∃ k : Nat, pickI at_ ((L : Int) + 1) = k ∧ k ≤ L := by
    have := pickI_lt at_ ((L : Int) + 1) hL0
    exact ⟨(pickI at_ ((L : Int) + 1)).toNat, by omega, by omega⟩
  rw [hk]
  have hx : (str B).extract 0 k = str (B.take k) := by rw [str_extract]; simp
  have hks : (k : Int) ≤ ((str B).size : Int) := by omega
  clear hk
  go_wp2_with fail
  refine (psalvage_any (B.take k) _ (by have := HBL.out; simp; omega)).mono ?_
  rintro e w8 ⟨ad2, cap2, N2, rfl, hN2, hv2, hb8⟩
  have i2 := i0.step hb8
  have hl2 := fvec_lies hv2 hN2
  have hl1' := hl1.below hb8
  have HN2 : Hid (N2 = (salv (B.take k)).length) := hN2
  have hN2b : N2 ≤ 1000000000 := by rw [hN2]; have := salv_length (B.take k); have := HBL.out; simp at *; omega
  clear hv2 hN2 hb8 i0 hl1 hx
  go_wp2_with fail
  go_loopw [16, 17] (fun u _ wr => ∃ i : Nat, i ≤ N ∧ u = .int .i64 i ∧ Below w8.heap.size w8 wr) (fun u _ _ => N - (intOf u).toNat)
  case atStart => exact ⟨0, Nat.zero_le _, rfl, Below.refl _ _⟩
  case round =>
    obtain ⟨i, hi, rfl, hbr⟩ := hrel
    have iX := i2.step hbr
    have hlX := hl1'.below hbr
    by_cases hlt : i < N
    · have hil : i < l.length := by rw [← HN9.out]; exact hlt
      obtain ⟨b', o', hbl', hix', d0, d1, d2, d3, d4, d5, d6, d7, d8⟩ := hlX.found cap hlt
      by_cases hnx : i + 1 < N
      · obtain ⟨b3, o3, hbl3, hix3, e0, -⟩ := hlX.found cap hnx
        have hea : ((atL 4 l).getD (i + 1) fd0).at_ = ((4 + lenL (l.take (i + 1)) : Nat) : Int) := by
          rw [List.getD, atL_at l 4 (i + 1) (by rw [← HN9.out]; exact hnx)]; rfl
        rw [hea] at e0
        replace hix3 : ∀ w', (Instr.indexAt 57 (.slice ad N cap) (.int .i64 ((i : Int) + 1))).run Try.prog w' = .ok (.pointer (some ⟨b3, o3, none⟩)) w' := by
          intro w'; have := hix3 w'; rwa [show ((i + 1 : Nat) : Int) = (i : Int) + 1 by omega] at this
        clear hea
        by_cases hend : k < 4 + lenL (l.take (i + 1))
        · clear hbl3
          go_wp2_with fail
          refine (psalvage_any B _ (by have := HBL.out; omega)).mono ?_
          rintro e w9 ⟨ad3, cap3, N3, rfl, hN3, hv3, hb9⟩
          have i3 := iX.step hb9
          rw [HC1.out, atL_length, ← HN9.out] at hN3
          have hN4 := hN3.symm
          subst hN4
          rw [HC1.out] at hv3
          have hl3 := fvec_lies hv3 (by rw [atL_length]; exact HN9.out)
          have hl4 := hlX.below hb9
          clear hv3 hb9 iX hlX
          go_wp2_with fail
          go_loopw [19] (fun u wr => ∃ j : Nat, j ≤ N ∧ u = .int .i64 j ∧ Below w9.heap.size w9 wr) (fun u _ => N - (intOf u).toNat)
          case atStart => exact ⟨0, Nat.zero_le _, rfl, Below.refl _ _⟩
          case round =>
            obtain ⟨j, hj, rfl, hbr⟩ := hrel
            by_cases hlt : j < N
            · obtain ⟨b, o, hbl, hix, c0, c1, c2, c3, c4, c5, c6, c7, c8⟩ := (hl3.below hbr).found cap3 hlt
              obtain ⟨b', o', hbl', hix', d0, d1, d2, d3, d4, d5, d6, d7, d8⟩ := (hl4.below hbr).found cap hlt
              go_wp2
              go_quiet (fail)
              go_wp2
              go_roundw
              case rel => exact ⟨j + 1, by omega, by go_num, below_drewN hbr _⟩
              case measure => simp [intOf]; omega
            · go_wp2
              go_ret
              exact ⟨rfl, i3.old.trans (hbr.mono i3.old.size)⟩

        · have hf := HC2.out k i hil (by omega)
          rw [atL_at l 4 i hil] at hf
          have hi2 : i < N2 := by rw [HN2.out]; exact (List.getElem?_eq_some_iff.1 hf).1
          obtain ⟨b, o, hbl, hix, c0, c1, c2, c3, c4, c5, c6, c7, c8⟩ := (hl2.below hbr).found cap2 hi2
          have hg1 : (salv (B.take k)).getD i fd0 = (l[i]).put (4 + lenL (l.take i)) := by rw [List.getD, hf]; rfl
          have hg2 : (atL 4 l).getD i fd0 = (l[i]).put (4 + lenL (l.take i)) := by rw [List.getD, atL_at l 4 i hil]; rfl
          rw [hg1] at c0 c1 c2 c3 c4 c5 c6 c7 c8
          rw [hg2] at d0 d1 d2 d3 d4 d5 d6 d7 d8
          generalize (l[i]).put (4 + lenL (l.take i)) = X at *
          clear hf hg1 hg2
          go_wp2
          go_quiet (fail)
          go_wp2
          go_roundw
          case rel => exact ⟨i + 1, by omega, by go_num, below_drewN hbr _⟩
          case measure => simp [intOf]; omega
      · have hiN : i + 1 = N := by omega
        have htk : l.take (i + 1) = l := List.take_of_length_le (by rw [← HN9.out]; omega)
        by_cases hend : k < L - 4
        · have hend2 : (k : Int) < (L : Int) - 4 := by omega
          clear hend
          go_wp2_with fail
          refine (psalvage_any B _ (by have := HBL.out; omega)).mono ?_
          rintro e w9 ⟨ad3, cap3, N3, rfl, hN3, hv3, hb9⟩
          have i3 := iX.step hb9
          rw [HC1.out, atL_length, ← HN9.out] at hN3
          have hN4 := hN3.symm
          subst hN4
          rw [HC1.out] at hv3
          have hl3 := fvec_lies hv3 (by rw [atL_length]; exact HN9.out)
          have hl4 := hlX.below hb9
          clear hv3 hb9 iX hlX
          go_wp2_with fail
          go_loopw [19] (fun u wr => ∃ j : Nat, j ≤ N ∧ u = .int .i64 j ∧ Below w9.heap.size w9 wr) (fun u _ => N - (intOf u).toNat)
          case atStart => exact ⟨0, Nat.zero_le _, rfl, Below.refl _ _⟩
          case round =>
            obtain ⟨j, hj, rfl, hbr⟩ := hrel
            by_cases hlt : j < N
            · obtain ⟨b, o, hbl, hix, c0, c1, c2, c3, c4, c5, c6, c7, c8⟩ := (hl3.below hbr).found cap3 hlt
              obtain ⟨b', o', hbl', hix', d0, d1, d2, d3, d4, d5, d6, d7, d8⟩ := (hl4.below hbr).found cap hlt
              go_wp2
              go_quiet (fail)
              go_wp2
              go_roundw
              case rel => exact ⟨j + 1, by omega, by go_num, below_drewN hbr _⟩
              case measure => simp [intOf]; omega
            · go_wp2
              go_ret
              exact ⟨rfl, i3.old.trans (hbr.mono i3.old.size)⟩

        · have hend2 : ¬ ((k : Int) < (L : Int) - 4) := by have := HL.out; omega
          have hf := HC2.out k i hil (by rw [htk]; have := HL.out; omega)
          rw [atL_at l 4 i hil] at hf
          have hi2 : i < N2 := by rw [HN2.out]; exact (List.getElem?_eq_some_iff.1 hf).1
          obtain ⟨b, o, hbl, hix, c0, c1, c2, c3, c4, c5, c6, c7, c8⟩ := (hl2.below hbr).found cap2 hi2
          have hg1 : (salv (B.take k)).getD i fd0 = (l[i]).put (4 + lenL (l.take i)) := by rw [List.getD, hf]; rfl
          have hg2 : (atL 4 l).getD i fd0 = (l[i]).put (4 + lenL (l.take i)) := by rw [List.getD, atL_at l 4 i hil]; rfl
          rw [hg1] at c0 c1 c2 c3 c4 c5 c6 c7 c8
          rw [hg2] at d0 d1 d2 d3 d4 d5 d6 d7 d8
          generalize (l[i]).put (4 + lenL (l.take i)) = X at *
          clear hf hg1 hg2 hend htk hiN
          go_wp2
          go_quiet (fail)
          go_wp2
          go_roundw
          case rel => exact ⟨i + 1, by omega, by go_num, below_drewN hbr _⟩
          case measure => simp [intOf]; omega
    · skip
      go_wp2_with fail
      refine (psalvage_any B _ (by have := HBL.out; omega)).mono ?_
      rintro e w9 ⟨ad3, cap3, N3, rfl, hN3, hv3, hb9⟩
      have i3 := iX.step hb9
      rw [HC1.out, atL_length, ← HN9.out] at hN3
      have hN4 := hN3.symm
      subst hN4
      rw [HC1.out] at hv3
      have hl3 := fvec_lies hv3 (by rw [atL_length]; exact HN9.out)
      have hl4 := hlX.below hb9
      clear hv3 hb9 iX hlX
      go_wp2_with fail
      go_loopw [19] (fun u wr => ∃ j : Nat, j ≤ N ∧ u = .int .i64 j ∧ Below w9.heap.size w9 wr) (fun u _ => N - (intOf u).toNat)
      case atStart => exact ⟨0, Nat.zero_le _, rfl, Below.refl _ _⟩
      case round =>
        obtain ⟨j, hj, rfl, hbr⟩ := hrel
        by_cases hlt : j < N
        · obtain ⟨b, o, hbl, hix, c0, c1, c2, c3, c4, c5, c6, c7, c8⟩ := (hl3.below hbr).found cap3 hlt
          obtain ⟨b', o', hbl', hix', d0, d1, d2, d3, d4, d5, d6, d7, d8⟩ := (hl4.below hbr).found cap hlt
          go_wp2
          go_quiet (fail)
          go_wp2
          go_roundw
          case rel => exact ⟨j + 1, by omega, by go_num, below_drewN hbr _⟩
          case measure => simp [intOf]; omega
        · go_wp2
          go_ret
          exact ⟨rfl, i3.old.trans (hbr.mono i3.old.size)⟩
end Go.Proofs.Ytdjpkgaicmklmaa

