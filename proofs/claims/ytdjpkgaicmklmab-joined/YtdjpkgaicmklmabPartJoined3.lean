/- Texts of the proof, one behind the other; what each holds is said at its head. -/
import Derived.Test.YtdjpkgaicmklmabPartJoined2
import Derived.Test.YtdjpkgaicmklmabPartJoined0
import Derived.Deep.RegionHeld3
import Derived.BigQuiet
import Derived.Deep.QuietTactic
/- The program's foundIn, walked. -/
namespace Go.Proofs.Ytdjpkgaicmklmab
open Go.RowKit

theorem three_boxes (w : World) (e1 e2 e3 : Nat) (a b c : Array Value) : Bx (((w.alloc (.cells a e1)).alloc (.cells b e2)).alloc (.cells c e3)) w.heap.size e1 a.toList ∧ Bx (((w.alloc (.cells a e1)).alloc (.cells b e2)).alloc (.cells c e3)) (w.heap.size + 1) e2 b.toList ∧
    Bx (((w.alloc (.cells a e1)).alloc (.cells b e2)).alloc (.cells c e3)) (w.heap.size + 2) e3 c.toList ∧ (((w.alloc (.cells a e1)).alloc (.cells b e2)).alloc (.cells c e3)).heap.size = w.heap.size + 3 ∧ Below w.heap.size w (((w.alloc (.cells a e1)).alloc (.cells b e2)).alloc (.cells c e3)) := by
  obtain ⟨h1, h2, h3, h4⟩ := two_boxes w e1 e2 a b
  have h5 := Bx.new ((w.alloc (.cells a e1)).alloc (.cells b e2)) e3 c
  rw [h3] at h5
  exact ⟨h1.alloc _, h2.alloc _, h5, by show (((w.alloc _).alloc _).heap.push _).size = _; simp only [Array.size_push]; rw [h3], h4.alloc (by omega) _⟩

/-- What foundIn answers. -/
def foundV (x : Option Fd) : Value := match x with
  | some f => .tuple #[fdV f, .bool true]
  | none => .tuple #[fdV fd0, .bool false]

theorem cuNum_nums {s : List UInt8} {d : Bool} {v : Int} {n : Nat} (h : numRd s = some (v, n)) : cuNum (s, d) = (v, s.drop n, d) := by simp [cuNum, h]
theorem cuNum_none {s : List UInt8} {d : Bool} (h : numRd s = none) : cuNum (s, d) = (0, s, true) := by simp [cuNum, h]
theorem cuNum_failed (s : List UInt8) : (cuNum (s, true)).2.2 = true := by unfold cuNum; split <;> rfl
theorem cuEnd_failed (s : List UInt8) : (cuEnd (s, true)).2 = true := by unfold cuEnd; split <;> rfl
theorem cuFlag_failed (s : List UInt8) : (cuFlag (s, true)).2.2 = true := by
  unfold cuFlag; dsimp only; split
  · rfl
  · split <;> rfl
theorem cuFour_failed (s : List UInt8) : (cuFour (s, true)).2.2 = true := by unfold cuFour; split <;> rfl
theorem cu_eta (c : Cu) (h : c.2 = true) : c = (c.1, true) := by obtain ⟨a, b⟩ := c; simp at h; subst h; rfl

theorem tkEdit_true (s : List UInt8) : (tkEdit (s, true)).2.2 = true := cuNum_failed s
theorem cuEnd_true (c : Cu) (h : c.2 = true) : (cuEnd c).2 = true := by rw [cu_eta c h]; exact cuEnd_failed _
theorem cuNum_true (c : Cu) (h : c.2 = true) : (cuNum c).2.2 = true := by rw [cu_eta c h]; exact cuNum_failed _
theorem cuFlag_true (c : Cu) (h : c.2 = true) : (cuFlag c).2.2 = true := by rw [cu_eta c h]; exact cuFlag_failed _
theorem rec3 (s : List UInt8) : recRd (3 :: s) = match numsRd 1 s with
      | some ([a], t) => some (fdEdit ⟨a, str t⟩)
      | _ => none := by simp [recRd] <;> rfl
theorem rec1 (s : List UInt8) : recRd (1 :: s) = match numsRd 2 s with
      | some ([a, b], r) => if r = [] then some (fdClock ⟨a, b⟩) else none
      | _ => none := by simp [recRd] <;> rfl
theorem rec2 (s : List UInt8) : recRd (2 :: s) = match numsRd 3 s with
      | some ([a, b, d], g :: t) => if g.toNat ≤ 1 then some (fdCard ⟨a, b, d, g == 1, str t⟩) else none
      | _ => none := by simp [recRd] <;> rfl
theorem rec4 (s : List UInt8) : recRd (4 :: s) = match numsRd 1 s with
      | some ([q], r) => if q = 0 then (if r = [] then some (fdHead 0 0) else none) else if r.length = 4 then some (fdHead q (fourRd r)) else none
      | _ => none := by simp [recRd] <;> rfl
theorem rec_edit_eq (s : List UInt8) : recRd (3 :: s) = if (tkEdit (s, false)).2.2 then none else some (tkEdit (s, false)).1 := by
  rw [rec3]
  cases h : numRd s with
  | none => simp only [numsRd, h, tkEdit, cuNum_none h]; rfl
  | some p => obtain ⟨v, n⟩ := p; simp only [numsRd, h, tkEdit, cuNum_nums h]; rfl
theorem rec_clock_eq (s : List UInt8) : recRd (1 :: s) = if (tkClock (s, false)).2.2 then none else some (tkClock (s, false)).1 := by
  rw [rec1]
  cases h : numRd s with
  | none =>
    have e : (tkClock (s, false)).2.2 = true := by simp only [tkClock, cuNum_none h]; exact cuEnd_true _ rfl
    simp only [numsRd, h, e]; rfl
  | some p =>
    obtain ⟨v, n⟩ := p
    cases h2 : numRd (s.drop n) with
    | none =>
      have e : (tkClock (s, false)).2.2 = true := by simp only [tkClock, cuNum_nums h, cuNum_none h2]; exact cuEnd_true _ rfl
      simp only [numsRd, h, h2, e]; rfl
    | some p =>
      obtain ⟨v2, n2⟩ := p
      simp only [numsRd, h, h2, tkClock, cuNum_nums h, cuNum_nums h2, cuEnd]
      by_cases hr : (s.drop n).drop n2 = []
      · rw [if_pos hr, if_pos hr]; rfl
      · rw [if_neg hr, if_neg hr]; rfl
theorem rec_head_eq (s : List UInt8) : recRd (4 :: s) = if (tkHead (s, false)).2.2 then none else some (tkHead (s, false)).1 := by
  rw [rec4]
  cases h : numRd s with
  | none =>
    have e : (tkHead (s, false)).2.2 = true := by simp only [tkHead, cuNum_none h]; exact cuEnd_true _ rfl
    simp only [numsRd, h, e]; rfl
  | some p =>
    obtain ⟨v, n⟩ := p
    simp only [numsRd, h, tkHead, cuNum_nums h]
    by_cases hv : v = 0
    · subst hv
      simp only [↓reduceIte, cuEnd]
      by_cases hr : s.drop n = []
      · rw [if_pos hr, if_pos hr]; rfl
      · rw [if_neg hr, if_neg hr]; rfl
    · simp only [if_neg hv, cuFour]
      by_cases h4 : (s.drop n).length < 4
      · have e : (cuEnd (s.drop n, true)).2 = true := cuEnd_true _ rfl
        simp only [if_pos h4, e, if_neg (show ¬ (s.drop n).length = 4 by omega)]; rfl
      · simp only [if_neg h4]
        by_cases h5 : (s.drop n).length = 4
        · have e : (s.drop n).drop 4 = [] := List.drop_of_length_le (by omega)
          have e2 : (s.drop n).take 4 = s.drop n := List.take_of_length_le (by omega)
          simp only [e, e2, cuEnd, if_pos h5]; rfl
        · have e : (s.drop n).drop 4 ≠ [] := by intro hh; have := congrArg List.length hh; rw [List.length_drop] at this; simp only [List.length_nil] at this; omega
          simp only [cuEnd, if_neg e, if_neg h5]; rfl
theorem rec_card_eq (s : List UInt8) : recRd (2 :: s) = if (tkCard (s, false)).2.2 then none else some (tkCard (s, false)).1 := by
  rw [rec2]
  cases h : numRd s with
  | none =>
    have e : (tkCard (s, false)).2.2 = true := by simp only [tkCard, cuNum_none h]; exact cuFlag_true _ rfl
    simp only [numsRd, h, e]; rfl
  | some p =>
    obtain ⟨v, n⟩ := p
    cases h2 : numRd (s.drop n) with
    | none =>
      have e : (tkCard (s, false)).2.2 = true := by simp only [tkCard, cuNum_nums h, cuNum_none h2]; exact cuFlag_true _ rfl
      simp only [numsRd, h, h2, e]; rfl
    | some p =>
      obtain ⟨v2, n2⟩ := p
      cases h3 : numRd ((s.drop n).drop n2) with
      | none =>
        have e : (tkCard (s, false)).2.2 = true := by simp only [tkCard, cuNum_nums h, cuNum_nums h2, cuNum_none h3]; exact cuFlag_true _ rfl
        simp only [numsRd, h, h2, h3, e]; rfl
      | some p =>
        obtain ⟨v3, n3⟩ := p
        simp only [numsRd, h, h2, h3, tkCard, cuNum_nums h, cuNum_nums h2, cuNum_nums h3]
        generalize ((s.drop n).drop n2).drop n3 = r
        cases r with
        | nil => rfl
        | cons g t =>
          by_cases hg : g.toNat ≤ 1
          · simp only [cuFlag, if_pos hg, if_neg (show ¬ 1 < g.toNat by omega)]; rfl
          · simp only [cuFlag, if_neg hg, if_pos (show 1 < g.toNat by omega)]; rfl

set_option maxRecDepth 100000 in
set_option maxHeartbeats 4000000 in
theorem foundIn_head (s : List UInt8) (w : World) (hs : s.length ≤ 9223372036854775806) :
    Calls Try.prog 97 #[.string (str (4 :: s))] w fun e w' => e = .returned (foundV (recRd (4 :: s))) ∧ Below w.heap.size w w' := by
  have h0 : 0 < (str (4 :: s)).size := by rw [str_size]; simp
  have hx : (str (4 :: s)).extract 1 (str (4 :: s)).size = str s := by rw [str_extract, str_size]; simp
  have hne : (str (4 :: s)).toList.isEmpty = false := by rw [str_toList]; rfl
  have hk : ((str (4 :: s))[0]'h0).toNat = 4 := rfl
  have hle : (1 : Int) ≤ ((str (4 :: s)).size : Int) := by omega
  obtain ⟨hR, hC, hF, hW, hB⟩ := three_boxes w 117 137 117 fd0.cells.toArray (Cu.cells (s, false)).toArray fd0.cells.toArray
  have HE := rec_head_eq s
  go_enter Try.func97, Try.ntmps97
  go_wp2_with fail
  refine (tkHead_any (s, false) (w.heap.size + 1) _ hC (by simp only []; omega)).mono ?_
  rintro e w1 ⟨rfl, hC1, hT⟩
  replace hR := hR.but hT (Nat.lt_of_lt_of_le (by omega) (Nat.le_of_eq hW.symm)) (by omega)
  replace hF := hF.but hT (Nat.lt_of_lt_of_le (by omega) (Nat.le_of_eq hW.symm)) (by omega)
  replace hB := hT.below hB (Nat.le_trans (by omega) (Nat.le_of_eq hW.symm)) (by omega)
  replace hC := hC1
  clear hC1 hT hW hx hne hk hle
  generalize htk : tkHead (s, false) = X at *
  clear htk
  obtain ⟨f, r, d⟩ := X
  cases d with
  | true =>
    have HN : Hid (recRd (4 :: s) = none) := HE
    clear HE
    go_wp2_with (first
      | (refine wpList_bstore (by rfl) _ _ _ (by rfl) (w.heap.size + 2) 117 (by rfl) _ _ (by rfl) hF 9 (by rfl) (by kernel_rfl) (by rfl) (by intro x hx; simp at hx; rcases hx with rfl | rfl | rfl | rfl | rfl | rfl | rfl | rfl | rfl <;> rfl) ?_; intro w9 hF9 hU9; replace hF := hF9; replace hR := hR.upd hU9 (by omega); replace hC := hC.upd hU9 (by omega); replace hB := hU9.below hB (by omega); clear hF9 hU9)
      | (refine wpList_bget (by rfl) 4 _ (by rfl) (w.heap.size + 1) 137 1 (by rfl) _ hC _ (by rfl) _ Try.underlying4 (by rfl) ?_; dsimp only)
      | (refine wpList_bstore (by rfl) _ _ _ (by rfl) w.heap.size 117 (by rfl) _ _ (by rfl) hR 9 (by rfl) (by kernel_rfl) (by rfl) (by intro x hx; simp at hx; rcases hx with rfl | rfl | rfl | rfl | rfl | rfl | rfl | rfl | rfl <;> rfl) ?_; intro w9 hR9 hU9; replace hR := hR9; replace hF := hF.upd hU9 (by omega); replace hC := hC.upd hU9 (by omega); replace hB := hU9.below hB (by omega); clear hR9 hU9)
      | (refine wpList_bload (by rfl) _ _ (by rfl) (w.heap.size + 2) 117 (by rfl) _ hF _ Try.underlying117 (by rfl) 9 (by rfl) (by kernel_rfl) ?_))
    exact bodyPost_ret (v := .tuple #[fdV (fd0), .bool false]) (results_box2 (by rfl) _ _ w.heap.size 117 _ _ _ (by rfl) hR (by rfl) Try.underlying117 (by rfl) 9 (by rfl) (by kernel_rfl)) rfl ⟨by rw [HN.out]; rfl, hB⟩
  | false =>
    have HN : Hid (recRd (4 :: s) = some f) := HE
    clear HE
    go_wp2_with (first
      | (refine wpList_bstore (by rfl) _ _ _ (by rfl) (w.heap.size + 2) 117 (by rfl) _ _ (by rfl) hF 9 (by rfl) (by kernel_rfl) (by rfl) (by intro x hx; simp at hx; rcases hx with rfl | rfl | rfl | rfl | rfl | rfl | rfl | rfl | rfl <;> rfl) ?_; intro w9 hF9 hU9; replace hF := hF9; replace hR := hR.upd hU9 (by omega); replace hC := hC.upd hU9 (by omega); replace hB := hU9.below hB (by omega); clear hF9 hU9)
      | (refine wpList_bget (by rfl) 4 _ (by rfl) (w.heap.size + 1) 137 1 (by rfl) _ hC _ (by rfl) _ Try.underlying4 (by rfl) ?_; dsimp only)
      | (refine wpList_bstore (by rfl) _ _ _ (by rfl) w.heap.size 117 (by rfl) _ _ (by rfl) hR 9 (by rfl) (by kernel_rfl) (by rfl) (by intro x hx; simp at hx; rcases hx with rfl | rfl | rfl | rfl | rfl | rfl | rfl | rfl | rfl <;> rfl) ?_; intro w9 hR9 hU9; replace hR := hR9; replace hF := hF.upd hU9 (by omega); replace hC := hC.upd hU9 (by omega); replace hB := hU9.below hB (by omega); clear hR9 hU9)
      | (refine wpList_bload (by rfl) _ _ (by rfl) (w.heap.size + 2) 117 (by rfl) _ hF _ Try.underlying117 (by rfl) 9 (by rfl) (by kernel_rfl) ?_))
    exact bodyPost_ret (v := .tuple #[fdV (f), .bool true]) (results_box2 (by rfl) _ _ w.heap.size 117 _ _ _ (by rfl) hR (by rfl) Try.underlying117 (by rfl) 9 (by rfl) (by kernel_rfl)) rfl ⟨by rw [HN.out]; rfl, hB⟩

set_option maxRecDepth 100000 in
set_option maxHeartbeats 4000000 in
theorem foundIn_clock (s : List UInt8) (w : World) (hs : s.length ≤ 9223372036854775806) :
    Calls Try.prog 97 #[.string (str (1 :: s))] w fun e w' => e = .returned (foundV (recRd (1 :: s))) ∧ Below w.heap.size w w' := by
  have h0 : 0 < (str (1 :: s)).size := by rw [str_size]; simp
  have hx : (str (1 :: s)).extract 1 (str (1 :: s)).size = str s := by rw [str_extract, str_size]; simp
  have hne : (str (1 :: s)).toList.isEmpty = false := by rw [str_toList]; rfl
  have hk : ((str (1 :: s))[0]'h0).toNat = 1 := rfl
  have hle : (1 : Int) ≤ ((str (1 :: s)).size : Int) := by omega
  obtain ⟨hR, hC, hF, hW, hB⟩ := three_boxes w 117 137 117 fd0.cells.toArray (Cu.cells (s, false)).toArray fd0.cells.toArray
  have HE := rec_clock_eq s
  go_enter Try.func97, Try.ntmps97
  go_wp2_with fail
  refine (tkClock_any (s, false) (w.heap.size + 1) _ hC (by simp only []; omega)).mono ?_
  rintro e w1 ⟨rfl, hC1, hT⟩
  replace hR := hR.but hT (Nat.lt_of_lt_of_le (by omega) (Nat.le_of_eq hW.symm)) (by omega)
  replace hF := hF.but hT (Nat.lt_of_lt_of_le (by omega) (Nat.le_of_eq hW.symm)) (by omega)
  replace hB := hT.below hB (Nat.le_trans (by omega) (Nat.le_of_eq hW.symm)) (by omega)
  replace hC := hC1
  clear hC1 hT hW hx hne hk hle
  generalize htk : tkClock (s, false) = X at *
  clear htk
  obtain ⟨f, r, d⟩ := X
  cases d with
  | true =>
    have HN : Hid (recRd (1 :: s) = none) := HE
    clear HE
    go_wp2_with (first
      | (refine wpList_bstore (by rfl) _ _ _ (by rfl) (w.heap.size + 2) 117 (by rfl) _ _ (by rfl) hF 9 (by rfl) (by kernel_rfl) (by rfl) (by intro x hx; simp at hx; rcases hx with rfl | rfl | rfl | rfl | rfl | rfl | rfl | rfl | rfl <;> rfl) ?_; intro w9 hF9 hU9; replace hF := hF9; replace hR := hR.upd hU9 (by omega); replace hC := hC.upd hU9 (by omega); replace hB := hU9.below hB (by omega); clear hF9 hU9)
      | (refine wpList_bget (by rfl) 4 _ (by rfl) (w.heap.size + 1) 137 1 (by rfl) _ hC _ (by rfl) _ Try.underlying4 (by rfl) ?_; dsimp only)
      | (refine wpList_bstore (by rfl) _ _ _ (by rfl) w.heap.size 117 (by rfl) _ _ (by rfl) hR 9 (by rfl) (by kernel_rfl) (by rfl) (by intro x hx; simp at hx; rcases hx with rfl | rfl | rfl | rfl | rfl | rfl | rfl | rfl | rfl <;> rfl) ?_; intro w9 hR9 hU9; replace hR := hR9; replace hF := hF.upd hU9 (by omega); replace hC := hC.upd hU9 (by omega); replace hB := hU9.below hB (by omega); clear hR9 hU9)
      | (refine wpList_bload (by rfl) _ _ (by rfl) (w.heap.size + 2) 117 (by rfl) _ hF _ Try.underlying117 (by rfl) 9 (by rfl) (by kernel_rfl) ?_))
    exact bodyPost_ret (v := .tuple #[fdV (fd0), .bool false]) (results_box2 (by rfl) _ _ w.heap.size 117 _ _ _ (by rfl) hR (by rfl) Try.underlying117 (by rfl) 9 (by rfl) (by kernel_rfl)) rfl ⟨by rw [HN.out]; rfl, hB⟩
  | false =>
    have HN : Hid (recRd (1 :: s) = some f) := HE
    clear HE
    go_wp2_with (first
      | (refine wpList_bstore (by rfl) _ _ _ (by rfl) (w.heap.size + 2) 117 (by rfl) _ _ (by rfl) hF 9 (by rfl) (by kernel_rfl) (by rfl) (by intro x hx; simp at hx; rcases hx with rfl | rfl | rfl | rfl | rfl | rfl | rfl | rfl | rfl <;> rfl) ?_; intro w9 hF9 hU9; replace hF := hF9; replace hR := hR.upd hU9 (by omega); replace hC := hC.upd hU9 (by omega); replace hB := hU9.below hB (by omega); clear hF9 hU9)
      | (refine wpList_bget (by rfl) 4 _ (by rfl) (w.heap.size + 1) 137 1 (by rfl) _ hC _ (by rfl) _ Try.underlying4 (by rfl) ?_; dsimp only)
      | (refine wpList_bstore (by rfl) _ _ _ (by rfl) w.heap.size 117 (by rfl) _ _ (by rfl) hR 9 (by rfl) (by kernel_rfl) (by rfl) (by intro x hx; simp at hx; rcases hx with rfl | rfl | rfl | rfl | rfl | rfl | rfl | rfl | rfl <;> rfl) ?_; intro w9 hR9 hU9; replace hR := hR9; replace hF := hF.upd hU9 (by omega); replace hC := hC.upd hU9 (by omega); replace hB := hU9.below hB (by omega); clear hR9 hU9)
      | (refine wpList_bload (by rfl) _ _ (by rfl) (w.heap.size + 2) 117 (by rfl) _ hF _ Try.underlying117 (by rfl) 9 (by rfl) (by kernel_rfl) ?_))
    exact bodyPost_ret (v := .tuple #[fdV (f), .bool true]) (results_box2 (by rfl) _ _ w.heap.size 117 _ _ _ (by rfl) hR (by rfl) Try.underlying117 (by rfl) 9 (by rfl) (by kernel_rfl)) rfl ⟨by rw [HN.out]; rfl, hB⟩

set_option maxRecDepth 100000 in
set_option maxHeartbeats 4000000 in
theorem foundIn_card (s : List UInt8) (w : World) (hs : s.length ≤ 9223372036854775806) :
    Calls Try.prog 97 #[.string (str (2 :: s))] w fun e w' => e = .returned (foundV (recRd (2 :: s))) ∧ Below w.heap.size w w' := by
  have h0 : 0 < (str (2 :: s)).size := by rw [str_size]; simp
  have hx : (str (2 :: s)).extract 1 (str (2 :: s)).size = str s := by rw [str_extract, str_size]; simp
  have hne : (str (2 :: s)).toList.isEmpty = false := by rw [str_toList]; rfl
  have hk : ((str (2 :: s))[0]'h0).toNat = 2 := rfl
  have hle : (1 : Int) ≤ ((str (2 :: s)).size : Int) := by omega
  obtain ⟨hR, hC, hF, hW, hB⟩ := three_boxes w 117 137 117 fd0.cells.toArray (Cu.cells (s, false)).toArray fd0.cells.toArray
  have HE := rec_card_eq s
  go_enter Try.func97, Try.ntmps97
  go_wp2_with fail
  refine (tkCard_any (s, false) (w.heap.size + 1) _ hC (by simp only []; omega)).mono ?_
  rintro e w1 ⟨rfl, hC1, hT⟩
  replace hR := hR.but hT (Nat.lt_of_lt_of_le (by omega) (Nat.le_of_eq hW.symm)) (by omega)
  replace hF := hF.but hT (Nat.lt_of_lt_of_le (by omega) (Nat.le_of_eq hW.symm)) (by omega)
  replace hB := hT.below hB (Nat.le_trans (by omega) (Nat.le_of_eq hW.symm)) (by omega)
  replace hC := hC1
  clear hC1 hT hW hx hne hk hle
  generalize htk : tkCard (s, false) = X at *
  clear htk
  obtain ⟨f, r, d⟩ := X
  cases d with
  | true =>
    have HN : Hid (recRd (2 :: s) = none) := HE
    clear HE
    go_wp2_with (first
      | (refine wpList_bstore (by rfl) _ _ _ (by rfl) (w.heap.size + 2) 117 (by rfl) _ _ (by rfl) hF 9 (by rfl) (by kernel_rfl) (by rfl) (by intro x hx; simp at hx; rcases hx with rfl | rfl | rfl | rfl | rfl | rfl | rfl | rfl | rfl <;> rfl) ?_; intro w9 hF9 hU9; replace hF := hF9; replace hR := hR.upd hU9 (by omega); replace hC := hC.upd hU9 (by omega); replace hB := hU9.below hB (by omega); clear hF9 hU9)
      | (refine wpList_bget (by rfl) 4 _ (by rfl) (w.heap.size + 1) 137 1 (by rfl) _ hC _ (by rfl) _ Try.underlying4 (by rfl) ?_; dsimp only)
      | (refine wpList_bstore (by rfl) _ _ _ (by rfl) w.heap.size 117 (by rfl) _ _ (by rfl) hR 9 (by rfl) (by kernel_rfl) (by rfl) (by intro x hx; simp at hx; rcases hx with rfl | rfl | rfl | rfl | rfl | rfl | rfl | rfl | rfl <;> rfl) ?_; intro w9 hR9 hU9; replace hR := hR9; replace hF := hF.upd hU9 (by omega); replace hC := hC.upd hU9 (by omega); replace hB := hU9.below hB (by omega); clear hR9 hU9)
      | (refine wpList_bload (by rfl) _ _ (by rfl) (w.heap.size + 2) 117 (by rfl) _ hF _ Try.underlying117 (by rfl) 9 (by rfl) (by kernel_rfl) ?_))
    exact bodyPost_ret (v := .tuple #[fdV (fd0), .bool false]) (results_box2 (by rfl) _ _ w.heap.size 117 _ _ _ (by rfl) hR (by rfl) Try.underlying117 (by rfl) 9 (by rfl) (by kernel_rfl)) rfl ⟨by rw [HN.out]; rfl, hB⟩
  | false =>
    have HN : Hid (recRd (2 :: s) = some f) := HE
    clear HE
    go_wp2_with (first
      | (refine wpList_bstore (by rfl) _ _ _ (by rfl) (w.heap.size + 2) 117 (by rfl) _ _ (by rfl) hF 9 (by rfl) (by kernel_rfl) (by rfl) (by intro x hx; simp at hx; rcases hx with rfl | rfl | rfl | rfl | rfl | rfl | rfl | rfl | rfl <;> rfl) ?_; intro w9 hF9 hU9; replace hF := hF9; replace hR := hR.upd hU9 (by omega); replace hC := hC.upd hU9 (by omega); replace hB := hU9.below hB (by omega); clear hF9 hU9)
      | (refine wpList_bget (by rfl) 4 _ (by rfl) (w.heap.size + 1) 137 1 (by rfl) _ hC _ (by rfl) _ Try.underlying4 (by rfl) ?_; dsimp only)
      | (refine wpList_bstore (by rfl) _ _ _ (by rfl) w.heap.size 117 (by rfl) _ _ (by rfl) hR 9 (by rfl) (by kernel_rfl) (by rfl) (by intro x hx; simp at hx; rcases hx with rfl | rfl | rfl | rfl | rfl | rfl | rfl | rfl | rfl <;> rfl) ?_; intro w9 hR9 hU9; replace hR := hR9; replace hF := hF.upd hU9 (by omega); replace hC := hC.upd hU9 (by omega); replace hB := hU9.below hB (by omega); clear hR9 hU9)
      | (refine wpList_bload (by rfl) _ _ (by rfl) (w.heap.size + 2) 117 (by rfl) _ hF _ Try.underlying117 (by rfl) 9 (by rfl) (by kernel_rfl) ?_))
    exact bodyPost_ret (v := .tuple #[fdV (f), .bool true]) (results_box2 (by rfl) _ _ w.heap.size 117 _ _ _ (by rfl) hR (by rfl) Try.underlying117 (by rfl) 9 (by rfl) (by kernel_rfl)) rfl ⟨by rw [HN.out]; rfl, hB⟩

set_option maxRecDepth 100000 in
set_option maxHeartbeats 4000000 in
theorem foundIn_edit (s : List UInt8) (w : World) (hs : s.length ≤ 9223372036854775806) :
    Calls Try.prog 97 #[.string (str (3 :: s))] w fun e w' => e = .returned (foundV (recRd (3 :: s))) ∧ Below w.heap.size w w' := by
  have h0 : 0 < (str (3 :: s)).size := by rw [str_size]; simp
  have hx : (str (3 :: s)).extract 1 (str (3 :: s)).size = str s := by rw [str_extract, str_size]; simp
  have hne : (str (3 :: s)).toList.isEmpty = false := by rw [str_toList]; rfl
  have hk : ((str (3 :: s))[0]'h0).toNat = 3 := rfl
  have hle : (1 : Int) ≤ ((str (3 :: s)).size : Int) := by omega
  obtain ⟨hR, hC, hF, hW, hB⟩ := three_boxes w 117 137 117 fd0.cells.toArray (Cu.cells (s, false)).toArray fd0.cells.toArray
  have HE := rec_edit_eq s
  go_enter Try.func97, Try.ntmps97
  go_wp2_with fail
  refine (tkEdit_any (s, false) (w.heap.size + 1) _ hC (by simp only []; omega)).mono ?_
  rintro e w1 ⟨rfl, hC1, hT⟩
  replace hR := hR.but hT (Nat.lt_of_lt_of_le (by omega) (Nat.le_of_eq hW.symm)) (by omega)
  replace hF := hF.but hT (Nat.lt_of_lt_of_le (by omega) (Nat.le_of_eq hW.symm)) (by omega)
  replace hB := hT.below hB (Nat.le_trans (by omega) (Nat.le_of_eq hW.symm)) (by omega)
  replace hC := hC1
  clear hC1 hT hW hx hne hk hle
  generalize htk : tkEdit (s, false) = X at *
  clear htk
  obtain ⟨f, r, d⟩ := X
  cases d with
  | true =>
    have HN : Hid (recRd (3 :: s) = none) := HE
    clear HE
    go_wp2_with (first
      | (refine wpList_bstore (by rfl) _ _ _ (by rfl) (w.heap.size + 2) 117 (by rfl) _ _ (by rfl) hF 9 (by rfl) (by kernel_rfl) (by rfl) (by intro x hx; simp at hx; rcases hx with rfl | rfl | rfl | rfl | rfl | rfl | rfl | rfl | rfl <;> rfl) ?_; intro w9 hF9 hU9; replace hF := hF9; replace hR := hR.upd hU9 (by omega); replace hC := hC.upd hU9 (by omega); replace hB := hU9.below hB (by omega); clear hF9 hU9)
      | (refine wpList_bget (by rfl) 4 _ (by rfl) (w.heap.size + 1) 137 1 (by rfl) _ hC _ (by rfl) _ Try.underlying4 (by rfl) ?_; dsimp only)
      | (refine wpList_bstore (by rfl) _ _ _ (by rfl) w.heap.size 117 (by rfl) _ _ (by rfl) hR 9 (by rfl) (by kernel_rfl) (by rfl) (by intro x hx; simp at hx; rcases hx with rfl | rfl | rfl | rfl | rfl | rfl | rfl | rfl | rfl <;> rfl) ?_; intro w9 hR9 hU9; replace hR := hR9; replace hF := hF.upd hU9 (by omega); replace hC := hC.upd hU9 (by omega); replace hB := hU9.below hB (by omega); clear hR9 hU9)
      | (refine wpList_bload (by rfl) _ _ (by rfl) (w.heap.size + 2) 117 (by rfl) _ hF _ Try.underlying117 (by rfl) 9 (by rfl) (by kernel_rfl) ?_))
    exact bodyPost_ret (v := .tuple #[fdV (fd0), .bool false]) (results_box2 (by rfl) _ _ w.heap.size 117 _ _ _ (by rfl) hR (by rfl) Try.underlying117 (by rfl) 9 (by rfl) (by kernel_rfl)) rfl ⟨by rw [HN.out]; rfl, hB⟩
  | false =>
    have HN : Hid (recRd (3 :: s) = some f) := HE
    clear HE
    go_wp2_with (first
      | (refine wpList_bstore (by rfl) _ _ _ (by rfl) (w.heap.size + 2) 117 (by rfl) _ _ (by rfl) hF 9 (by rfl) (by kernel_rfl) (by rfl) (by intro x hx; simp at hx; rcases hx with rfl | rfl | rfl | rfl | rfl | rfl | rfl | rfl | rfl <;> rfl) ?_; intro w9 hF9 hU9; replace hF := hF9; replace hR := hR.upd hU9 (by omega); replace hC := hC.upd hU9 (by omega); replace hB := hU9.below hB (by omega); clear hF9 hU9)
      | (refine wpList_bget (by rfl) 4 _ (by rfl) (w.heap.size + 1) 137 1 (by rfl) _ hC _ (by rfl) _ Try.underlying4 (by rfl) ?_; dsimp only)
      | (refine wpList_bstore (by rfl) _ _ _ (by rfl) w.heap.size 117 (by rfl) _ _ (by rfl) hR 9 (by rfl) (by kernel_rfl) (by rfl) (by intro x hx; simp at hx; rcases hx with rfl | rfl | rfl | rfl | rfl | rfl | rfl | rfl | rfl <;> rfl) ?_; intro w9 hR9 hU9; replace hR := hR9; replace hF := hF.upd hU9 (by omega); replace hC := hC.upd hU9 (by omega); replace hB := hU9.below hB (by omega); clear hR9 hU9)
      | (refine wpList_bload (by rfl) _ _ (by rfl) (w.heap.size + 2) 117 (by rfl) _ hF _ Try.underlying117 (by rfl) 9 (by rfl) (by kernel_rfl) ?_))
    exact bodyPost_ret (v := .tuple #[fdV (f), .bool true]) (results_box2 (by rfl) _ _ w.heap.size 117 _ _ _ (by rfl) hR (by rfl) Try.underlying117 (by rfl) 9 (by rfl) (by kernel_rfl)) rfl ⟨by rw [HN.out]; rfl, hB⟩

set_option maxRecDepth 100000 in
set_option maxHeartbeats 4000000 in
theorem foundIn_nil (w : World) : Calls Try.prog 97 #[.string (str [])] w fun e w' => e = .returned (foundV (recRd [])) ∧ Below w.heap.size w w' := by
  have hne : (str []).toList.isEmpty = true := by rw [str_toList]; rfl
  have HN : Hid (recRd [] = none) := rfl
  obtain ⟨hR, hW, hB⟩ := one_box w 117 fd0.cells.toArray
  go_enter Try.func97, Try.ntmps97
  go_wp2_with fail
  exact bodyPost_ret (v := .tuple #[fdV (fd0), .bool false]) (results_box2 (by rfl) _ _ w.heap.size 117 _ _ _ (by rfl) hR (by rfl) Try.underlying117 (by rfl) 9 (by rfl) (by kernel_rfl)) rfl ⟨by rw [HN.out]; rfl, hB⟩

set_option maxRecDepth 100000 in
set_option maxHeartbeats 4000000 in
theorem foundIn_none (c : UInt8) (s : List UInt8) (w : World) (h1 : c ≠ 1) (h2 : c ≠ 2) (h3 : c ≠ 3) (h4 : c ≠ 4) :
    Calls Try.prog 97 #[.string (str (c :: s))] w fun e w' => e = .returned (foundV (recRd (c :: s))) ∧ Below w.heap.size w w' := by
  have h0 : 0 < (str (c :: s)).size := by rw [str_size]; simp
  have hx : (str (c :: s)).extract 1 (str (c :: s)).size = str s := by rw [str_extract, str_size]; simp
  have hne : (str (c :: s)).toList.isEmpty = false := by rw [str_toList]; rfl
  have e : ((str (c :: s))[0]'h0).toNat = c.toNat := rfl
  have ne (n : Nat) (d : UInt8) (hd : d.toNat = n) (h : c ≠ d) : ((((str (c :: s))[0]'h0).toNat : Int) == (n : Int)) = false := by
    rw [beq_eq_false_iff_ne, e]; intro e; exact h (UInt8.toNat_inj.1 (by omega))
  have n1 : ((((str (c :: s))[0]'h0).toNat : Int) == 1) = false := ne 1 1 rfl h1
  have n2 : ((((str (c :: s))[0]'h0).toNat : Int) == 2) = false := ne 2 2 rfl h2
  have n3 : ((((str (c :: s))[0]'h0).toNat : Int) == 3) = false := ne 3 3 rfl h3
  have n4 : ((((str (c :: s))[0]'h0).toNat : Int) == 4) = false := ne 4 4 rfl h4
  have hle : (1 : Int) ≤ ((str (c :: s)).size : Int) := by omega
  have HN : Hid (recRd (c :: s) = none) := by show _ = _; simp [recRd, h1, h2, h3, h4]
  obtain ⟨hR, hC, hF, hW, hB⟩ := three_boxes w 117 137 117 fd0.cells.toArray (Cu.cells (s, false)).toArray fd0.cells.toArray
  clear h1 h2 h3 h4 ne e
  go_enter Try.func97, Try.ntmps97
  go_wp2_with (first
      | (refine wpList_bput (by rfl) _ _ 4 (by rfl) (w.heap.size + 1) 137 1 (by rfl) _ (.bool true) (by rfl) hC (by kernel_rfl) (by simp) (by rfl) (by rfl) ?_; intro w9 hC9 hU9; replace hC := hC9; replace hR := hR.upd hU9 (by omega); replace hF := hF.upd hU9 (by omega); replace hB := hU9.below hB (by omega); clear hC9 hU9; dsimp only [List.set] at hC)
      | (refine wpList_bget (by rfl) 4 _ (by rfl) (w.heap.size + 1) 137 1 (by rfl) _ hC _ (by rfl) _ Try.underlying4 (by rfl) ?_; dsimp only)
      | (refine wpList_bstore (by rfl) _ _ _ (by rfl) w.heap.size 117 (by rfl) _ _ (by rfl) hR 9 (by rfl) (by kernel_rfl) (by rfl) (by intro x hx; simp at hx; rcases hx with rfl | rfl | rfl | rfl | rfl | rfl | rfl | rfl | rfl <;> rfl) ?_; intro w9 hR9 hU9; replace hR := hR9; replace hF := hF.upd hU9 (by omega); replace hC := hC.upd hU9 (by omega); replace hB := hU9.below hB (by omega); clear hR9 hU9)
      | (refine wpList_bload (by rfl) _ _ (by rfl) (w.heap.size + 2) 117 (by rfl) _ hF _ Try.underlying117 (by rfl) 9 (by rfl) (by kernel_rfl) ?_))
  exact bodyPost_ret (v := .tuple #[fdV (fd0), .bool false]) (results_box2 (by rfl) _ _ w.heap.size 117 _ _ _ (by rfl) hR (by rfl) Try.underlying117 (by rfl) 9 (by rfl) (by kernel_rfl)) rfl ⟨by rw [HN.out]; rfl, hB⟩

theorem foundIn_any (s : List UInt8) (w : World) (hs : s.length ≤ 9223372036854775806) :
    Calls Try.prog 97 #[.string (str s)] w fun e w' => e = .returned (foundV (recRd s)) ∧ Below w.heap.size w w' := by
  match s, hs with
  | [], _ => exact foundIn_nil w
  | c :: s, hs =>
    have hs' : s.length ≤ 9223372036854775806 := by simp at hs; omega
    by_cases h1 : c = 1
    · subst h1; exact foundIn_clock s w hs'
    · by_cases h2 : c = 2
      · subst h2; exact foundIn_card s w hs'
      · by_cases h3 : c = 3
        · subst h3; exact foundIn_edit s w hs'
        · by_cases h4 : c = 4
          · subst h4; exact foundIn_head s w hs'
          · exact foundIn_none c s w h1 h2 h3 h4
end Go.Proofs.Ytdjpkgaicmklmab

/- Records read back: the reference's record, walked (heads). -/
namespace Go.Proofs.Ytdjpkgaicmklmab
open Go.RowKit

end Go.Proofs.Ytdjpkgaicmklmab

/- Records read back: the reference's record, walked (clocks). -/
namespace Go.Proofs.Ytdjpkgaicmklmab
open Go.RowKit

end Go.Proofs.Ytdjpkgaicmklmab

/- Records read back: the reference's record, walked (cards). -/
namespace Go.Proofs.Ytdjpkgaicmklmab
open Go.RowKit

end Go.Proofs.Ytdjpkgaicmklmab

/- Records read back: the reference's record, walked (the rest). -/
namespace Go.Proofs.Ytdjpkgaicmklmab
open Go.RowKit

end Go.Proofs.Ytdjpkgaicmklmab

/- Frames read back: the reference's stands, walked. -/
namespace Go.Proofs.Ytdjpkgaicmklmab
open Go.RowKit

/-- The frame with which bytes begin: its record, and how many bytes it has. -/
def standRd : List UInt8 → Option (Fd × Nat)
  | x :: y :: k :: t => if x = 245 ∧ y = 95 then
      if k.toNat = 0 ∨ t.length < k.toNat + 4 then none
      else if fourI (crc pSum (k :: t.take k.toNat)) = (t.drop k.toNat).take 4 then (recRd (t.take k.toNat)).map fun f => (f, k.toNat + 7) else none
    else none
  | _ => none
def Fd.putI (f : Fd) (a : Int) : Fd := { f with at_ := a }
/-- What stands answers at a place. -/
def standV (a : Int) (x : Option (Fd × Nat)) : Value := match x with
  | some (f, n) => .tuple #[fdV (f.putI a), .int .i64 (n : Nat)]
  | none => .tuple #[fdV fd0, .int .i64 0]


theorem standRd_short (s : List UInt8) (h : s.length < 8) : standRd s = none := by
  match s, h with
  | [], _ | [_], _ | [_, _], _ => rfl
  | x :: y :: k :: t, h =>
    simp only [standRd]
    split
    · split
      · rfl
      · rename_i h2; simp at h; omega
    · rfl

end Go.Proofs.Ytdjpkgaicmklmab

/- The program's FrameAt, walked. -/
namespace Go.Proofs.Ytdjpkgaicmklmab
open Go.RowKit

set_option maxRecDepth 100000 in
set_option maxHeartbeats 4000000 in
theorem frameAt_any (b : List UInt8) (i : Nat) (w : World) (hb : b.length ≤ 1099511627776) (hi : i ≤ b.length) :
    Calls Try.prog 81 #[.string (str b), .int .i64 i] w fun e w' => e = .returned (standV i (standRd (b.drop i))) ∧ Below w.heap.size w w' := by
  have hz := str_size b
  have HZ : Hid ((str b).size = b.length) := hz
  obtain ⟨hR, hW, hB⟩ := one_box w 117 fd0.cells.toArray
  have hib : i ≤ (str b).size := by omega
  have hbb : (str b).size ≤ 1099511627776 := by omega
  by_cases h8 : (str b).size ≤ i + 2
  · have HN : Hid (standRd (b.drop i) = none) := standRd_short _ (by simp; omega)
    clear hz
    go_enter Try.func81, Try.ntmps81
    go_wp2_with fail
    exact bodyPost_ret (v := .tuple #[fdV fd0, .int .i64 0]) (results_box2 (by rfl) _ _ w.heap.size 117 _ _ _ (by rfl) hR (by rfl) Try.underlying117 (by rfl) 9 (by rfl) (by kernel_rfl)) rfl ⟨by rw [HN.out]; rfl, hB⟩
  · obtain ⟨x, y, k, t, hd, ht⟩ : ∃ x y k t, b.drop i = x :: y :: k :: t ∧ t.length + 3 + i = b.length := by
      have hl : (b.drop i).length = b.length - i := by simp
      match hh : b.drop i with
      | [] | [_] | [_, _] => rw [hh] at hl; simp at hl; omega
      | x :: y :: k :: t => exact ⟨x, y, k, t, rfl, by rw [hh] at hl; simp at hl; omega⟩
    have l2 : i + 2 < (str b).size := by omega
    have ek : ((str b)[i + 2]'l2) = k := by
      have hv : (b.drop i)[2]? = some k := by rw [hd]; rfl
      rw [List.getElem?_drop] at hv
      exact (List.getElem?_eq_some_iff.1 hv).2
    have x0 : (str b).extract i (i + 2) = str [x, y] := by rw [str_extract, hd, show i + 2 - i = 2 by omega]; rfl
    rw [hd]
    by_cases hxy : x = 245 ∧ y = 95
    · obtain ⟨hx, hy⟩ := hxy
      subst hx hy
      have hmk : ((str [245, 95]).toList == [245, 95]) = true := by rw [str_toList]; rfl
      have hkl := k.toNat_lt
      have hk' : wrap64 (((str b)[i + 2]'l2).toNat : Int) = (k.toNat : Int) := by rw [ek]; unfold wrap64; omega
      clear ek
      by_cases hn : (str b).size < i + k.toNat + 7
      · have HN : Hid (standRd (245 :: 95 :: k :: t) = none) := by show _ = _; simp only [standRd]; simp [show t.length < k.toNat + 4 by omega]
        clear hz hd
        go_enter Try.func81, Try.ntmps81
        go_wp2_with fail
        exact bodyPost_ret (v := .tuple #[fdV fd0, .int .i64 0]) (results_box2 (by rfl) _ _ w.heap.size 117 _ _ _ (by rfl) hR (by rfl) Try.underlying117 (by rfl) 9 (by rfl) (by kernel_rfl)) rfl ⟨by rw [HN.out]; rfl, hB⟩
      · have hdt (j : Nat) : b.drop (i + (j + 3)) = t.drop j := by rw [← List.drop_drop, hd]; rfl
        have x1 : (str b).extract (i + 2 + 1) (i + 2 + 1 + k.toNat) = str (t.take k.toNat) := by rw [str_extract, show i + 2 + 1 = i + (0 + 3) by omega, hdt 0]; simp
        have x2 : (str b).extract (i + 2) (i + 2 + 1 + k.toNat) = str (k :: t.take k.toNat) := by
          rw [str_extract, ← List.drop_drop, hd, show i + 2 + 1 + k.toNat - (i + 2) = k.toNat + 1 by omega]; rfl
        have x3 : (str b).extract (i + 2 + 1 + k.toNat) (i + 2 + 1 + k.toNat + 4) = str ((t.drop k.toNat).take 4) := by
          rw [str_extract, show i + 2 + 1 + k.toNat = i + (k.toNat + 3) by omega, hdt, show i + (k.toNat + 3) + 4 - (i + (k.toNat + 3)) = 4 by omega]
        have hlt : (k :: t.take k.toNat).length ≤ 9223372036854775807 := by simp; omega
        have hlr : (t.take k.toNat).length ≤ 9223372036854775806 := by simp; omega
        have hl4 : ((t.drop k.toNat).take 4).length = 4 := by simp; omega
        have hfl : ¬ t.length < k.toNat + 4 := by omega
        have HL : Hid (t.length + 3 + i = (str b).size) := by show _ = _; omega
        clear hz hd hdt
        go_enter Try.func81, Try.ntmps81
        go_wp2_with fail
        refine (foundIn_any (t.take k.toNat) _ hlr).mono ?_
        rintro e w1 ⟨rfl, hb1⟩
        replace hR := hR.below hb1 hR.lt
        replace hB := hB.trans (hb1.mono (Nat.le_trans (Nat.le_succ _) (Nat.le_of_eq hW.symm)))
        clear hb1
        cases hf : recRd (t.take k.toNat) with
        | none =>
          have HN : Hid (standRd (245 :: 95 :: k :: t) = none) := by
            show _ = _; simp only [standRd, hf]; simp
          clear hf
          simp only [foundV]
          go_wp2_with (first
            | (refine wpList_bstore (by rfl) _ _ _ (by rfl) w.heap.size 117 (by rfl) _ _ (by rfl) hR 9 (by rfl) (by kernel_rfl) (by rfl) (by intro x hx; simp at hx; rcases hx with rfl | rfl | rfl | rfl | rfl | rfl | rfl | rfl | rfl <;> rfl) ?_; intro w9 hR9 hU9; replace hR := hR9; replace hB := hU9.below hB (Nat.le_refl _); clear hR9 hU9)
            | (refine wpList_bstore (by rfl) _ _ _ (by rfl) w.heap.size 117 (by rfl) _ _ (by rfl) (hR.alloc _) 9 (by rfl) (by kernel_rfl) (by rfl) (by intro x hx; simp at hx; rcases hx with rfl | rfl | rfl | rfl | rfl | rfl | rfl | rfl | rfl <;> rfl) ?_; intro w9 hR9 hU9; replace hR := hR9; replace hB := hU9.below (hB.alloc hB.size _) (Nat.le_refl _); clear hR9 hU9))
          exact bodyPost_ret (v := .tuple #[fdV fd0, .int .i64 0]) (results_box2 (by rfl) _ _ w.heap.size 117 _ _ _ (by rfl) hR (by rfl) Try.underlying117 (by rfl) 9 (by rfl) (by kernel_rfl)) rfl ⟨by rw [HN.out]; rfl, hB⟩
        | some f =>
          have hk0 : k.toNat ≠ 0 := by
            intro h0
            rw [h0] at hf
            simp [recRd] at hf
          have hfl2 : ¬ (k.toNat = 0 ∨ t.length < k.toNat + 4) := by omega
          simp only [foundV]
          go_wp2_with fail
          refine (sum_any (k :: t.take k.toNat) _ hlt).mono ?_
          rintro e w2 ⟨rfl, hw2⟩
          subst hw2
          go_wp2_with fail
          refine (fromFour_any ((t.drop k.toNat).take 4) _ hl4).mono ?_
          rintro e w3 ⟨rfl, hw3⟩
          subst hw3
          have hc := crc_lt (p := pSum) (by decide) (k :: t.take k.toNat)
          have hiff := fourRd_iff hl4 (crc pSum (k :: t.take k.toNat)) (by omega) (by omega)
          by_cases hq : fourRd ((t.drop k.toNat).take 4) = (crc pSum (k :: t.take k.toNat) : Int)
          · have hqb : (fourRd ((t.drop k.toNat).take 4) != (crc pSum (k :: t.take k.toNat) : Int)) = false := by rw [hq]; simp
            have HN : Hid (standRd (245 :: 95 :: k :: t) = some (f, k.toNat + 7)) := by
              show _ = _; simp only [standRd, if_neg hfl2, if_pos (hiff.1 hq)]; rw [hf]; rfl
            clear hf hiff
            go_wp2_with (first
              | (refine wpList_bstore (by rfl) _ _ _ (by rfl) w.heap.size 117 (by rfl) _ _ (by rfl) hR 9 (by rfl) (by kernel_rfl) (by rfl) (by intro x hx; simp at hx; rcases hx with rfl | rfl | rfl | rfl | rfl | rfl | rfl | rfl | rfl <;> rfl) ?_; intro w9 hR9 hU9; replace hR := hR9; replace hB := hU9.below hB (Nat.le_refl _); clear hR9 hU9)
              | (refine wpList_bstore (by rfl) _ _ _ (by rfl) w.heap.size 117 (by rfl) _ _ (by rfl) (hR.alloc _) 9 (by rfl) (by kernel_rfl) (by rfl) (by intro x hx; simp at hx; rcases hx with rfl | rfl | rfl | rfl | rfl | rfl | rfl | rfl | rfl <;> rfl) ?_; intro w9 hR9 hU9; replace hR := hR9; replace hB := hU9.below (hB.alloc hB.size _) (Nat.le_refl _); clear hR9 hU9))
            exact bodyPost_ret (v := .tuple #[fdV (f.putI i), .int .i64 ((i : Int) + 2 + 1 + (k.toNat : Int) + 4 - (i : Int))]) (results_box2 (by rfl) _ _ w.heap.size 117 _ _ _ (by rfl) hR (by rfl) Try.underlying117 (by rfl) 9 (by rfl) (by kernel_rfl)) rfl ⟨by rw [HN.out]; simp only [standV]; rw [show ((i : Int) + 2 + 1 + (k.toNat : Int) + 4 - (i : Int)) = ((k.toNat + 7 : Nat) : Int) by omega], hB⟩
          · have hqb : (fourRd ((t.drop k.toNat).take 4) != (crc pSum (k :: t.take k.toNat) : Int)) = true := by rw [bne_iff_ne]; exact hq
            have HN : Hid (standRd (245 :: 95 :: k :: t) = none) := by
              show _ = _; simp only [standRd, if_neg hfl2, if_neg (fun h => hq (hiff.2 h))]; rfl
            clear hf hiff hq
            go_wp2_with (first
              | (refine wpList_bstore (by rfl) _ _ _ (by rfl) w.heap.size 117 (by rfl) _ _ (by rfl) hR 9 (by rfl) (by kernel_rfl) (by rfl) (by intro x hx; simp at hx; rcases hx with rfl | rfl | rfl | rfl | rfl | rfl | rfl | rfl | rfl <;> rfl) ?_; intro w9 hR9 hU9; replace hR := hR9; replace hB := hU9.below hB (Nat.le_refl _); clear hR9 hU9)
              | (refine wpList_bstore (by rfl) _ _ _ (by rfl) w.heap.size 117 (by rfl) _ _ (by rfl) (hR.alloc _) 9 (by rfl) (by kernel_rfl) (by rfl) (by intro x hx; simp at hx; rcases hx with rfl | rfl | rfl | rfl | rfl | rfl | rfl | rfl | rfl <;> rfl) ?_; intro w9 hR9 hU9; replace hR := hR9; replace hB := hU9.below (hB.alloc hB.size _) (Nat.le_refl _); clear hR9 hU9))
            exact bodyPost_ret (v := .tuple #[fdV fd0, .int .i64 0]) (results_box2 (by rfl) _ _ w.heap.size 117 _ _ _ (by rfl) hR (by rfl) Try.underlying117 (by rfl) 9 (by rfl) (by kernel_rfl)) rfl ⟨by rw [HN.out]; rfl, hB⟩
    · have hmk : ((str [x, y]).toList == [245, 95]) = false := by
        rw [str_toList, beq_eq_false_iff_ne]; simpa using hxy
      have HN : Hid (standRd (x :: y :: k :: t) = none) := by show _ = _; simp only [standRd, if_neg hxy]
      clear hz hd ek hxy
      go_enter Try.func81, Try.ntmps81
      go_wp2_with fail
      exact bodyPost_ret (v := .tuple #[fdV fd0, .int .i64 0]) (results_box2 (by rfl) _ _ w.heap.size 117 _ _ _ (by rfl) hR (by rfl) Try.underlying117 (by rfl) 9 (by rfl) (by kernel_rfl)) rfl ⟨by rw [HN.out]; rfl, hB⟩
end Go.Proofs.Ytdjpkgaicmklmab

/- Salvage, of the reference and of the program, walked. -/
namespace Go.Proofs.Ytdjpkgaicmklmab
open Go.RowKit

/-- What is found from a place on. -/
def salvF : Nat → Nat → List UInt8 → List Fd
  | 0, _, _ => []
  | k + 1, i, s => if s = [] then [] else match standRd s with
    | some (f, n) => f.putI i :: salvF k (i + n) (s.drop n)
    | none => salvF k (i + 1) (s.drop 1)
def salv (b : List UInt8) : List Fd := salvF b.length 0 b
theorem salvF_nil (k i : Nat) : salvF k i [] = [] := by cases k <;> rfl
theorem salvF_none {k i : Nat} {s : List UInt8} (hne : s ≠ []) (h : standRd s = none) : salvF (k + 1) i s = salvF k (i + 1) (s.drop 1) := by simp only [salvF, if_neg hne, h]
theorem salvF_some {k i : Nat} {s : List UInt8} {f : Fd} {n : Nat} (hne : s ≠ []) (h : standRd s = some (f, n)) : salvF (k + 1) i s = f.putI i :: salvF k (i + n) (s.drop n) := by simp only [salvF, if_neg hne, h]
theorem standRd_le {s : List UInt8} {f : Fd} {n : Nat} (h : standRd s = some (f, n)) : 7 < n ∧ n ≤ s.length := by
  match s, h with
  | x :: y :: k :: t, h =>
    simp only [standRd] at h
    split at h
    · split at h
      · cases h
      · split at h
        · cases hr : recRd (t.take k.toNat) with
          | none => rw [hr] at h; cases h
          | some g => rw [hr] at h; simp at h; obtain ⟨_, rfl⟩ := h; simp; omega
        · cases h
    · cases h
theorem onesF (f : Fd) : ∀ v, v ∈ f.cells → v.oneCell' = true := by intro v h; simp at h; rcases h with rfl | rfl | rfl | rfl | rfl | rfl | rfl | rfl | rfl <;> rfl

end Go.Proofs.Ytdjpkgaicmklmab

/- The reference's bundle, walked. -/
namespace Go.Proofs.Ytdjpkgaicmklmab
open Go.RowKit
attribute [local go_sem] str_size str_append mk_append_str str_append_mk

end Go.Proofs.Ytdjpkgaicmklmab

/- parcellaw.handed: a copy of a replica with spare room, walked. -/
namespace Go.Proofs.Ytdjpkgaicmklmab
open Go.RowKit

abbrev mk1 : List Value := [.int .i64 (-7), .int .i64 0]
abbrev mk2 : List Value := [.int .i64 (-7), .int .i64 0, .int .i64 0, .bool false, .string ⟨#[]⟩]
abbrev mk3 : List Value := [.int .i64 (-7), .string ⟨#[]⟩]
abbrev z1 : List Value := [.int .i64 0, .int .i64 0]
abbrev z2 : List Value := [.int .i64 0, .int .i64 0, .int .i64 0, .bool false, .string ⟨#[]⟩]
abbrev z3 : List Value := [.int .i64 0, .string ⟨#[]⟩]

/-- A copy of a replica, with two marks behind each row. -/
structure Handed (w : World) (R : Rep) (b1 b2 b3 : Option Addr) (g1 g2 g3 : Nat) : Prop where
  e1 : b1 = some ⟨g1, 0, none⟩
  e2 : b2 = some ⟨g2, 0, none⟩
  e3 : b3 = some ⟨g3, 0, none⟩
  o1 : Own w g1 72 2 ((List.range R.n1).map (fun i => (R.c i).cells) ++ [mk1, mk1])
  o2 : Own w g2 68 5 ((List.range R.n2).map (fun i => (R.d i).cells) ++ [mk2, mk2])
  o3 : Own w g3 61 2 ((List.range R.n3).map (fun i => (R.e i).cells) ++ [mk3, mk3])
  d12 : g1 < g2
  d23 : g2 < g3

/-- Two places behind a row, the first i of them marked. -/
def mrk (i : Nat) (m z : List Value) : List (List Value) := if i = 0 then [z, z] else if i = 1 then [m, z] else [m, m]
theorem mrk_start (n : Nat) (f : Nat → List Value) (m z : List Value) : (List.range n).map f ++ (List.replicate (n + 2) z).drop n = (List.range n).map f ++ mrk 0 m z := by
  congr 1
  rw [List.drop_replicate, show n + 2 - n = 2 by omega]; rfl
theorem mrk_length (n i : Nat) (f : Nat → List Value) (m z : List Value) : ((List.range n).map f ++ mrk i m z).length = n + 2 := by
  unfold mrk; split; (simp); split <;> simp
theorem mrk_step (n i : Nat) (f : Nat → List Value) (m z : List Value) (hi : i < 2) : ((List.range n).map f ++ mrk i m z).set (n + i) m = (List.range n).map f ++ mrk (i + 1) m z := by
  rw [List.set_append]
  simp only [List.length_map, List.length_range]
  rw [if_neg (by omega), show n + i - n = i by omega]
  congr 1
  rcases (by omega : i = 0 ∨ i = 1) with rfl | rfl <;> rfl
theorem mrk_end (m z : List Value) : mrk 2 m z = [m, m] := rfl

/-- The world behind the parameter's box and the result's cell. -/
abbrev W2 (w : World) (R : Rep) (a1 a2 a3 : Option Addr) (k1 k2 k3 : Nat) : World :=
  (w.alloc (.cells #[.slice a1 R.n1 k1, .slice a2 R.n2 k2, .slice a3 R.n3 k3] 28)).alloc (.cells #[.slice none 0 0, .slice none 0 0, .slice none 0 0] 28)
abbrev Box2 (w : World) (R : Rep) (a1 a2 a3 : Option Addr) (k1 k2 k3 : Nat) (wr : World) : Prop := Below (w.heap.size + 2) (W2 w R a1 a2 a3 k1 k2 k3) wr

theorem Box2.cells {w : World} {R : Rep} {a1 a2 a3 : Option Addr} {k1 k2 k3 : Nat} {wr : World} (hb : Box2 w R a1 a2 a3 k1 k2 k3 wr) :
    wr.cell? ⟨w.heap.size, 0, none⟩ = some (.slice a1 R.n1 k1) ∧ wr.cell? ⟨w.heap.size, 1, none⟩ = some (.slice a2 R.n2 k2) ∧ wr.cell? ⟨w.heap.size, 2, none⟩ = some (.slice a3 R.n3 k3) := by
  refine ⟨?_, ?_, ?_⟩
  · rw [hb.cell (p := ⟨w.heap.size, 0, none⟩) (by simp)]; simp
  · rw [hb.cell (p := ⟨w.heap.size, 1, none⟩) (by simp)]; simp
  · rw [hb.cell (p := ⟨w.heap.size, 2, none⟩) (by simp)]; simp
theorem Box2.size {w : World} {R : Rep} {a1 a2 a3 : Option Addr} {k1 k2 k3 : Nat} {wr : World} (hb : Box2 w R a1 a2 a3 k1 k2 k3 wr) : w.heap.size + 2 ≤ wr.heap.size := by
  have := Below.size hb; simpa using this
theorem Box2.res {w : World} {R : Rep} {a1 a2 a3 : Option Addr} {k1 k2 k3 : Nat} {wr : World} (hb : Box2 w R a1 a2 a3 k1 k2 k3 wr) :
    (wr.cell? ⟨w.heap.size + 1, 0, none⟩ = some (.slice none 0 0) ∧ wr.cell? ⟨w.heap.size + 1, 1, none⟩ = some (.slice none 0 0) ∧ wr.cell? ⟨w.heap.size + 1, 2, none⟩ = some (.slice none 0 0)) ∧
    (∀ j, wr.frozen? ⟨w.heap.size + 1, j, none⟩ = false) := by
  refine ⟨⟨?_, ?_, ?_⟩, fun j => ?_⟩
  · rw [hb.cell (p := ⟨w.heap.size + 1, 0, none⟩) (by simp)]; simp
  · rw [hb.cell (p := ⟨w.heap.size + 1, 1, none⟩) (by simp)]; simp
  · rw [hb.cell (p := ⟨w.heap.size + 1, 2, none⟩) (by simp)]; simp
  · rw [hb.frozen (p := ⟨w.heap.size + 1, j, none⟩) (by simp)]; simp
theorem Box2.old {w : World} {R : Rep} {a1 a2 a3 : Option Addr} {k1 k2 k3 : Nat} {wr : World} (hb : Box2 w R a1 a2 a3 k1 k2 k3 wr) : Below w.heap.size w wr :=
  (((Below.refl _ w).alloc (Nat.le_refl _) _).alloc (by simp) _).trans (hb.mono (by omega))
theorem Box2.step {w : World} {R : Rep} {a1 a2 a3 : Option Addr} {k1 k2 k3 : Nat} {wr w' : World} (hb : Box2 w R a1 a2 a3 k1 k2 k3 wr) (h : Below wr.heap.size wr w') : Box2 w R a1 a2 a3 k1 k2 k3 w' :=
  Below.trans hb (h.mono hb.size)

theorem set3 (wr : World) (b : Nat) (x y z u0 u1 u2 : Value) (h0 : wr.cell? ⟨b, 0, none⟩ = some u0) (h1 : wr.cell? ⟨b, 1, none⟩ = some u1) (h2 : wr.cell? ⟨b, 2, none⟩ = some u2) :
    ∃ X, X = (((wr.setCell ⟨b, 0, none⟩ x).setCell ⟨b, 1, none⟩ y).setCell ⟨b, 2, none⟩ z).drew ∧ X.cell? ⟨b, 0, none⟩ = some x ∧ X.cell? ⟨b, 1, none⟩ = some y ∧ X.cell? ⟨b, 2, none⟩ = some z ∧ Upd b wr X := by
  refine ⟨_, rfl, ?_, ?_, ?_, ((((Upd.refl b wr).setCell ⟨b, 0, none⟩ rfl x).setCell ⟨b, 1, none⟩ rfl y).setCell ⟨b, 2, none⟩ rfl z).drew⟩ <;> simp [go_sem, h0, h1, h2]
theorem cells_len1 (x : Ck) : x.cells.length = 2 := rfl
theorem ones1 (x : Ck) : ∀ v, v ∈ x.cells → v.oneCell' = true := by intro v h; simp at h; rcases h with rfl | rfl <;> rfl
theorem ones2 (x : Cd) : ∀ v, v ∈ x.cells → v.oneCell' = true := by intro v h; simp at h; rcases h with rfl | rfl | rfl | rfl | rfl <;> rfl
theorem ones3 (x : Ed) : ∀ v, v ∈ x.cells → v.oneCell' = true := by intro v h; simp at h; rcases h with rfl | rfl <;> rfl

end Go.Proofs.Ytdjpkgaicmklmab

/- parcellaw.sameReplica and parcellaw.still, walked, where the two replicas are the same. -/
namespace Go.Proofs.Ytdjpkgaicmklmab
open Go.RowKit

/-- Two boxes. -/
abbrev BoxS (w : World) (R : Rep) (a1 a2 a3 b1 b2 b3 : Option Addr) (k1 k2 k3 l1 l2 l3 : Nat) (wr : World) : Prop :=
  Below (w.heap.size + 2) ((w.alloc (.cells #[.slice a1 R.n1 k1, .slice a2 R.n2 k2, .slice a3 R.n3 k3] 28)).alloc (.cells #[.slice b1 R.n1 l1, .slice b2 R.n2 l2, .slice b3 R.n3 l3] 28)) wr

theorem BoxS.cells {w : World} {R : Rep} {a1 a2 a3 b1 b2 b3 : Option Addr} {k1 k2 k3 l1 l2 l3 : Nat} {wr : World} (hb : BoxS w R a1 a2 a3 b1 b2 b3 k1 k2 k3 l1 l2 l3 wr) :
    (wr.cell? ⟨w.heap.size, 0, none⟩ = some (.slice a1 R.n1 k1) ∧ wr.cell? ⟨w.heap.size, 1, none⟩ = some (.slice a2 R.n2 k2) ∧ wr.cell? ⟨w.heap.size, 2, none⟩ = some (.slice a3 R.n3 k3)) ∧
    wr.cell? ⟨w.heap.size + 1, 0, none⟩ = some (.slice b1 R.n1 l1) ∧ wr.cell? ⟨w.heap.size + 1, 1, none⟩ = some (.slice b2 R.n2 l2) ∧ wr.cell? ⟨w.heap.size + 1, 2, none⟩ = some (.slice b3 R.n3 l3) := by
  refine ⟨⟨?_, ?_, ?_⟩, ?_, ?_, ?_⟩
  · rw [hb.cell (p := ⟨w.heap.size, 0, none⟩) (by simp)]; simp
  · rw [hb.cell (p := ⟨w.heap.size, 1, none⟩) (by simp)]; simp
  · rw [hb.cell (p := ⟨w.heap.size, 2, none⟩) (by simp)]; simp
  · rw [hb.cell (p := ⟨w.heap.size + 1, 0, none⟩) (by simp)]; simp
  · rw [hb.cell (p := ⟨w.heap.size + 1, 1, none⟩) (by simp)]; simp
  · rw [hb.cell (p := ⟨w.heap.size + 1, 2, none⟩) (by simp)]; simp
theorem BoxS.old {w : World} {R : Rep} {a1 a2 a3 b1 b2 b3 : Option Addr} {k1 k2 k3 l1 l2 l3 : Nat} {wr : World} (hb : BoxS w R a1 a2 a3 b1 b2 b3 k1 k2 k3 l1 l2 l3 wr) : Below w.heap.size w wr :=
  (((Below.refl _ w).alloc (Nat.le_refl _) _).alloc (by simp) _).trans (hb.mono (by omega))
theorem BoxS.size {w : World} {R : Rep} {a1 a2 a3 b1 b2 b3 : Option Addr} {k1 k2 k3 l1 l2 l3 : Nat} {wr : World} (hb : BoxS w R a1 a2 a3 b1 b2 b3 k1 k2 k3 l1 l2 l3 wr) : w.heap.size + 2 ≤ wr.heap.size := by
  have := Below.size hb; simpa using this

theorem Own.mark {w : World} {g e m n i : Nat} {f : Nat → List Value} {mk : List Value} (h : Own w g e m ((List.range n).map f ++ [mk, mk])) (hi : i < 2) (hm : 0 < m) {v : Value} (hv : mk[0]? = some v) : w.cell? ⟨g, (n + i) * m, none⟩ = some v := by
  have hc := h.cell (n + i) 0 (by simp; omega) hm
  rw [Nat.add_zero] at hc
  rw [hc]
  have hg : ((List.range n).map f ++ [mk, mk]).getD (n + i) [] = mk := by
    rw [List.getD, List.getElem?_append_right (by simp)]
    simp only [List.length_map, List.length_range, show n + i - n = i by omega]
    rcases (by omega : i = 0 ∨ i = 1) with rfl | rfl <;> rfl
  rw [hg, hv]

theorem Handed.has {w : World} {R : Rep} {a1 a2 a3 b1 b2 b3 : Option Addr} {g1 g2 g3 : Nat} (h : Handed w R b1 b2 b3 g1 g2 g3) {w0 : World} (hR : Has w0 R a1 a2 a3) : Has w R b1 b2 b3 := by
  refine ⟨?_, ?_, ?_, hR.b1, hR.b2, hR.b3, hR.y1, hR.y2, hR.y3⟩
  · rw [h.e1]; refine h.o1.lies R.n1 _ (by simp) fun i hi => ?_
    rw [List.getD, List.getElem?_append_left (by simpa using hi)]; simp [hi]
  · rw [h.e2]; refine h.o2.lies R.n2 _ (by simp) fun i hi => ?_
    rw [List.getD, List.getElem?_append_left (by simpa using hi)]; simp [hi]
  · rw [h.e3]; refine h.o3.lies R.n3 _ (by simp) fun i hi => ?_
    rw [List.getD, List.getElem?_append_left (by simpa using hi)]; simp [hi]

theorem Handed.below {w w' : World} {R : Rep} {b1 b2 b3 : Option Addr} {g1 g2 g3 : Nat} (h : Handed w R b1 b2 b3 g1 g2 g3) (hb : Below w.heap.size w w') : Handed w' R b1 b2 b3 g1 g2 g3 :=
  ⟨h.e1, h.e2, h.e3, h.o1.below hb h.o1.lt, h.o2.below hb h.o2.lt, h.o3.below hb h.o3.lt, h.d12, h.d23⟩

theorem boxS_step {w : World} {R : Rep} {a1 a2 a3 b1 b2 b3 : Option Addr} {k1 k2 k3 l1 l2 l3 : Nat} {wr w' : World} (hb : BoxS w R a1 a2 a3 b1 b2 b3 k1 k2 k3 l1 l2 l3 wr) (h : Below wr.heap.size wr w') : BoxS w R a1 a2 a3 b1 b2 b3 k1 k2 k3 l1 l2 l3 w' :=
  Below.trans hb (h.mono hb.size)

end Go.Proofs.Ytdjpkgaicmklmab

/- parcelref.numbered, walked. -/
namespace Go.Proofs.Ytdjpkgaicmklmab
open Go.RowKit

end Go.Proofs.Ytdjpkgaicmklmab

/- parcelref.texted, walked. -/
namespace Go.Proofs.Ytdjpkgaicmklmab
open Go.RowKit

end Go.Proofs.Ytdjpkgaicmklmab

/- parcelref.rising, walked. -/
namespace Go.Proofs.Ytdjpkgaicmklmab
open Go.RowKit

end Go.Proofs.Ytdjpkgaicmklmab

/- parcelref.Clocked, walked. -/
namespace Go.Proofs.Ytdjpkgaicmklmab
open Go.RowKit

end Go.Proofs.Ytdjpkgaicmklmab

/- sound.wrongNumber, walked. -/
namespace Go.Proofs.Ytdjpkgaicmklmab
open Go.RowKit

set_option maxHeartbeats 2000000 in
theorem wrongNumber_any (R : Rep) (a1 a2 a3 : Option Addr) (k1 k2 k3 : Nat) (w : World) (hR : Has w R a1 a2 a3) :
    Calls Try.prog 42 #[repV R a1 a2 a3 k1 k2 k3] w fun e w' => e = .returned (.bool R.numB) ∧ Below w.heap.size w w' := by
  have b1 := hR.b1; have b2 := hR.b2; have b3 := hR.b3
  go_enter Try.func42, Try.ntmps42
  go_wp2
  go_loopw [3] (fun i wr => ∃ k : Nat, k ≤ R.n1 ∧ i = .int .i64 k ∧ anyTo R.num1 k = false ∧ BoxR w R a1 a2 a3 k1 k2 k3 wr) (fun i _ => R.n1 - (intOf i).toNat)
  case atStart => exact ⟨0, Nat.zero_le _, rfl, rfl, Below.refl _ _⟩
  case round =>
    obtain ⟨k, hk, rfl, hno, hb⟩ := hrel
    obtain ⟨x1, x2, x3⟩ := box3 hb
    have HN : Hid (anyTo R.num1 k = false) := hno
    clear hno
    by_cases hlt : k < R.n1
    · obtain ⟨b, o, hbl, hix, hs, hc⟩ := (hR.below (below_box hb)).l1.clock k1 hlt
      go_wp2
      go_quiet ((go_at_call 71; exact Calls.quiet_of_same (wrongSiteOrCount_any _ _ _)))
      go_wp2
      · have hp : R.num1 k = true := by unfold Rep.num1; assumption
        go_ret
        exact ⟨ret_bool (by simp [Rep.numB, anyTo_hit hlt hp]), below_drewN (below_box hb) _⟩
      · have hp : R.num1 k = false := by unfold Rep.num1; assumption
        go_roundw
        case rel => exact ⟨k + 1, by omega, by go_num, anyTo_no HN.out hp, below_drewN hb _⟩
        case measure => simp [intOf]; omega
    · have e1 : k = R.n1 := by omega
      have N1 : Hid (anyTo R.num1 R.n1 = false) := e1 ▸ HN.out
      clear HN e1
      go_wp2
      go_loopw [4] (fun i wr => ∃ k : Nat, k ≤ R.n2 ∧ i = .int .i64 k ∧ anyTo R.num2 k = false ∧ BoxR w R a1 a2 a3 k1 k2 k3 wr) (fun i _ => R.n2 - (intOf i).toNat)
      case atStart => exact ⟨0, Nat.zero_le _, rfl, rfl, hb⟩
      case round =>
        clear x1 x2 x3 hb hk
        obtain ⟨k, hk, rfl, hno, hb⟩ := hrel
        obtain ⟨x1, x2, x3⟩ := box3 hb
        have HN : Hid (anyTo R.num2 k = false) := hno
        clear hno
        by_cases hlt : k < R.n2
        · obtain ⟨b, o, hbl, hix, hi, hs, hc, -, -⟩ := (hR.below (below_box hb)).l2.card k2 hlt
          go_wp2
          go_quiet ((go_at_call 71; exact Calls.quiet_of_same (wrongSiteOrCount_any _ _ _)))
          go_wp2_with (go_at_call 72; refine (outOfRange_any _ _ _).mono ?_; rintro e w' ⟨rfl, rfl⟩)
          · have hp : R.num2 k = true := by unfold Rep.num2; simp [*]
            go_ret
            exact ⟨ret_bool (by simp [Rep.numB, anyTo_hit hlt hp]), below_drewN (below_box hb) _⟩
          · have hp : R.num2 k = true := by unfold Rep.num2; simp [*]
            go_ret
            exact ⟨ret_bool (by simp [Rep.numB, anyTo_hit hlt hp]), below_drewN (below_box hb) _⟩
          · have hp : R.num2 k = false := by unfold Rep.num2; simp [*]
            go_roundw
            case rel => exact ⟨k + 1, by omega, by go_num, anyTo_no HN.out hp, below_drewN hb _⟩
            case measure => simp [intOf]; omega
        · have e1 : k = R.n2 := by omega
          have N2 : Hid (anyTo R.num2 R.n2 = false) := e1 ▸ HN.out
          clear HN e1
          go_wp2
          go_loopw [5] (fun i wr => ∃ k : Nat, k ≤ R.n3 ∧ i = .int .i64 k ∧ anyTo R.num3 k = false ∧ BoxR w R a1 a2 a3 k1 k2 k3 wr) (fun i _ => R.n3 - (intOf i).toNat)
          case atStart => exact ⟨0, Nat.zero_le _, rfl, rfl, hb⟩
          case round =>
            clear x1 x2 x3 hb hk
            obtain ⟨k, hk, rfl, hno, hb⟩ := hrel
            obtain ⟨x1, x2, x3⟩ := box3 hb
            have HN : Hid (anyTo R.num3 k = false) := hno
            clear hno
            by_cases hlt : k < R.n3
            · obtain ⟨b, o, hbl, hix, hi, -⟩ := (hR.below (below_box hb)).l3.edit k3 hlt
              go_wp2_with (go_at_call 72; refine (outOfRange_any _ _ _).mono ?_; rintro e w' ⟨rfl, rfl⟩)
              · have hp : R.num3 k = true := by unfold Rep.num3; assumption
                go_ret
                exact ⟨ret_bool (by simp [Rep.numB, anyTo_hit hlt hp]), below_box hb⟩
              · have hp : R.num3 k = false := by unfold Rep.num3; assumption
                go_roundw
                case rel => exact ⟨k + 1, by omega, by go_num, anyTo_no HN.out hp, hb⟩
                case measure => simp [intOf]; omega
            · have e1 : k = R.n3 := by omega
              have N3 : Hid (anyTo R.num3 R.n3 = false) := e1 ▸ HN.out
              clear HN e1
              go_wp2
              go_ret
              exact ⟨ret_bool (by simp [Rep.numB, N1.out, N2.out, N3.out]), below_box hb⟩


end Go.Proofs.Ytdjpkgaicmklmab

/- sound.wrongText, walked. -/
namespace Go.Proofs.Ytdjpkgaicmklmab
open Go.RowKit

set_option maxHeartbeats 2000000 in
theorem wrongText_any (R : Rep) (a1 a2 a3 : Option Addr) (k1 k2 k3 : Nat) (w : World) (hR : Has w R a1 a2 a3) :
    Calls Try.prog 43 #[repV R a1 a2 a3 k1 k2 k3] w fun e w' => e = .returned (.bool R.txtB) ∧ Below w.heap.size w w' := by
  have b1 := hR.b1; have b2 := hR.b2; have b3 := hR.b3
  go_enter Try.func43, Try.ntmps43
  go_wp2
  go_loopw [3] (fun i wr => ∃ k : Nat, k ≤ R.n2 ∧ i = .int .i64 k ∧ anyTo R.txt2 k = false ∧ BoxR w R a1 a2 a3 k1 k2 k3 wr) (fun i _ => R.n2 - (intOf i).toNat)
  case atStart => exact ⟨0, Nat.zero_le _, rfl, rfl, Below.refl _ _⟩
  case round =>
    obtain ⟨k, hk, rfl, hno, hb⟩ := hrel
    obtain ⟨x1, x2, x3⟩ := box3 hb
    have HN : Hid (anyTo R.txt2 k = false) := hno
    clear hno
    by_cases hlt : k < R.n2
    · obtain ⟨b, o, hbl, hix, -, -, -, hg, ht⟩ := (hR.below (below_box hb)).l2.card k2 hlt
      go_wp2
      · have hp : R.txt2 k = true := by unfold Rep.txt2 longB; simp [‹(60 : Int) < ((R.d k).text.size : Int)›]
        go_ret
        exact ⟨ret_bool (by simp [Rep.txtB, anyTo_hit hlt hp]), below_box hb⟩
      · have hp : R.txt2 k = true := by unfold Rep.txt2; simp only [‹(R.d k).gone = true›, ‹(!(R.d k).text.toList.isEmpty) = true›]; simp
        go_ret
        exact ⟨ret_bool (by simp [Rep.txtB, anyTo_hit hlt hp]), below_box hb⟩
      · have hp : R.txt2 k = false := by
          have h1 : ((R.d k).text.size : Int) ≤ 60 := by assumption
          unfold Rep.txt2 longB; simp only [‹(!(R.d k).text.toList.isEmpty) = false›]; simp; omega
        go_roundw
        case rel => exact ⟨k + 1, by omega, by go_num, anyTo_no HN.out hp, hb⟩
        case measure => simp [intOf]; omega
      · have hp : R.txt2 k = false := by
          have h1 : ((R.d k).text.size : Int) ≤ 60 := by assumption
          have h2 : ¬ (R.d k).gone = true := by assumption
          unfold Rep.txt2 longB; simp [h2]; omega
        go_roundw
        case rel => exact ⟨k + 1, by omega, by go_num, anyTo_no HN.out hp, hb⟩
        case measure => simp [intOf]; omega
    · have e1 : k = R.n2 := by omega
      have N1 : Hid (anyTo R.txt2 R.n2 = false) := e1 ▸ HN.out
      clear HN e1
      go_wp2
      go_loopw [4] (fun i wr => ∃ k : Nat, k ≤ R.n3 ∧ i = .int .i64 k ∧ anyTo R.txt3 k = false ∧ BoxR w R a1 a2 a3 k1 k2 k3 wr) (fun i _ => R.n3 - (intOf i).toNat)
      case atStart => exact ⟨0, Nat.zero_le _, rfl, rfl, hb⟩
      case round =>
        clear x1 x2 x3 hb hk
        obtain ⟨k, hk, rfl, hno, hb⟩ := hrel
        obtain ⟨x1, x2, x3⟩ := box3 hb
        have HN : Hid (anyTo R.txt3 k = false) := hno
        clear hno
        by_cases hlt : k < R.n3
        · obtain ⟨b, o, hbl, hix, -, ht⟩ := (hR.below (below_box hb)).l3.edit k3 hlt
          go_wp2
          · have hp : R.txt3 k = true := by unfold Rep.txt3 longB; simp [‹(60 : Int) < ((R.e k).text.size : Int)›]
            go_ret
            exact ⟨ret_bool (by simp [Rep.txtB, anyTo_hit hlt hp]), below_box hb⟩
          · have hp : R.txt3 k = false := by
              have h1 : ((R.e k).text.size : Int) ≤ 60 := by assumption
              unfold Rep.txt3 longB; simp; omega
            go_roundw
            case rel => exact ⟨k + 1, by omega, by go_num, anyTo_no HN.out hp, hb⟩
            case measure => simp [intOf]; omega
        · have e1 : k = R.n3 := by omega
          have N2 : Hid (anyTo R.txt3 R.n3 = false) := e1 ▸ HN.out
          clear HN e1
          go_wp2
          go_ret
          exact ⟨ret_bool (by simp [Rep.txtB, N1.out, N2.out]), below_box hb⟩


end Go.Proofs.Ytdjpkgaicmklmab

/- sound.notRising, walked. -/
namespace Go.Proofs.Ytdjpkgaicmklmab
open Go.RowKit

set_option maxHeartbeats 2000000 in
theorem notRising_any (R : Rep) (a1 a2 a3 : Option Addr) (k1 k2 k3 : Nat) (w : World) (hR : Has w R a1 a2 a3) :
    Calls Try.prog 44 #[repV R a1 a2 a3 k1 k2 k3] w fun e w' => e = .returned (.bool R.risB) ∧ Below w.heap.size w w' := by
  have b1 := hR.b1; have b2 := hR.b2; have b3 := hR.b3
  go_enter Try.func44, Try.ntmps44
  go_wp2
  go_loopw [3] (fun i wr => ∃ k : Nat, k ≤ R.n1 - 1 ∧ i = .int .i64 ((k : Int) + 1) ∧ anyTo R.ris1 k = false ∧ BoxR w R a1 a2 a3 k1 k2 k3 wr) (fun i _ => R.n1 - (intOf i).toNat)
  case atStart => exact ⟨0, Nat.zero_le _, rfl, rfl, Below.refl _ _⟩
  case round =>
    obtain ⟨k, hk, rfl, hno, hb⟩ := hrel
    obtain ⟨x1, x2, x3⟩ := box3 hb
    have HN : Hid (anyTo R.ris1 k = false) := hno
    clear hno
    by_cases hlt : k + 1 < R.n1
    · obtain ⟨b, o, hbl, hix, hs, -⟩ := (hR.below (below_box hb)).l1.clock k1 (show k < R.n1 by omega)
      obtain ⟨b', o', hbl', hix', hs', -⟩ := (hR.below (below_box hb)).l1.clock k1 hlt
      rw [show ((k + 1 : Nat) : Int) = (k : Int) + 1 from by omega] at hix'
      go_wp2
      go_quiet (fail)
      go_wp2
      · have hp : R.ris1 k = true := by unfold Rep.ris1; simp [‹(R.c (k + 1)).site ≤ (R.c k).site›]
        go_ret
        exact ⟨ret_bool (by simp [Rep.risB, anyTo_hit (show k < R.n1 - 1 by omega) hp]), below_drewN (below_box hb) _⟩
      · have hp : R.ris1 k = false := by
          have h1 : (R.c k).site < (R.c (k + 1)).site := by assumption
          unfold Rep.ris1; simp; omega
        go_roundw
        case rel => exact ⟨k + 1, by omega, by go_num, anyTo_no HN.out hp, below_drewN hb _⟩
        case measure => simp [intOf]; omega
    · have e1 : k = R.n1 - 1 := by omega
      have N1 : Hid (anyTo R.ris1 (R.n1 - 1) = false) := e1 ▸ HN.out
      clear HN e1
      go_wp2
      go_loopw [4] (fun i wr => ∃ k : Nat, k ≤ R.n2 - 1 ∧ i = .int .i64 ((k : Int) + 1) ∧ anyTo R.ris2 k = false ∧ BoxR w R a1 a2 a3 k1 k2 k3 wr) (fun i _ => R.n2 - (intOf i).toNat)
      case atStart => exact ⟨0, Nat.zero_le _, rfl, rfl, hb⟩
      case round =>
        clear x1 x2 x3 hb hk hlt
        obtain ⟨k, hk, rfl, hno, hb⟩ := hrel
        obtain ⟨x1, x2, x3⟩ := box3 hb
        have HN : Hid (anyTo R.ris2 k = false) := hno
        clear hno
        by_cases hlt : k + 1 < R.n2
        · obtain ⟨b, o, hbl, hix, hs, -, -, -, -⟩ := (hR.below (below_box hb)).l2.card k2 (show k < R.n2 by omega)
          obtain ⟨b', o', hbl', hix', hs', -, -, -, -⟩ := (hR.below (below_box hb)).l2.card k2 hlt
          rw [show ((k + 1 : Nat) : Int) = (k : Int) + 1 from by omega] at hix'
          go_wp2
          go_quiet (fail)
          go_wp2
          · have hp : R.ris2 k = true := by unfold Rep.ris2; simp [‹(R.d (k + 1)).id ≤ (R.d k).id›]
            go_ret
            exact ⟨ret_bool (by simp [Rep.risB, anyTo_hit (show k < R.n2 - 1 by omega) hp]), below_drewN (below_box hb) _⟩
          · have hp : R.ris2 k = false := by
              have h1 : (R.d k).id < (R.d (k + 1)).id := by assumption
              unfold Rep.ris2; simp; omega
            go_roundw
            case rel => exact ⟨k + 1, by omega, by go_num, anyTo_no HN.out hp, below_drewN hb _⟩
            case measure => simp [intOf]; omega
        · have e1 : k = R.n2 - 1 := by omega
          have N2 : Hid (anyTo R.ris2 (R.n2 - 1) = false) := e1 ▸ HN.out
          clear HN e1
          go_wp2
          go_ret
          exact ⟨ret_bool (by simp [Rep.risB, N1.out, N2.out]), below_box hb⟩

end Go.Proofs.Ytdjpkgaicmklmab

/- replicas.CountOf and sound.uncovered, walked. -/
namespace Go.Proofs.Ytdjpkgaicmklmab
open Go.RowKit

set_option maxHeartbeats 1000000 in
theorem countOf_any (a : Option Addr) (n cap : Nat) (c : Nat → Ck) (site : Int) (w : World) (hn : n ≤ 140737488355328) (hL : Lies w a n 2 (fun i => (c i).cells)) :
    Calls Try.prog 73 #[.slice a n cap, .int .i64 site] w fun e w' => e = .returned (.int .i64 ((clockTo c site n).getD 0)) ∧ w' = w := by
  go_enter Try.func73, Try.ntmps73
  go_wp2
  go_loop [5] (fun i => ∃ k : Nat, k ≤ n ∧ i = .int .i64 k ∧ clockTo c site k = none) (fun i => n - (intOf i).toNat)
  case atStart => exact ⟨0, Nat.zero_le _, rfl, rfl⟩
  case round =>
    obtain ⟨k, hk, rfl, hno⟩ := hrel
    have HN : Hid (clockTo c site k = none) := hno
    clear hno
    by_cases hlt : k < n
    · obtain ⟨b, o, hbl, hix, hs, hc⟩ := hL.clock cap hlt
      go_wp2
      · have hp : (c k).site = site := by simpa using ‹((c k).site == site) = true›
        go_ret
        exact ⟨ret_int (by rw [clockTo_hit hlt HN.out hp]; rfl), rfl⟩
      · have hp : ¬ (c k).site = site := by simpa using ‹((c k).site == site) = false›
        go_round
        case rel => exact ⟨k + 1, by omega, by go_num, clockTo_no HN.out hp⟩
        case measure => simp [intOf]; omega
    · have e1 : k = n := by omega
      have N1 : Hid (clockTo c site n = none) := e1 ▸ HN.out
      clear HN e1
      go_wp2
      go_ret
      exact ⟨ret_int (by rw [N1.out]; rfl), rfl⟩

theorem Lies.drewN {w : World} {a : Option Addr} {n m : Nat} {f : Nat → List Value} (h : Lies w a n m f) (q : Nat) : Lies (w.drewN q) a n m f := h.below (below_drewN (Below.refl _ _) _)

set_option maxHeartbeats 1000000 in
theorem uncovered_any (R : Rep) (a1 a2 a3 : Option Addr) (k1 k2 k3 : Nat) (w : World) (hR : Has w R a1 a2 a3) :
    Calls Try.prog 45 #[repV R a1 a2 a3 k1 k2 k3] w fun e w' => e = .returned (.bool R.uncB) ∧ Below w.heap.size w w' := by
  have b1 := hR.b1; have b2 := hR.b2; have b3 := hR.b3
  go_enter Try.func45, Try.ntmps45
  go_wp2
  go_loopw [3] (fun i wr => ∃ k : Nat, k ≤ R.n2 ∧ i = .int .i64 k ∧ anyTo R.unc k = false ∧ BoxR w R a1 a2 a3 k1 k2 k3 wr) (fun i _ => R.n2 - (intOf i).toNat)
  case atStart => exact ⟨0, Nat.zero_le _, rfl, rfl, Below.refl _ _⟩
  case round =>
    obtain ⟨k, hk, rfl, hno, hb⟩ := hrel
    obtain ⟨x1, x2, x3⟩ := box3 hb
    have HN : Hid (anyTo R.unc k = false) := hno
    clear hno
    by_cases hlt : k < R.n2
    · obtain ⟨b, o, hbl, hix, -, hs, hc, -, -⟩ := (hR.below (below_box hb)).l2.card k2 hlt
      have hL := (hR.below (below_box hb)).l1
      go_wp2
      go_quiet ((go_at_call 73; exact Calls.quiet_of_same (countOf_any _ _ _ R.c _ _ (by omega) (by exact hL.drewN _))))
      go_wp2
      · have hp : R.unc k = true := by unfold Rep.unc Rep.clk; simp [‹(clockTo R.c (R.d k).site R.n1).getD 0 < (R.d k).count›]
        go_ret
        exact ⟨ret_bool (by simp [Rep.uncB, anyTo_hit hlt hp]), below_drewN (below_box hb) _⟩
      · have hp : R.unc k = false := by
          have h1 : (R.d k).count ≤ (clockTo R.c (R.d k).site R.n1).getD 0 := by assumption
          unfold Rep.unc Rep.clk; simp; omega
        go_roundw
        case rel => exact ⟨k + 1, by omega, by go_num, anyTo_no HN.out hp, below_drewN hb _⟩
        case measure => simp [intOf]; omega
    · have e1 : k = R.n2 := by omega
      have N1 : Hid (anyTo R.unc R.n2 = false) := e1 ▸ HN.out
      clear HN e1
      go_wp2
      go_ret
      exact ⟨ret_bool (by simp [Rep.uncB, N1.out]), below_box hb⟩

end Go.Proofs.Ytdjpkgaicmklmab

/- sound.TooMany, sound.Check and parcel.Check, walked. -/
namespace Go.Proofs.Ytdjpkgaicmklmab
open Go.RowKit

set_option maxHeartbeats 1000000 in
theorem tooMany_any (R : Rep) (a1 a2 a3 : Option Addr) (k1 k2 k3 : Nat) (w : World) (hR : Has w R a1 a2 a3) :
    Calls Try.prog 38 #[repV R a1 a2 a3 k1 k2 k3] w fun e w' => e = .returned (.bool R.manyB) ∧ Below w.heap.size w w' := by
  have b1 := hR.b1; have b2 := hR.b2; have b3 := hR.b3
  go_enter Try.func38, Try.ntmps38
  go_wp2
  all_goals (go_ret; refine ⟨ret_bool ?_, (Below.refl _ _).alloc (Nat.le_refl _) _⟩; unfold Rep.manyB; rw [Bool.eq_iff_iff]; simp; try omega)

/-- The world behind a call made with the box laid. -/
theorem boxR_step {w wr w1 : World} {R : Rep} {a1 a2 a3 : Option Addr} {k1 k2 k3 : Nat} (hb : BoxR w R a1 a2 a3 k1 k2 k3 wr) (h : Below wr.heap.size wr w1) : BoxR w R a1 a2 a3 k1 k2 k3 w1 :=
  hb.trans (h.mono (by have := hb.size; simpa using this))

set_option maxHeartbeats 2000000 in
theorem check_any (R : Rep) (a1 a2 a3 : Option Addr) (k1 k2 k3 : Nat) (w : World) (hR : Has w R a1 a2 a3) :
    Calls Try.prog 31 #[repV R a1 a2 a3 k1 k2 k3] w fun e w' => e = .returned (.int .i64 R.chk) ∧ Below w.heap.size w w' := by
  have hb0 : BoxR w R a1 a2 a3 k1 k2 k3 (w.alloc (.cells #[.slice a1 R.n1 k1, .slice a2 R.n2 k2, .slice a3 R.n3 k3] 28)) := Below.refl _ _
  go_enter Try.func31, Try.ntmps31
  go_wp2_with fail
  refine (tooMany_any R a1 a2 a3 k1 k2 k3 _ (hR.below (below_box hb0))).mono ?_
  rintro e w1 ⟨rfl, h1⟩
  have hb1 := boxR_step hb0 h1
  obtain ⟨x1, x2, x3⟩ := box3 hb1
  clear h1 hb0
  cases g1 : R.manyB
  case true =>
    go_wp2_with fail
    go_ret
    exact ⟨ret_int (by simp [Rep.chk, g1]), below_box hb1⟩
  go_wp2_with fail
  refine (wrongNumber_any R a1 a2 a3 k1 k2 k3 _ (hR.below (below_box hb1))).mono ?_
  rintro e w2 ⟨rfl, h1⟩
  have hb2 := boxR_step hb1 h1
  clear x1 x2 x3 h1 hb1
  obtain ⟨x1, x2, x3⟩ := box3 hb2
  cases g2 : R.numB
  case true =>
    go_wp2_with fail
    go_ret
    exact ⟨ret_int (by simp [Rep.chk, g1, g2]), below_box hb2⟩
  go_wp2_with fail
  refine (wrongText_any R a1 a2 a3 k1 k2 k3 _ (hR.below (below_box hb2))).mono ?_
  rintro e w3 ⟨rfl, h1⟩
  have hb3 := boxR_step hb2 h1
  clear x1 x2 x3 h1 hb2
  obtain ⟨x1, x2, x3⟩ := box3 hb3
  cases g3 : R.txtB
  case true =>
    go_wp2_with fail
    go_ret
    exact ⟨ret_int (by simp [Rep.chk, g1, g2, g3]), below_box hb3⟩
  go_wp2_with fail
  refine (notRising_any R a1 a2 a3 k1 k2 k3 _ (hR.below (below_box hb3))).mono ?_
  rintro e w4 ⟨rfl, h1⟩
  have hb4 := boxR_step hb3 h1
  clear x1 x2 x3 h1 hb3
  obtain ⟨x1, x2, x3⟩ := box3 hb4
  cases g4 : R.risB
  case true =>
    go_wp2_with fail
    go_ret
    exact ⟨ret_int (by simp [Rep.chk, g1, g2, g3, g4]), below_box hb4⟩
  go_wp2_with fail
  refine (uncovered_any R a1 a2 a3 k1 k2 k3 _ (hR.below (below_box hb4))).mono ?_
  rintro e w5 ⟨rfl, h1⟩
  have hb5 := boxR_step hb4 h1
  clear x1 x2 x3 h1 hb4
  obtain ⟨x1, x2, x3⟩ := box3 hb5
  cases g5 : R.uncB
  case true =>
    go_wp2_with fail
    go_ret
    exact ⟨ret_int (by simp [Rep.chk, g1, g2, g3, g4, g5]), below_box hb5⟩
  go_wp2_with fail
  refine (clashing_any a2 R.n2 k2 R.d _ hR.b2 (hR.below (below_box hb5)).l2).mono ?_
  rintro e w6 ⟨rfl, h1⟩
  have hb6 := boxR_step hb5 h1
  clear x1 x2 x3 h1 hb5
  have hcl : anyTo (fun i => anyTo (fun k => stampB (R.d i) (R.d k)) i) R.n2 = R.clashB := rfl
  rw [hcl]
  clear hcl
  cases g6 : R.clashB
  case true =>
    go_wp2_with fail
    go_ret
    exact ⟨ret_int (by simp [Rep.chk, g1, g2, g3, g4, g5, g6]), below_box hb6⟩
  go_wp2_with fail
  go_ret
  exact ⟨ret_int (by simp [Rep.chk, g1, g2, g3, g4, g5, g6]), below_box hb6⟩

end Go.Proofs.Ytdjpkgaicmklmab

/- parcelref.Check, walked. -/
namespace Go.Proofs.Ytdjpkgaicmklmab
open Go.RowKit

end Go.Proofs.Ytdjpkgaicmklmab

/- parcellaw.Checks: called with any replica that lies in memory it answers true, and nothing that was there has turned. -/
namespace Go.Proofs.Ytdjpkgaicmklmab
open Go.RowKit

theorem below_step2 {w w1 wr : World} {R : Rep} {a1 a2 a3 : Option Addr} {k1 k2 k3 : Nat} {o : Obj} (hb : BoxR w R a1 a2 a3 k1 k2 k3 w1) (h : Below (w1.heap.size + 1) (w1.alloc o) wr) : BoxR w R a1 a2 a3 k1 k2 k3 wr :=
  boxR_step hb (below_box h)

end Go.Proofs.Ytdjpkgaicmklmab

/- Export of both, and parcellaw.Exports: called with any replica that lies in memory it answers true. -/
namespace Go.Proofs.Ytdjpkgaicmklmab
open Go.RowKit

/-- A sound replica can be written. -/
theorem Rep.fit {R : Rep} (h : R.chk = 0) : Fit R := by
  have g1 : R.manyB = false := by
    cases hh : R.manyB
    · rfl
    · simp [Rep.chk, hh] at h
  have g2 : R.numB = false := by
    cases hh : R.numB
    · rfl
    · simp [Rep.chk, g1, hh] at h
  have g3 : R.txtB = false := by
    cases hh : R.txtB
    · rfl
    · simp [Rep.chk, g1, g2, hh] at h
  have hm : R.n1 ≤ 8 ∧ R.n2 ≤ 40 ∧ R.n3 ≤ 16 := by
    unfold Rep.manyB at g1; simp at g1; omega
  unfold Rep.numB at g2
  simp only [Bool.or_eq_false_iff] at g2
  unfold Rep.txtB at g3
  simp only [Bool.or_eq_false_iff] at g3
  have num : ∀ n m : Int, outB n m = false → m ≤ 4611686018427387904 → Num n := by
    intro n m hh hm
    unfold outB at hh
    simp at hh
    exact ⟨by omega, by omega⟩
  have none_of : ∀ (p : Nat → Bool) (n : Nat), anyTo p n = false → ∀ i, i < n → p i = false := by
    intro p n hh i hi
    cases hp : p i
    · rfl
    · rw [anyTo_hit hi hp] at hh; cases hh
  have long : ∀ t : ByteArray, longB t = false → t.size ≤ 60 := by
    intro t ht
    unfold longB at ht
    simp at ht
    omega
  refine ⟨by omega, by omega, by omega, fun i hi => ?_, fun i hi => ?_, fun i hi => ?_⟩
  · have h1 := none_of _ _ g2.1 i hi
    unfold Rep.num1 scB at h1
    simp only [Bool.or_eq_false_iff] at h1
    exact ⟨num _ _ h1.1 (by decide), num _ _ h1.2 (by decide)⟩
  · have h1 := none_of _ _ g2.2.1 i hi
    unfold Rep.num2 scB at h1
    simp only [Bool.or_eq_false_iff] at h1
    have h2 := none_of _ _ g3.1 i hi
    unfold Rep.txt2 at h2
    simp only [Bool.or_eq_false_iff] at h2
    exact ⟨num _ _ h1.2 (by decide), num _ _ h1.1.1 (by decide), num _ _ h1.1.2 (by decide), long _ h2.1⟩
  · have h1 := none_of _ _ g2.2.2 i hi
    unfold Rep.num3 at h1
    have h2 := none_of _ _ g3.2 i hi
    unfold Rep.txt3 at h2
    exact ⟨num _ _ h1 (by decide), long _ h2⟩

/-- The answer of Export. -/
def Rep.exp (R : Rep) : List UInt8 := if R.chk = 0 then bundleB (recsOf 0 0 R) else []

set_option maxRecDepth 100000 in
set_option maxHeartbeats 2000000 in
theorem export_any (R : Rep) (a1 a2 a3 : Option Addr) (k1 k2 k3 : Nat) (w : World) (hR : Has w R a1 a2 a3) :
    Calls Try.prog 10 #[repV R a1 a2 a3 k1 k2 k3] w fun e w' => e = .returned (.tuple #[.string (str R.exp), .int .i64 R.chk]) ∧ Below w.heap.size w w' := by
  have hb0 : BoxR w R a1 a2 a3 k1 k2 k3 (w.alloc (.cells #[.slice a1 R.n1 k1, .slice a2 R.n2 k2, .slice a3 R.n3 k3] 28)) := Below.refl _ _
  go_enter Try.func10, Try.ntmps10
  go_wp2_with fail
  refine (check_any R a1 a2 a3 k1 k2 k3 _ (hR.below (below_box hb0))).mono ?_
  rintro e w1 ⟨rfl, h1⟩
  have hb1 := boxR_step hb0 h1
  clear h1 hb0
  by_cases hc : R.chk = 0
  · have E : Hid (R.exp = bundleB (recsOf 0 0 R)) := by show _ = _; unfold Rep.exp; rw [if_pos hc]
    have hF := Rep.fit hc
    obtain ⟨x1, x2, x3⟩ := box3 hb1
    rw [hc]
    have HC : Hid (R.chk = 0) := hc
    clear hc
    go_wp2_with fail
    refine (bundle_any 0 0 R a1 a2 a3 k1 k2 k3 _ (hR.below (below_box hb1)) hF ⟨by decide, by decide⟩ (by decide) (by decide)).mono ?_
    rintro e w2 ⟨rfl, h2⟩
    have hb2 := boxR_step hb1 h2
    go_wp2_with fail
    go_ret2
    exact ⟨by rw [E.out, HC.out]; rfl, below_box hb2⟩
  · have E : Hid (R.exp = []) := by show _ = _; unfold Rep.exp; rw [if_neg hc]
    have hcb : (R.chk != 0) = true := by simp [hc]
    clear hc
    go_wp2_with fail
    go_ret2
    exact ⟨by rw [E.out]; rfl, below_box hb1⟩

end Go.Proofs.Ytdjpkgaicmklmab

/- parcelkeep's bytes and same, walked. -/
namespace Go.Proofs.Ytdjpkgaicmklmab
open Go.RowKit

theorem bytesI_le : ∀ (k : Nat) (n : Int), bytesI k n ≤ k + 1
  | 0, n => by simp [bytesI]
  | k + 1, n => by
    simp only [bytesI]; split
    · omega
    · have := bytesI_le k (n / 128); omega
theorem bytesI_small (k : Nat) (n : Int) (h : n < 128) : bytesI k n = 1 := by
  cases k with
  | zero => rfl
  | succ k => simp [bytesI, h]

/-- The two parameters' boxes. -/
abbrev BoxT (w : World) (R T : Rep) (a1 a2 a3 b1 b2 b3 : Option Addr) (k1 k2 k3 l1 l2 l3 : Nat) (wr : World) : Prop :=
  Below (w.heap.size + 2) ((w.alloc (.cells #[.slice a1 R.n1 k1, .slice a2 R.n2 k2, .slice a3 R.n3 k3] 28)).alloc (.cells #[.slice b1 T.n1 l1, .slice b2 T.n2 l2, .slice b3 T.n3 l3] 28)) wr
theorem BoxT.cells {w : World} {R T : Rep} {a1 a2 a3 b1 b2 b3 : Option Addr} {k1 k2 k3 l1 l2 l3 : Nat} {wr : World} (hb : BoxT w R T a1 a2 a3 b1 b2 b3 k1 k2 k3 l1 l2 l3 wr) :
    (wr.cell? ⟨w.heap.size, 0, none⟩ = some (.slice a1 R.n1 k1) ∧ wr.cell? ⟨w.heap.size, 1, none⟩ = some (.slice a2 R.n2 k2) ∧ wr.cell? ⟨w.heap.size, 2, none⟩ = some (.slice a3 R.n3 k3)) ∧
    (wr.cell? ⟨w.heap.size + 1, 0, none⟩ = some (.slice b1 T.n1 l1) ∧ wr.cell? ⟨w.heap.size + 1, 1, none⟩ = some (.slice b2 T.n2 l2) ∧ wr.cell? ⟨w.heap.size + 1, 2, none⟩ = some (.slice b3 T.n3 l3)) := by
  refine ⟨⟨?_, ?_, ?_⟩, ?_, ?_, ?_⟩
  · rw [hb.cell (p := ⟨w.heap.size, 0, none⟩) (by simp)]; simp
  · rw [hb.cell (p := ⟨w.heap.size, 1, none⟩) (by simp)]; simp
  · rw [hb.cell (p := ⟨w.heap.size, 2, none⟩) (by simp)]; simp
  · rw [hb.cell (p := ⟨w.heap.size + 1, 0, none⟩) (by simp)]; simp
  · rw [hb.cell (p := ⟨w.heap.size + 1, 1, none⟩) (by simp)]; simp
  · rw [hb.cell (p := ⟨w.heap.size + 1, 2, none⟩) (by simp)]; simp
theorem BoxT.old {w : World} {R T : Rep} {a1 a2 a3 b1 b2 b3 : Option Addr} {k1 k2 k3 l1 l2 l3 : Nat} {wr : World} (hb : BoxT w R T a1 a2 a3 b1 b2 b3 k1 k2 k3 l1 l2 l3 wr) : Below w.heap.size w wr :=
  (((Below.refl _ w).alloc (Nat.le_refl _) _).alloc (by simp) _).trans (hb.mono (by omega))

theorem ret_same {R T : Rep} {b : Bool} (h : b = true ↔ Same R T) : ∃ b', Ending.returned (.bool b) = .returned (.bool b') ∧ (b' = true ↔ Same R T) := ⟨b, rfl, h⟩
theorem not_same {R T : Rep} (h : ¬ Same R T) : (false = true ↔ Same R T) := ⟨fun e => (by cases e), fun e => absurd e h⟩

theorem ba_beq {x y : ByteArray} (h : ¬ x = y) : (x == y) = false := by
  cases x with | mk a => cases y with | mk b =>
  have : ¬ a = b := fun e => h (by rw [e])
  show (a == b) = false
  rw [beq_eq_false_iff_ne]; exact this
theorem bl_beq {x y : ByteArray} (h : ¬ x = y) : (x.toList == y.toList) = false := by
  rw [← beq_toListBytes]; exact ba_beq h
theorem ck_ne {x y : Ck} (h : ¬ x = y) : ¬ x.site = y.site ∨ (x.site = y.site ∧ ¬ x.count = y.count) := by
  by_cases h1 : x.site = y.site
  · exact Or.inr ⟨h1, fun h2 => h (by cases x; cases y; simp at h1 h2; simp [h1, h2])⟩
  · exact Or.inl h1
theorem cd_ne {x y : Cd} (h : ¬ x = y) : ¬ x.id = y.id ∨ (x.id = y.id ∧ ¬ x.site = y.site) ∨ (x.id = y.id ∧ x.site = y.site ∧ ¬ x.count = y.count) ∨ (x.id = y.id ∧ x.site = y.site ∧ x.count = y.count ∧ ¬ x.gone = y.gone) ∨ (x.id = y.id ∧ x.site = y.site ∧ x.count = y.count ∧ x.gone = y.gone ∧ ¬ x.text = y.text) := by
  by_cases h1 : x.id = y.id
  · by_cases h2 : x.site = y.site
    · by_cases h3 : x.count = y.count
      · by_cases h4 : x.gone = y.gone
        · exact Or.inr (Or.inr (Or.inr (Or.inr ⟨h1, h2, h3, h4, fun h5 => h (by cases x; cases y; simp at h1 h2 h3 h4 h5; simp [h1, h2, h3, h4, h5])⟩)))
        · exact Or.inr (Or.inr (Or.inr (Or.inl ⟨h1, h2, h3, h4⟩)))
      · exact Or.inr (Or.inr (Or.inl ⟨h1, h2, h3⟩))
    · exact Or.inr (Or.inl ⟨h1, h2⟩)
  · exact Or.inl h1
theorem ed_ne {x y : Ed} (h : ¬ x = y) : ¬ x.id = y.id ∨ (x.id = y.id ∧ ¬ x.text = y.text) := by
  by_cases h1 : x.id = y.id
  · exact Or.inr ⟨h1, fun h2 => h (by cases x; cases y; simp at h1 h2; simp [h1, h2])⟩
  · exact Or.inl h1

set_option maxRecDepth 100000 in
set_option maxHeartbeats 4000000 in
theorem same_len (R : Rep) (tc : Nat → Ck) (td : Nat → Cd) (te : Nat → Ed) (a1 a2 a3 b1 b2 b3 : Option Addr) (k1 k2 k3 l1 l2 l3 : Nat) (w : World) (hA : Has w R a1 a2 a3) (hB : Has w ⟨R.n1, R.n2, R.n3, tc, td, te⟩ b1 b2 b3) :
    Calls Try.prog 16 #[repV R a1 a2 a3 k1 k2 k3, repV R b1 b2 b3 l1 l2 l3] w fun e w' => ∃ b, (e = .returned (.bool b) ∧ (b = true ↔ Same R ⟨R.n1, R.n2, R.n3, tc, td, te⟩)) ∧ Below w.heap.size w w' := by
  have y1 := hA.b1; have y2 := hA.b2; have y3 := hA.b3
  go_enter Try.func16, Try.ntmps16
  go_wp2
  go_loopw [5] (fun i wr => ∃ k : Nat, k ≤ R.n1 ∧ i = .int .i64 k ∧ (∀ j, j < k → R.c j = tc j) ∧ BoxS w R a1 a2 a3 b1 b2 b3 k1 k2 k3 l1 l2 l3 wr) (fun i _ => R.n1 - (intOf i).toNat)
  case atStart => exact ⟨0, Nat.zero_le _, rfl, fun j h => by omega, Below.refl _ _⟩
  case round =>
    obtain ⟨k, hk, rfl, hj, hb⟩ := hrel
    have HJ1 : Hid (∀ j, j < k → R.c j = tc j) := hj
    clear hj
    obtain ⟨⟨x1, x2, x3⟩, z1, z2, z3⟩ := hb.cells
    by_cases hlt : k < R.n1
    · obtain ⟨b, o, hbl, hix, p1, p2⟩ := (hA.below hb.old).l1.clock k1 hlt
      obtain ⟨b', o', hbl', hix', q1, q2⟩ := (hB.below hb.old).l1.clock l1 hlt
      by_cases he : R.c k = tc k
      · have HE : Hid (R.c k = tc k) := he
        rw [he] at p1 p2
        clear he
        go_wp2
        go_quiet (fail)
        go_wp2
        go_roundw
        case rel => exact ⟨k + 1, by omega, by go_num, fun j h => by rcases Nat.lt_succ_iff_lt_or_eq.1 h with h | rfl; exact HJ1.out j h; exact HE.out, below_drewN hb _⟩
        case measure => simp [intOf]; omega
      · have HS : Hid (¬ Same R ⟨R.n1, R.n2, R.n3, tc, td, te⟩) := fun h => he (h.c k hlt)
        have hne := ck_ne he
        clear he
        rcases hne with hne | ⟨r1, hne⟩
        · go_wp2
          go_quiet (fail)
          go_wp2
          go_ret
          exact ⟨_, ⟨rfl, not_same HS.out⟩, BoxS.old (below_drewN hb _)⟩
        · rw [r1] at p1
          clear r1
          go_wp2
          go_quiet (fail)
          go_wp2
          go_ret
          exact ⟨_, ⟨rfl, not_same HS.out⟩, BoxS.old (below_drewN hb _)⟩
    · have E1 : Hid (k = R.n1) := by show _ = _; omega
      have J1 : Hid (∀ j, j < R.n1 → R.c j = tc j) := fun j h => HJ1.out j (by have := E1.out; omega)
      clear HJ1 E1
      go_wp2
      go_loopw [6] (fun i wr => ∃ k : Nat, k ≤ R.n2 ∧ i = .int .i64 k ∧ (∀ j, j < k → R.d j = td j) ∧ BoxS w R a1 a2 a3 b1 b2 b3 k1 k2 k3 l1 l2 l3 wr) (fun i _ => R.n2 - (intOf i).toNat)
      case atStart => exact ⟨0, Nat.zero_le _, rfl, fun j h => by omega, hb⟩
      case round =>
        clear x1 x2 x3 z1 z2 z3 hb hk hlt
        obtain ⟨k, hk, rfl, hj, hb⟩ := hrel
        have HJ2 : Hid (∀ j, j < k → R.d j = td j) := hj
        clear hj
        obtain ⟨⟨x1, x2, x3⟩, z1, z2, z3⟩ := hb.cells
        by_cases hlt : k < R.n2
        · obtain ⟨b, o, hbl, hix, p1, p2, p3, p4, p5⟩ := (hA.below hb.old).l2.card k2 hlt
          obtain ⟨b', o', hbl', hix', q1, q2, q3, q4, q5⟩ := (hB.below hb.old).l2.card l2 hlt
          by_cases he : R.d k = td k
          · have HE : Hid (R.d k = td k) := he
            rw [he] at p1 p2 p3 p4 p5
            clear he
            go_wp2
            go_quiet (fail)
            go_wp2
            go_roundw
            case rel => exact ⟨k + 1, by omega, by go_num, fun j h => by rcases Nat.lt_succ_iff_lt_or_eq.1 h with h | rfl; exact HJ2.out j h; exact HE.out, below_drewN hb _⟩
            case measure => simp [intOf]; omega
          · have HS : Hid (¬ Same R ⟨R.n1, R.n2, R.n3, tc, td, te⟩) := fun h => he (h.d k hlt)
            have hne := cd_ne he
            clear he
            rcases hne with hne | ⟨r1, hne⟩ | ⟨r1, r2, hne⟩ | ⟨r1, r2, r3, hne⟩ | ⟨r1, r2, r3, r4, hne⟩
            · go_wp2
              go_quiet (fail)
              go_wp2
              go_ret
              exact ⟨_, ⟨rfl, not_same HS.out⟩, BoxS.old (below_drewN hb _)⟩
            · rw [r1] at p1
              clear r1
              go_wp2
              go_quiet (fail)
              go_wp2
              go_ret
              exact ⟨_, ⟨rfl, not_same HS.out⟩, BoxS.old (below_drewN hb _)⟩
            · rw [r1] at p1
              clear r1
              rw [r2] at p2
              clear r2
              go_wp2
              go_quiet (fail)
              go_wp2
              go_ret
              exact ⟨_, ⟨rfl, not_same HS.out⟩, BoxS.old (below_drewN hb _)⟩
            · rw [r1] at p1
              clear r1
              rw [r2] at p2
              clear r2
              rw [r3] at p3
              clear r3
              go_wp2
              go_quiet (fail)
              go_wp2
              go_ret
              exact ⟨_, ⟨rfl, not_same HS.out⟩, BoxS.old (below_drewN hb _)⟩
            · rw [r1] at p1
              clear r1
              rw [r2] at p2
              clear r2
              rw [r3] at p3
              clear r3
              rw [r4] at p4
              clear r4
              have hnb := ba_beq hne
              have hnl := bl_beq hne
              clear hne
              go_wp2
              go_quiet (fail)
              go_wp2
              go_ret
              exact ⟨_, ⟨rfl, not_same HS.out⟩, BoxS.old (below_drewN hb _)⟩
        · have E2 : Hid (k = R.n2) := by show _ = _; omega
          have J2 : Hid (∀ j, j < R.n2 → R.d j = td j) := fun j h => HJ2.out j (by have := E2.out; omega)
          clear HJ2 E2
          go_wp2
          go_loopw [7] (fun i wr => ∃ k : Nat, k ≤ R.n3 ∧ i = .int .i64 k ∧ (∀ j, j < k → R.e j = te j) ∧ BoxS w R a1 a2 a3 b1 b2 b3 k1 k2 k3 l1 l2 l3 wr) (fun i _ => R.n3 - (intOf i).toNat)
          case atStart => exact ⟨0, Nat.zero_le _, rfl, fun j h => by omega, hb⟩
          case round =>
            clear x1 x2 x3 z1 z2 z3 hb hk hlt
            obtain ⟨k, hk, rfl, hj, hb⟩ := hrel
            have HJ3 : Hid (∀ j, j < k → R.e j = te j) := hj
            clear hj
            obtain ⟨⟨x1, x2, x3⟩, z1, z2, z3⟩ := hb.cells
            by_cases hlt : k < R.n3
            · obtain ⟨b, o, hbl, hix, p1, p2⟩ := (hA.below hb.old).l3.edit k3 hlt
              obtain ⟨b', o', hbl', hix', q1, q2⟩ := (hB.below hb.old).l3.edit l3 hlt
              by_cases he : R.e k = te k
              · have HE : Hid (R.e k = te k) := he
                rw [he] at p1 p2
                clear he
                go_wp2
                go_quiet (fail)
                go_wp2
                go_roundw
                case rel => exact ⟨k + 1, by omega, by go_num, fun j h => by rcases Nat.lt_succ_iff_lt_or_eq.1 h with h | rfl; exact HJ3.out j h; exact HE.out, below_drewN hb _⟩
                case measure => simp [intOf]; omega
              · have HS : Hid (¬ Same R ⟨R.n1, R.n2, R.n3, tc, td, te⟩) := fun h => he (h.e k hlt)
                have hne := ed_ne he
                clear he
                rcases hne with hne | ⟨r1, hne⟩
                · go_wp2
                  go_quiet (fail)
                  go_wp2
                  go_ret
                  exact ⟨_, ⟨rfl, not_same HS.out⟩, BoxS.old (below_drewN hb _)⟩
                · rw [r1] at p1
                  clear r1
                  have hnb := ba_beq hne
                  have hnl := bl_beq hne
                  clear hne
                  go_wp2
                  go_quiet (fail)
                  go_wp2
                  go_ret
                  exact ⟨_, ⟨rfl, not_same HS.out⟩, BoxS.old (below_drewN hb _)⟩
            · have E3 : Hid (k = R.n3) := by show _ = _; omega
              have HS : Hid (Same R ⟨R.n1, R.n2, R.n3, tc, td, te⟩) := ⟨rfl, rfl, rfl, J1.out, J2.out, fun j h => HJ3.out j (by have := E3.out; omega)⟩
              go_wp2
              go_ret
              exact ⟨_, ⟨rfl, ⟨fun _ => HS.out, fun _ => rfl⟩⟩, hb.old⟩

set_option maxRecDepth 100000 in
set_option maxHeartbeats 4000000 in
theorem same_any (R T : Rep) (a1 a2 a3 b1 b2 b3 : Option Addr) (k1 k2 k3 l1 l2 l3 : Nat) (w : World) (hA : Has w R a1 a2 a3) (hB : Has w T b1 b2 b3) :
    Calls Try.prog 16 #[repV R a1 a2 a3 k1 k2 k3, repV T b1 b2 b3 l1 l2 l3] w fun e w' => ∃ b, (e = .returned (.bool b) ∧ (b = true ↔ Same R T)) ∧ Below w.heap.size w w' := by
  have y1 := hA.b1; have y2 := hA.b2; have y3 := hA.b3
  have u1 := hB.b1; have u2 := hB.b2; have u3 := hB.b3
  have h0 : BoxT w R T a1 a2 a3 b1 b2 b3 k1 k2 k3 l1 l2 l3 ((w.alloc (.cells #[.slice a1 R.n1 k1, .slice a2 R.n2 k2, .slice a3 R.n3 k3] 28)).alloc (.cells #[.slice b1 T.n1 l1, .slice b2 T.n2 l2, .slice b3 T.n3 l3] 28)) := Below.refl _ _
  have HO : Hid (Below w.heap.size w ((w.alloc (.cells #[.slice a1 R.n1 k1, .slice a2 R.n2 k2, .slice a3 R.n3 k3] 28)).alloc (.cells #[.slice b1 T.n1 l1, .slice b2 T.n2 l2, .slice b3 T.n3 l3] 28))) := h0.old
  clear h0
  by_cases n1 : R.n1 = T.n1
  case neg =>
    have HS : Hid (¬ Same R T) := fun h => n1 h.n1
    have nb : ((R.n1 : Int) != (T.n1 : Int)) = true := by simp; omega
    go_enter Try.func16, Try.ntmps16
    go_wp2
    go_ret
    exact ⟨_, ⟨rfl, not_same HS.out⟩, HO.out⟩
  by_cases n2 : R.n2 = T.n2
  case neg =>
    have HS : Hid (¬ Same R T) := fun h => n2 h.n2
    have nb : ((R.n2 : Int) != (T.n2 : Int)) = true := by simp; omega
    have na : ((R.n1 : Int) != (T.n1 : Int)) = false := by simp; omega
    clear n1
    go_enter Try.func16, Try.ntmps16
    go_wp2
    go_ret
    exact ⟨_, ⟨rfl, not_same HS.out⟩, HO.out⟩
  by_cases n3 : R.n3 = T.n3
  case neg =>
    have HS : Hid (¬ Same R T) := fun h => n3 h.n3
    have nb : ((R.n3 : Int) != (T.n3 : Int)) = true := by simp; omega
    have na : ((R.n1 : Int) != (T.n1 : Int)) = false := by simp; omega
    have nc : ((R.n2 : Int) != (T.n2 : Int)) = false := by simp; omega
    clear n1 n2
    go_enter Try.func16, Try.ntmps16
    go_wp2
    go_ret
    exact ⟨_, ⟨rfl, not_same HS.out⟩, HO.out⟩
  obtain ⟨m1, m2, m3, tc, td, te⟩ := T
  have n1 : R.n1 = m1 := n1
  have n2 : R.n2 = m2 := n2
  have n3 : R.n3 = m3 := n3
  subst n1 n2 n3
  exact same_len R tc td te a1 a2 a3 b1 b2 b3 k1 k2 k3 l1 l2 l3 w hA hB
end Go.Proofs.Ytdjpkgaicmklmab

/- parcelkeep.records, walked: what a bundle's records are and where, and how long it is. -/
namespace Go.Proofs.Ytdjpkgaicmklmab
open Go.RowKit

/-- Each block but the list's own is as it was. -/
def Kept (ad : Option Addr) (w w' : World) : Prop := ∀ k, k < w.heap.size → (∀ b, ad = some b → b.block ≠ k) → w'.heap[k]? = w.heap[k]?

section
variable {P : Program} {w : World} {ops : Array Oper} {rest : List Oper} {o : Oper} {a : Act} {Q : Exit → Act → World → Prop}

/-- 'l = append(l, x)', and what is elsewhere stays. -/
theorem wpList_push2 (hgd : o.guard = none) (s x : Operand) (t : TypeId) (ho : o.op = .call { callee := .builtin .append, args := #[s, x], argTypes := #[t, t] })
    (B e m bytes : Nat) (z : Value) (ht : P.underlying t = some (.slice e)) (hinfo : (P.info? e).map (fun i => (i.zero, i.size, i.bytes)) = some (some z, m, bytes)) (hzs : z.cells.size = m) (hm : 0 < m)
    (ad : Option Addr) (n cap : Nat) (xs : List Value) (hs : a.eval s = .slice ad n cap) (hown : Vec w B e m ad n cap xs)
    (ad1 : Addr) (c : Nat) (row : List Value) (hx : a.eval x = .slice (some ad1) 1 c) (hl : row.length = m) (hnews : ∀ j u, row[j]? = some u → w.cell? (ad1.add j) = some u) (h1 : ∀ u, u ∈ row → u.oneCell' = true)
    (hbytes : (n + 1) * bytes ≤ 140737488355328) (hn : n < 9223372036854775807) (hB : B ≤ w.heap.size)
    (h : ∀ ad' cap' w', Vec w' B e m ad' (n + 1) cap' (xs ++ row) → Below B w w' → Kept ad w w' → wpList P ops Q rest (a.put o.dst (.slice ad' (n + 1) cap')) w') : wpList P ops Q (o :: rest) a w := by
  obtain ⟨i, hi, hzz⟩ := Option.map_eq_some_iff.1 hinfo
  simp only [Prod.mk.injEq] at hzz
  obtain ⟨hz, hsz, hby⟩ := hzz
  refine wpList_append_lies w hgd s x t ho B e i z m bytes ht hi hz hsz hby hzs hm (.slice ad n cap) n xs hs hown ad1 1 c row hx (by rw [hl, Nat.one_mul]) hnews h1 (by omega) (by unfold maxLen; omega) hbytes hB w.heap.size rfl ?_
  intro g cap' w' ho' hgr _ _
  refine h (some ⟨g, 0, none⟩) cap' w' ho' ?_ ?_
  · exact (Below.refl _ _).grown hgr hB (fun k hk => (World.ownsRow.lt hown k hk).1)
  · intro k hk hne
    refine hgr.block k hk ?_
    cases ad with
    | none => simp [Value.ownBlock]
    | some b => simp [Value.ownBlock]; exact fun e => hne b rfl e.symm
end

/-- The variable's box is as it was behind the append. -/
theorem Kept.box {wr w' : World} {o1 o2 : Obj} {B e m : Nat} {ad : Option Addr} {n cap : Nat} {xs : List Value} (hk : Kept ad ((wr.alloc o1).alloc o2) w') (hv : Vec wr B e m ad n cap xs) : w'.heap[wr.heap.size]? = some o1 := by
  rw [hk wr.heap.size (by simp; omega) ?_]
  · show ((wr.heap.push o1).push o2)[wr.heap.size]? = _
    rw [Array.getElem?_push, if_neg (by simp), Array.getElem?_push, if_pos rfl]
  · intro b hb
    subst hb
    have := World.ownsRow.lt hv b.block rfl
    omega
theorem box_cell {w : World} {g : Nat} {cs : Array Value} {t : TypeId} (h : w.heap[g]? = some (.cells cs t)) (j : Nat) : w.cell? ⟨g, j, none⟩ = cs[j]? := by
  simp [World.cell?, h]

/-- A record at its place. -/
def Fd.put (f : Fd) (p : Nat) : Fd := { f with at_ := p }
/-- Records one directly behind the other, from a place on. -/
def atL : Nat → List Fd → List Fd
  | _, [] => []
  | p, f :: l => f.put p :: atL (p + lenF f) l
theorem atL_snoc (f : Fd) : ∀ (p : Nat) (l : List Fd), atL p (l ++ [f]) = atL p l ++ [f.put (p + lenL l)]
  | p, [] => by simp [atL, lenL]
  | p, g :: l => by
    simp only [List.cons_append, atL, atL_snoc f (p + lenF g) l]
    simp [lenL]
    congr 1; omega
theorem atL_length : ∀ (p : Nat) (l : List Fd), (atL p l).length = l.length
  | _, [] => rfl
  | p, f :: l => by simp [atL, atL_length (p + lenF f) l]
theorem ones9 (f : Fd) : ∀ v, v ∈ f.cells → v.oneCell' = true := by intro v h; simp at h; rcases h with rfl | rfl | rfl | rfl | rfl | rfl | rfl | rfl | rfl <;> rfl

end Go.Proofs.Ytdjpkgaicmklmab

/- What is written is read back: numbers, records, frames; what Salvage finds in a bundle that is cut. -/
namespace Go.Proofs.Ytdjpkgaicmklmab
open Go.RowKit

theorem rdAcc_num_back (x : List UInt8) : ∀ (k K : Nat) (n : Int), 0 ≤ n → n < 128 ^ (k + 1) → k ≤ K → ∀ (j i : Nat) (v : Int), rdAcc (k + 1 + j) i v ((numI K n).map byt ++ x) = some (v + n * 128 ^ i, i + (numI K n).length)
  | 0, K, n, h0, h1, _, j, i, v => by
    have h1 : n < 128 := by simpa using h1
    have hb := byt_toNat n h0 (by omega)
    rw [numI_small K n h1, show 0 + 1 + j = j + 1 by omega]
    simp only [List.map_cons, List.map_nil, List.cons_append, List.nil_append, rdAcc, List.length_cons, List.length_nil]
    rw [if_pos (by omega), show (((byt n).toNat % 128 : Nat) : Int) = n by omega]
  | k + 1, 0, n, _, _, hk, _, _, _ => by omega
  | k + 1, K + 1, n, h0, h1, hk, j, i, v => by
    by_cases hn : n < 128
    · have hb := byt_toNat n h0 (by omega)
      rw [numI_small (K + 1) n hn, show k + 1 + 1 + j = (k + 1 + j) + 1 by omega]
      simp only [List.map_cons, List.map_nil, List.cons_append, List.nil_append, rdAcc, List.length_cons, List.length_nil]
      rw [if_pos (by omega), show (((byt n).toNat % 128 : Nat) : Int) = n by omega]
    · have hb := byt_toNat (n % 128 + 128) (by omega) (by omega)
      have e : numI (K + 1) n = (n % 128 + 128) :: numI K (n / 128) := by simp [numI, hn]
      rw [e, show k + 1 + 1 + j = (k + 1 + j) + 1 by omega]
      simp only [List.map_cons, List.cons_append, rdAcc]
      rw [if_neg (by omega), rdAcc_num_back x k K (n / 128) (by omega) (by rw [Int.pow_succ] at h1; omega) (by omega) j (i + 1)]
      have ev : (((byt (n % 128 + 128)).toNat % 128 : Nat) : Int) = n % 128 := by omega
      rw [ev, Int.pow_succ]
      have : v + n % 128 * 128 ^ i + n / 128 * (128 ^ i * 128) = v + n * 128 ^ i := by
        have h : n = n / 128 * 128 + n % 128 := by omega
        have e2 : n / 128 * (128 ^ i * 128) = n / 128 * 128 * 128 ^ i := by rw [Int.mul_comm (128 ^ i) 128, Int.mul_assoc]
        rw [e2]
        conv => rhs; rw [h]
        rw [Int.add_mul]; omega
      rw [this]
      simp; omega
theorem numRd_back {n : Int} (h : Num n) (x : List UInt8) : numRd (numB n ++ x) = some (n, (numB n).length) := by
  have e := rdAcc_num_back x 8 9 n h.1 (by have := h.2; omega) (by omega) 0 0 0
  have e2 : rdAcc 9 0 0 (numB n ++ x) = some (n, (numB n).length) := by
    unfold numB; rw [e]; simp
  unfold numRd
  rw [e2]
  simp only
  rw [if_pos]
  simp
theorem numsRd_back {n : Int} (h : Num n) (k : Nat) (x : List UInt8) : numsRd (k + 1) (numB n ++ x) = (numsRd k x).map fun p => (n :: p.1, p.2) := by
  simp only [numsRd, numRd_back h, List.drop_left]
  cases numsRd k x <;> rfl
/-- What is written is read. -/
theorem recRd_back {f : Fd} (h : FdOk f) (hs : f.seq = 0 → f.base = 0) : recRd (recF f) = some f := by
  rcases h with ⟨s, b, rfl, h1, h2, h3⟩ | ⟨c, rfl, h1, h2⟩ | ⟨c, rfl, h1, h2, h3, h4⟩ | ⟨c, rfl, h1, h2⟩
  · rw [recF_head, recHead, rec4, numsRd_back h1]
    simp only [numsRd, Option.map_some]
    by_cases hq : s = 0
    · have : b = 0 := hs hq
      subst hq this
      simp
    · simp only [if_neg hq]
      rw [if_pos (by simp [fourI]), fourRd_four b h2 (by omega)]
  · rw [recF_clock, recClock, rec1, numsRd_back h1]
    rw [show numB c.count = numB c.count ++ [] by simp, numsRd_back h2]
    simp [numsRd]
  · rw [recF_card, recCard, rec2, numsRd_back h1, numsRd_back h2, numsRd_back h3]
    simp only [numsRd, Option.map_some]
    obtain ⟨i, s, n, g, x⟩ := c
    cases g
    · simp [str_data]
    · simp [str_data]
  · rw [recF_edit, recEdit, rec3, numsRd_back h1]
    simp [numsRd, str_data]

theorem recF_pos (f : Fd) : 0 < (recF f).length := by
  unfold recF
  split
  · simp [recHead]
  · split
    · simp [recClock]
    · split
      · simp [recCard]
      · simp [recEdit]
theorem standRd_back {f : Fd} (h : FdOk f) (hs : f.seq = 0 → f.base = 0) (x : List UInt8) : standRd (frameB (recF f) ++ x) = some (f, lenF f) := by
  have hl := recF_length h
  have hp := recF_pos f
  have hk : (byt (recF f).length).toNat = (recF f).length := by have := byt_toNat (recF f).length (by omega) (by omega); omega
  simp only [frameB, List.cons_append, standRd]
  rw [if_pos (by simp), hk, if_neg (by simp only [List.length_append, fourI, List.length_cons]; omega)]
  have e1 : (recF f ++ fourI (crc pSum (byt (recF f).length :: recF f)) ++ x).take (recF f).length = recF f := by
    rw [List.append_assoc, List.take_left]
  have e2 : ((recF f ++ fourI (crc pSum (byt (recF f).length :: recF f)) ++ x).drop (recF f).length).take 4 = fourI (crc pSum (byt (recF f).length :: recF f)) := by
    rw [List.append_assoc, List.drop_left, List.take_append_of_le_length (by simp [fourI])]
    simp [fourI]
  rw [e1, e2, if_pos rfl, recRd_back h hs]
  rfl

abbrev framesB (l : List Fd) : List UInt8 := l.flatMap (fun f => frameB (recF f))
theorem framesB_length (l : List Fd) : (framesB l).length = lenL l := by
  induction l with
  | nil => rfl
  | cons f l ih => simp only [framesB, List.flatMap_cons, List.length_append, frameB_length, lenL, List.map_cons, List.sum_cons, lenF] at ih ⊢; rw [ih]
def Okay (l : List Fd) : Prop := ∀ f, f ∈ l → FdOk f ∧ (f.seq = 0 → f.base = 0)

/-- Of frames that are cut, those that are left whole are found where they stand. -/
theorem salvF_cut (tail : List UInt8) : ∀ (l : List Fd), Okay l → ∀ (j fuel p : Nat), ((framesB l ++ tail).take j).length ≤ fuel → ∀ i, i < l.length → lenL (l.take (i + 1)) ≤ j →
    (salvF fuel p ((framesB l ++ tail).take j))[i]? = (atL p l)[i]?
  | [], _, _, _, _, _, i, hi, _ => by simp at hi
  | f :: l, ho, j, fuel, p, hf, i, hi, hj => by
    have hw := ho f (by simp)
    have ho' : Okay l := fun g hg => ho g (by simp [hg])
    have hlf : lenF f ≤ j := by
      have : lenL ((f :: l).take (i + 1)) = lenF f + lenL (l.take i) := by simp [lenL]
      omega
    have e : (framesB (f :: l) ++ tail).take j = frameB (recF f) ++ (framesB l ++ tail).take (j - lenF f) := by
      have hlen : (frameB (recF f)).length = lenF f := frameB_length _
      rw [show framesB (f :: l) ++ tail = frameB (recF f) ++ (framesB l ++ tail) by simp [framesB]]
      rw [List.take_append, hlen, List.take_of_length_le (by omega)]
    rw [e] at hf ⊢
    have hlen : (frameB (recF f)).length = lenF f := frameB_length _
    obtain ⟨fuel, rfl⟩ : ∃ k, fuel = k + 1 := ⟨fuel - 1, by simp [hlen, lenF] at hf; omega⟩
    have hne : frameB (recF f) ++ (framesB l ++ tail).take (j - lenF f) ≠ [] := by simp [frameB]
    rw [salvF_some hne (standRd_back hw.1 hw.2 _)]
    have ed : (frameB (recF f) ++ (framesB l ++ tail).take (j - lenF f)).drop (lenF f) = (framesB l ++ tail).take (j - lenF f) := by rw [← hlen, List.drop_left]
    rw [ed]
    cases i with
    | zero => rfl
    | succ i =>
      simp only [List.getElem?_cons_succ, atL]
      refine salvF_cut tail l ho' (j - lenF f) fuel (p + lenF f) ?_ i (by simpa using hi) ?_
      · rw [List.length_append, hlen] at hf; simp [lenF] at hf ⊢; omega
      · have : lenL ((f :: l).take (i + 1 + 1)) = lenF f + lenL (l.take (i + 1)) := by simp [lenL]
        omega
theorem salvF_small : ∀ (fuel p : Nat) (s : List UInt8), s.length < 8 → salvF fuel p s = []
  | 0, _, _, _ => rfl
  | k + 1, p, s, h => by
    by_cases hs : s = []
    · subst hs; rfl
    · rw [salvF_none hs (standRd_short s h)]
      exact salvF_small k (p + 1) (s.drop 1) (by simp; omega)
/-- Of frames and a few bytes behind them these frames are found. -/
theorem salvF_whole (tail : List UInt8) (ht : tail.length < 8) : ∀ (l : List Fd), Okay l → ∀ (fuel p : Nat), (framesB l ++ tail).length ≤ fuel → salvF fuel p (framesB l ++ tail) = atL p l
  | [], _, fuel, p, _ => by simp only [framesB, List.flatMap_nil, List.nil_append, atL]; exact salvF_small _ _ _ ht
  | f :: l, ho, fuel, p, hf => by
    have hw := ho f (by simp)
    have ho' : Okay l := fun g hg => ho g (by simp [hg])
    have hlen : (frameB (recF f)).length = lenF f := frameB_length _
    have e : framesB (f :: l) ++ tail = frameB (recF f) ++ (framesB l ++ tail) := by simp [framesB]
    rw [e] at hf ⊢
    rw [List.length_append, hlen] at hf
    obtain ⟨fuel, rfl⟩ : ∃ k, fuel = k + 1 := ⟨fuel - 1, by simp [lenF] at hf; omega⟩
    rw [salvF_some (by simp [frameB]) (standRd_back hw.1 hw.2 _), ← hlen, List.drop_left, hlen, salvF_whole tail ht l ho' fuel (p + lenF f) (by simp [lenF] at hf ⊢; omega)]
    rfl

theorem standRd_first {c : UInt8} {s : List UInt8} (h : c ≠ 245) : standRd (c :: s) = none := by
  match s with
  | [] | [_] => rfl
  | y :: k :: t => simp only [standRd]; rw [if_neg (fun e => h e.1)]
theorem salvF_magic (s : List UInt8) : ∀ fuel, (80 :: 82 :: 67 :: 49 :: s).length ≤ fuel → ∃ k, s.length ≤ k ∧ salvF fuel 0 (80 :: 82 :: 67 :: 49 :: s) = salvF k 4 s := by
  intro fuel h
  obtain ⟨k, rfl⟩ : ∃ k, fuel = k + 1 + 1 + 1 + 1 := ⟨fuel - 4, by simp at h; omega⟩
  refine ⟨k, by simp at h; omega, ?_⟩
  rw [salvF_none (by simp) (standRd_first (by decide)), List.drop_one, List.tail_cons, salvF_none (by simp) (standRd_first (by decide)), List.drop_one, List.tail_cons,
    salvF_none (by simp) (standRd_first (by decide)), List.drop_one, List.tail_cons, salvF_none (by simp) (standRd_first (by decide)), List.drop_one, List.tail_cons]
/-- Of a bundle its records are found, and no others. -/
theorem salv_bundle (l : List Fd) (h : Okay l) : salv (bundleB l) = atL 4 l := by
  have e : bundleB l = 80 :: 82 :: 67 :: 49 :: (framesB l ++ fourI (crc pSeal (bodyB l))) := by simp [bundleB, bodyB, framesB]
  unfold salv
  rw [e]
  obtain ⟨k, hk, hs⟩ := salvF_magic (framesB l ++ fourI (crc pSeal (bodyB l))) _ (Nat.le_refl _)
  rw [hs]
  exact salvF_whole _ (by simp [fourI]) l h k 4 hk
/-- Of a bundle that is cut those that are left whole are found first. -/
theorem salv_cut (l : List Fd) (h : Okay l) (k i : Nat) (hi : i < l.length) (hk : 4 + lenL (l.take (i + 1)) ≤ k) : (salv ((bundleB l).take k))[i]? = (atL 4 l)[i]? := by
  have e : bundleB l = 80 :: 82 :: 67 :: 49 :: (framesB l ++ fourI (crc pSeal (bodyB l))) := by simp [bundleB, bodyB, framesB]
  obtain ⟨j, rfl⟩ : ∃ j, k = j + 1 + 1 + 1 + 1 := ⟨k - 4, by omega⟩
  unfold salv
  rw [e]
  simp only [List.take_succ_cons]
  obtain ⟨k, hk2, hs⟩ := salvF_magic ((framesB l ++ fourI (crc pSeal (bodyB l))).take j) _ (Nat.le_refl _)
  rw [hs]
  exact salvF_cut _ l h j k 4 hk2 i hi (by omega)
theorem atL_at : ∀ (l : List Fd) (p i : Nat) (h : i < l.length), (atL p l)[i]? = some ((l[i]).put (p + lenL (l.take i)))
  | f :: l, p, 0, _ => by simp [atL, lenL]
  | f :: l, p, i + 1, h => by
    simp only [atL, List.getElem?_cons_succ]
    rw [atL_at l (p + lenF f) i (by simpa using h)]
    simp [lenL]; congr 1; omega
end Go.Proofs.Ytdjpkgaicmklmab

/- What was found, as it lies in memory; how much it is at most. -/
namespace Go.Proofs.Ytdjpkgaicmklmab
open Go.RowKit

theorem Lies.found {w : World} {a : Option Addr} {n : Nat} {c : Nat → Fd} (h : Lies w a n 9 (fun i => (c i).cells)) (cap : Nat) {k : Nat} (hk : k < n) :
    ∃ b o, b < w.heap.size ∧ (∀ w', (Instr.indexAt 93 (.slice a n cap) (.int .i64 (k : Int))).run Try.prog w' = .ok (.pointer (some ⟨b, o, none⟩)) w') ∧
      w.cell? ⟨b, o, none⟩ = some (.int .i64 (c k).at_) ∧ w.cell? ⟨b, o + 1, none⟩ = some (.int .i64 (c k).kind) ∧ w.cell? ⟨b, o + 2, none⟩ = some (.int .i64 (c k).seq) ∧
      w.cell? ⟨b, o + 3, none⟩ = some (.int .i64 (c k).base) ∧ w.cell? ⟨b, o + 4, none⟩ = some (.int .i64 (c k).id) ∧ w.cell? ⟨b, o + 5, none⟩ = some (.int .i64 (c k).site) ∧
      w.cell? ⟨b, o + 6, none⟩ = some (.int .i64 (c k).count) ∧ w.cell? ⟨b, o + 7, none⟩ = some (.bool (c k).gone) ∧ w.cell? ⟨b, o + 8, none⟩ = some (.string (c k).text) := by
  obtain ⟨b, o, hb, hi, hc⟩ := h.at cap (P := Try.prog) (t := 93) (by kernel_rfl) (by kernel_rfl) hk
  exact ⟨b, o, hb, hi, hc 0 _ (by omega) rfl, hc 1 _ (by omega) rfl, hc 2 _ (by omega) rfl, hc 3 _ (by omega) rfl, hc 4 _ (by omega) rfl, hc 5 _ (by omega) rfl, hc 6 _ (by omega) rfl, hc 7 _ (by omega) rfl, hc 8 _ (by omega) rfl⟩
theorem fvec_lies {w : World} {B : Nat} {ad : Option Addr} {n cap : Nat} {L : List Fd} (h : Vec w B 117 9 ad n cap (fcells L)) (hn : n = L.length) : Lies w ad n 9 (fun i => (L.getD i fd0).cells) := by
  refine Vec.lies (rows := L.map Fd.cells) h ?_ (by simp [hn]) _ ?_
  · intro r hr; obtain ⟨f, _, rfl⟩ := List.mem_map.1 hr; rfl
  · intro i hi; subst hn; simp [List.getD, hi]
theorem salvF_length : ∀ (k p : Nat) (s : List UInt8), (salvF k p s).length ≤ k
  | 0, _, _ => by simp [salvF]
  | k + 1, p, s => by
    simp only [salvF]
    split
    · simp
    · split
      · rename_i f n _; have := salvF_length k (p + n) (s.drop n); simp; omega
      · have := salvF_length k (p + 1) (s.drop 1); omega
theorem salv_length (b : List UInt8) : (salv b).length ≤ b.length := salvF_length _ _ _
end Go.Proofs.Ytdjpkgaicmklmab

