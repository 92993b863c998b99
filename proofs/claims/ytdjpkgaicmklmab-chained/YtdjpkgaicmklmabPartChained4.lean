/- Texts of the proof, one behind the other; what each holds is said at its head. -/
import Derived.Test.YtdjpkgaicmklmabPartChained3
import Derived.Test.YtdjpkgaicmklmabPartChained1
import Derived.Test.YtdjpkgaicmklmabPartChained2
import Derived.Test.YtdjpkgaicmklmabPartChained0
import Derived.Deep.RegionLaw
/- The program's foundIn, walked. -/
namespace Go.Proofs.Ytdjpkgaicmklmab
open Go.RowKit

theorem three_boxes (w : World) (e1 e2 e3 : Nat) (a b c : Array Value) : Bx (((w.alloc (.cells a e1)).alloc (.cells b e2)).alloc (.cells c e3)) w.heap.size e1 a.toList ∧ Bx (((w.alloc (.cells a e1)).alloc (.cells b e2)).alloc (.cells c e3)) (w.heap.size + 1) e2 b.toList ∧
    Bx (((w.alloc (.cells a e1)).alloc (.cells b e2)).alloc (.cells c e3)) (w.heap.size + 2) e3 c.toList ∧ (((w.alloc (.cells a e1)).alloc (.cells b e2)).alloc (.cells c e3)).heap.size = w.heap.size + 3 ∧ Below w.heap.size w (((w.alloc (.cells a e1)).alloc (.cells b e2)).alloc (.cells c e3)) := by
  obtain ⟨h1, h2, h3, h4⟩ := two_boxes w e1 e2 a b
  have h5 := Bx.new ((w.alloc (.cells a e1)).alloc (.cells b e2)) e3 c
  rw [h3] at h5
  exact ⟨h1.alloc _, h2.alloc _, h5, by show (((w.alloc _).alloc _).heap.push _).size = _; simp only [Array.size_push]; rw [h3], h4.alloc (by omega) _⟩

/-- What foundIn answers. -/
def foundV (x : Option Fd) : Value := match x with
  | some f => .tuple #[fdV f, .bool true]
  | none => .tuple #[fdV fd0, .bool false]

theorem cuNum_nums {s : List UInt8} {d : Bool} {v : Int} {n : Nat} (h : numRd s = some (v, n)) : cuNum (s, d) = (v, s.drop n, d) := by simp [cuNum, h]
theorem cuNum_none {s : List UInt8} {d : Bool} (h : numRd s = none) : cuNum (s, d) = (0, s, true) := by simp [cuNum, h]
theorem cuNum_failed (s : List UInt8) : (cuNum (s, true)).2.2 = true := by unfold cuNum; split <;> rfl
theorem cuEnd_failed (s : List UInt8) : (cuEnd (s, true)).2 = true := by unfold cuEnd; split <;> rfl
theorem cuFlag_failed (s : List UInt8) : (cuFlag (s, true)).2.2 = true := by
  unfold cuFlag; dsimp only; split
  · rfl
  · split <;> rfl
theorem cuFour_failed (s : List UInt8) : (cuFour (s, true)).2.2 = true := by unfold cuFour; split <;> rfl
theorem cu_eta (c : Cu) (h : c.2 = true) : c = (c.1, true) := by obtain ⟨a, b⟩ := c; simp at h; subst h; rfl

theorem tkEdit_true (s : List UInt8) : (tkEdit (s, true)).2.2 = true := cuNum_failed s
theorem cuEnd_true (c : Cu) (h : c.2 = true) : (cuEnd c).2 = true := by rw [cu_eta c h]; exact cuEnd_failed _
theorem cuNum_true (c : Cu) (h : c.2 = true) : (cuNum c).2.2 = true := by rw [cu_eta c h]; exact cuNum_failed _
theorem cuFlag_true (c : Cu) (h : c.2 = true) : (cuFlag c).2.2 = true := by rw [cu_eta c h]; exact cuFlag_failed _
theorem rec3 (s : List UInt8) : recRd (3 :: s) = match numsRd 1 s with
      | some ([a], t) => some (fdEdit ⟨a, str t⟩)
      | _ => none := by simp [recRd] <;> rfl
theorem rec1 (s : List UInt8) : recRd (1 :: s) = match numsRd 2 s with
      | some ([a, b], r) => if r = [] then some (fdClock ⟨a, b⟩) else none
      | _ => none := by simp [recRd] <;> rfl
theorem rec2 (s : List UInt8) : recRd (2 :: s) = match numsRd 3 s with
      | some ([a, b, d], g :: t) => if g.toNat ≤ 1 then some (fdCard ⟨a, b, d, g == 1, str t⟩) else none
      | _ => none := by simp [recRd] <;> rfl
theorem rec4 (s : List UInt8) : recRd (4 :: s) = match numsRd 1 s with
      | some ([q], r) => if q = 0 then (if r = [] then some (fdHead 0 0) else none) else if r.length = 4 then some (fdHead q (fourRd r)) else none
      | _ => none := by simp [recRd] <;> rfl
theorem rec_edit_eq (s : List UInt8) : recRd (3 :: s) = if (tkEdit (s, false)).2.2 then none else some (tkEdit (s, false)).1 := by
  rw [rec3]
  cases h : numRd s with
  | none => simp only [numsRd, h, tkEdit, cuNum_none h]; rfl
  | some p => obtain ⟨v, n⟩ := p; simp only [numsRd, h, tkEdit, cuNum_nums h]; rfl
theorem rec_clock_eq (s : List UInt8) : recRd (1 :: s) = if (tkClock (s, false)).2.2 then none else some (tkClock (s, false)).1 := by
  rw [rec1]
  cases h : numRd s with
  | none =>
    have e : (tkClock (s, false)).2.2 = true := by simp only [tkClock, cuNum_none h]; exact cuEnd_true _ rfl
    simp only [numsRd, h, e]; rfl
  | some p =>
    obtain ⟨v, n⟩ := p
    cases h2 : numRd (s.drop n) with
    | none =>
      have e : (tkClock (s, false)).2.2 = true := by simp only [tkClock, cuNum_nums h, cuNum_none h2]; exact cuEnd_true _ rfl
      simp only [numsRd, h, h2, e]; rfl
    | some p =>
      obtain ⟨v2, n2⟩ := p
      simp only [numsRd, h, h2, tkClock, cuNum_nums h, cuNum_nums h2, cuEnd]
      by_cases hr : (s.drop n).drop n2 = []
      · rw [if_pos hr, if_pos hr]; rfl
      · rw [if_neg hr, if_neg hr]; rfl
theorem rec_head_eq (s : List UInt8) : recRd (4 :: s) = if (tkHead (s, false)).2.2 then none else some (tkHead (s, false)).1 := by
  rw [rec4]
  cases h : numRd s with
  | none =>
    have e : (tkHead (s, false)).2.2 = true := by simp only [tkHead, cuNum_none h]; exact cuEnd_true _ rfl
    simp only [numsRd, h, e]; rfl
  | some p =>
    obtain ⟨v, n⟩ := p
    simp only [numsRd, h, tkHead, cuNum_nums h]
    by_cases hv : v = 0
    · subst hv
      simp only [↓reduceIte, cuEnd]
      by_cases hr : s.drop n = []
      · rw [if_pos hr, if_pos hr]; rfl
      · rw [if_neg hr, if_neg hr]; rfl
    · simp only [if_neg hv, cuFour]
      by_cases h4 : (s.drop n).length < 4
      · have e : (cuEnd (s.drop n, true)).2 = true := cuEnd_true _ rfl
        simp only [if_pos h4, e, if_neg (show ¬ (s.drop n).length = 4 by omega)]; rfl
      · simp only [if_neg h4]
        by_cases h5 : (s.drop n).length = 4
        · have e : (s.drop n).drop 4 = [] := List.drop_of_length_le (by omega)
          have e2 : (s.drop n).take 4 = s.drop n := List.take_of_length_le (by omega)
          simp only [e, e2, cuEnd, if_pos h5]; rfl
        · have e : (s.drop n).drop 4 ≠ [] := by intro hh; have := congrArg List.length hh; rw [List.length_drop] at this; simp only [List.length_nil] at this; omega
          simp only [cuEnd, if_neg e, if_neg h5]; rfl
theorem rec_card_eq (s : List UInt8) : recRd (2 :: s) = if (tkCard (s, false)).2.2 then none else some (tkCard (s, false)).1 := by
  rw [rec2]
  cases h : numRd s with
  | none =>
    have e : (tkCard (s, false)).2.2 = true := by simp only [tkCard, cuNum_none h]; exact cuFlag_true _ rfl
    simp only [numsRd, h, e]; rfl
  | some p =>
    obtain ⟨v, n⟩ := p
    cases h2 : numRd (s.drop n) with
    | none =>
      have e : (tkCard (s, false)).2.2 = true := by simp only [tkCard, cuNum_nums h, cuNum_none h2]; exact cuFlag_true _ rfl
      simp only [numsRd, h, h2, e]; rfl
    | some p =>
      obtain ⟨v2, n2⟩ := p
      cases h3 : numRd ((s.drop n).drop n2) with
      | none =>
        have e : (tkCard (s, false)).2.2 = true := by simp only [tkCard, cuNum_nums h, cuNum_nums h2, cuNum_none h3]; exact cuFlag_true _ rfl
        simp only [numsRd, h, h2, h3, e]; rfl
      | some p =>
        obtain ⟨v3, n3⟩ := p
        simp only [numsRd, h, h2, h3, tkCard, cuNum_nums h, cuNum_nums h2, cuNum_nums h3]
        generalize ((s.drop n).drop n2).drop n3 = r
        cases r with
        | nil => rfl
        | cons g t =>
          by_cases hg : g.toNat ≤ 1
          · simp only [cuFlag, if_pos hg, if_neg (show ¬ 1 < g.toNat by omega)]; rfl
          · simp only [cuFlag, if_neg hg, if_pos (show 1 < g.toNat by omega)]; rfl

set_option maxRecDepth 100000 in
set_option maxHeartbeats 4000000 in
theorem foundIn_head (s : List UInt8) (w : World) (hs : s.length ≤ 9223372036854775806) :
    Calls Try.prog 97 #[.string (str (4 :: s))] w fun e w' => e = .returned (foundV (recRd (4 :: s))) ∧ Below w.heap.size w w' := by
  have h0 : 0 < (str (4 :: s)).size := by rw [str_size]; simp
  have hx : (str (4 :: s)).extract 1 (str (4 :: s)).size = str s := by rw [str_extract, str_size]; simp
  have hne : (str (4 :: s)).toList.isEmpty = false := by rw [str_toList]; rfl
  have hk : ((str (4 :: s))[0]'h0).toNat = 4 := rfl
  have hle : (1 : Int) ≤ ((str (4 :: s)).size : Int) := by omega
  obtain ⟨hR, hC, hF, hW, hB⟩ := three_boxes w 117 137 117 fd0.cells.toArray (Cu.cells (s, false)).toArray fd0.cells.toArray
  have HE := rec_head_eq s
  go_enter Try.func97, Try.ntmps97
  go_wp2_with fail
  refine (tkHead_any (s, false) (w.heap.size + 1) _ hC (by simp only []; omega)).mono ?_
  rintro e w1 ⟨rfl, hC1, hT⟩
  replace hR := hR.but hT (Nat.lt_of_lt_of_le (by omega) (Nat.le_of_eq hW.symm)) (by omega)
  replace hF := hF.but hT (Nat.lt_of_lt_of_le (by omega) (Nat.le_of_eq hW.symm)) (by omega)
  replace hB := hT.below hB (Nat.le_trans (by omega) (Nat.le_of_eq hW.symm)) (by omega)
  replace hC := hC1
  clear hC1 hT hW hx hne hk hle
  generalize htk : tkHead (s, false) = X at *
  clear htk
  obtain ⟨f, r, d⟩ := X
  cases d with
  | true =>
    have HN : Hid (recRd (4 :: s) = none) := HE
    clear HE
    go_wp2_with (first
      | (refine wpList_bstore (by rfl) _ _ _ (by rfl) (w.heap.size + 2) 117 (by rfl) _ _ (by rfl) hF 9 (by rfl) (by kernel_rfl) (by rfl) (by intro x hx; simp at hx; rcases hx with rfl | rfl | rfl | rfl | rfl | rfl | rfl | rfl | rfl <;> rfl) ?_; intro w9 hF9 hU9; replace hF := hF9; replace hR := hR.upd hU9 (by omega); replace hC := hC.upd hU9 (by omega); replace hB := hU9.below hB (by omega); clear hF9 hU9)
      | (refine wpList_bget (by rfl) 4 _ (by rfl) (w.heap.size + 1) 137 1 (by rfl) _ hC _ (by rfl) _ Try.underlying4 (by rfl) ?_; dsimp only)
      | (refine wpList_bstore (by rfl) _ _ _ (by rfl) w.heap.size 117 (by rfl) _ _ (by rfl) hR 9 (by rfl) (by kernel_rfl) (by rfl) (by intro x hx; simp at hx; rcases hx with rfl | rfl | rfl | rfl | rfl | rfl | rfl | rfl | rfl <;> rfl) ?_; intro w9 hR9 hU9; replace hR := hR9; replace hF := hF.upd hU9 (by omega); replace hC := hC.upd hU9 (by omega); replace hB := hU9.below hB (by omega); clear hR9 hU9)
      | (refine wpList_bload (by rfl) _ _ (by rfl) (w.heap.size + 2) 117 (by rfl) _ hF _ Try.underlying117 (by rfl) 9 (by rfl) (by kernel_rfl) ?_))
    exact bodyPost_ret (v := .tuple #[fdV (fd0), .bool false]) (results_box2 (by rfl) _ _ w.heap.size 117 _ _ _ (by rfl) hR (by rfl) Try.underlying117 (by rfl) 9 (by rfl) (by kernel_rfl)) rfl ⟨by rw [HN.out]; rfl, hB⟩
  | false =>
    have HN : Hid (recRd (4 :: s) = some f) := HE
    clear HE
    go_wp2_with (first
      | (refine wpList_bstore (by rfl) _ _ _ (by rfl) (w.heap.size + 2) 117 (by rfl) _ _ (by rfl) hF 9 (by rfl) (by kernel_rfl) (by rfl) (by intro x hx; simp at hx; rcases hx with rfl | rfl | rfl | rfl | rfl | rfl | rfl | rfl | rfl <;> rfl) ?_; intro w9 hF9 hU9; replace hF := hF9; replace hR := hR.upd hU9 (by omega); replace hC := hC.upd hU9 (by omega); replace hB := hU9.below hB (by omega); clear hF9 hU9)
      | (refine wpList_bget (by rfl) 4 _ (by rfl) (w.heap.size + 1) 137 1 (by rfl) _ hC _ (by rfl) _ Try.underlying4 (by rfl) ?_; dsimp only)
      | (refine wpList_bstore (by rfl) _ _ _ (by rfl) w.heap.size 117 (by rfl) _ _ (by rfl) hR 9 (by rfl) (by kernel_rfl) (by rfl) (by intro x hx; simp at hx; rcases hx with rfl | rfl | rfl | rfl | rfl | rfl | rfl | rfl | rfl <;> rfl) ?_; intro w9 hR9 hU9; replace hR := hR9; replace hF := hF.upd hU9 (by omega); replace hC := hC.upd hU9 (by omega); replace hB := hU9.below hB (by omega); clear hR9 hU9)
      | (refine wpList_bload (by rfl) _ _ (by rfl) (w.heap.size + 2) 117 (by rfl) _ hF _ Try.underlying117 (by rfl) 9 (by rfl) (by kernel_rfl) ?_))
    exact bodyPost_ret (v := .tuple #[fdV (f), .bool true]) (results_box2 (by rfl) _ _ w.heap.size 117 _ _ _ (by rfl) hR (by rfl) Try.underlying117 (by rfl) 9 (by rfl) (by kernel_rfl)) rfl ⟨by rw [HN.out]; rfl, hB⟩

set_option maxRecDepth 100000 in
set_option maxHeartbeats 4000000 in
theorem foundIn_clock (s : List UInt8) (w : World) (hs : s.length ≤ 9223372036854775806) :
    Calls Try.prog 97 #[.string (str (1 :: s))] w fun e w' => e = .returned (foundV (recRd (1 :: s))) ∧ Below w.heap.size w w' := by
  have h0 : 0 < (str (1 :: s)).size := by rw [str_size]; simp
  have hx : (str (1 :: s)).extract 1 (str (1 :: s)).size = str s := by rw [str_extract, str_size]; simp
  have hne : (str (1 :: s)).toList.isEmpty = false := by rw [str_toList]; rfl
  have hk : ((str (1 :: s))[0]'h0).toNat = 1 := rfl
  have hle : (1 : Int) ≤ ((str (1 :: s)).size : Int) := by omega
  obtain ⟨hR, hC, hF, hW, hB⟩ := three_boxes w 117 137 117 fd0.cells.toArray (Cu.cells (s, false)).toArray fd0.cells.toArray
  have HE := rec_clock_eq s
  go_enter Try.func97, Try.ntmps97
  go_wp2_with fail
  refine (tkClock_any (s, false) (w.heap.size + 1) _ hC (by simp only []; omega)).mono ?_
  rintro e w1 ⟨rfl, hC1, hT⟩
  replace hR := hR.but hT (Nat.lt_of_lt_of_le (by omega) (Nat.le_of_eq hW.symm)) (by omega)
  replace hF := hF.but hT (Nat.lt_of_lt_of_le (by omega) (Nat.le_of_eq hW.symm)) (by omega)
  replace hB := hT.below hB (Nat.le_trans (by omega) (Nat.le_of_eq hW.symm)) (by omega)
  replace hC := hC1
  clear hC1 hT hW hx hne hk hle
  generalize htk : tkClock (s, false) = X at *
  clear htk
  obtain ⟨f, r, d⟩ := X
  cases d with
  | true =>
    have HN : Hid (recRd (1 :: s) = none) := HE
    clear HE
    go_wp2_with (first
      | (refine wpList_bstore (by rfl) _ _ _ (by rfl) (w.heap.size + 2) 117 (by rfl) _ _ (by rfl) hF 9 (by rfl) (by kernel_rfl) (by rfl) (by intro x hx; simp at hx; rcases hx with rfl | rfl | rfl | rfl | rfl | rfl | rfl | rfl | rfl <;> rfl) ?_; intro w9 hF9 hU9; replace hF := hF9; replace hR := hR.upd hU9 (by omega); replace hC := hC.upd hU9 (by omega); replace hB := hU9.below hB (by omega); clear hF9 hU9)
      | (refine wpList_bget (by rfl) 4 _ (by rfl) (w.heap.size + 1) 137 1 (by rfl) _ hC _ (by rfl) _ Try.underlying4 (by rfl) ?_; dsimp only)
      | (refine wpList_bstore (by rfl) _ _ _ (by rfl) w.heap.size 117 (by rfl) _ _ (by rfl) hR 9 (by rfl) (by kernel_rfl) (by rfl) (by intro x hx; simp at hx; rcases hx with rfl | rfl | rfl | rfl | rfl | rfl | rfl | rfl | rfl <;> rfl) ?_; intro w9 hR9 hU9; replace hR := hR9; replace hF := hF.upd hU9 (by omega); replace hC := hC.upd hU9 (by omega); replace hB := hU9.below hB (by omega); clear hR9 hU9)
      | (refine wpList_bload (by rfl) _ _ (by rfl) (w.heap.size + 2) 117 (by rfl) _ hF _ Try.underlying117 (by rfl) 9 (by rfl) (by kernel_rfl) ?_))
    exact bodyPost_ret (v := .tuple #[fdV (fd0), .bool false]) (results_box2 (by rfl) _ _ w.heap.size 117 _ _ _ (by rfl) hR (by rfl) Try.underlying117 (by rfl) 9 (by rfl) (by kernel_rfl)) rfl ⟨by rw [HN.out]; rfl, hB⟩
  | false =>
    have HN : Hid (recRd (1 :: s) = some f) := HE
    clear HE
    go_wp2_with (first
      | (refine wpList_bstore (by rfl) _ _ _ (by rfl) (w.heap.size + 2) 117 (by rfl) _ _ (by rfl) hF 9 (by rfl) (by kernel_rfl) (by rfl) (by intro x hx; simp at hx; rcases hx with rfl | rfl | rfl | rfl | rfl | rfl | rfl | rfl | rfl <;> rfl) ?_; intro w9 hF9 hU9; replace hF := hF9; replace hR := hR.upd hU9 (by omega); replace hC := hC.upd hU9 (by omega); replace hB := hU9.below hB (by omega); clear hF9 hU9)
      | (refine wpList_bget (by rfl) 4 _ (by rfl) (w.heap.size + 1) 137 1 (by rfl) _ hC _ (by rfl) _ Try.underlying4 (by rfl) ?_; dsimp only)
      | (refine wpList_bstore (by rfl) _ _ _ (by rfl) w.heap.size 117 (by rfl) _ _ (by rfl) hR 9 (by rfl) (by kernel_rfl) (by rfl) (by intro x hx; simp at hx; rcases hx with rfl | rfl | rfl | rfl | rfl | rfl | rfl | rfl | rfl <;> rfl) ?_; intro w9 hR9 hU9; replace hR := hR9; replace hF := hF.upd hU9 (by omega); replace hC := hC.upd hU9 (by omega); replace hB := hU9.below hB (by omega); clear hR9 hU9)
      | (refine wpList_bload (by rfl) _ _ (by rfl) (w.heap.size + 2) 117 (by rfl) _ hF _ Try.underlying117 (by rfl) 9 (by rfl) (by kernel_rfl) ?_))
    exact bodyPost_ret (v := .tuple #[fdV (f), .bool true]) (results_box2 (by rfl) _ _ w.heap.size 117 _ _ _ (by rfl) hR (by rfl) Try.underlying117 (by rfl) 9 (by rfl) (by kernel_rfl)) rfl ⟨by rw [HN.out]; rfl, hB⟩

set_option maxRecDepth 100000 in
set_option maxHeartbeats 4000000 in
theorem foundIn_card (s : List UInt8) (w : World) (hs : s.length ≤ 9223372036854775806) :
    Calls Try.prog 97 #[.string (str (2 :: s))] w fun e w' => e = .returned (foundV (recRd (2 :: s))) ∧ Below w.heap.size w w' := by
  have h0 : 0 < (str (2 :: s)).size := by rw [str_size]; simp
  have hx : (str (2 :: s)).extract 1 (str (2 :: s)).size = str s := by rw [str_extract, str_size]; simp
  have hne : (str (2 :: s)).toList.isEmpty = false := by rw [str_toList]; rfl
  have hk : ((str (2 :: s))[0]'h0).toNat = 2 := rfl
  have hle : (1 : Int) ≤ ((str (2 :: s)).size : Int) := by omega
  obtain ⟨hR, hC, hF, hW, hB⟩ := three_boxes w 117 137 117 fd0.cells.toArray (Cu.cells (s, false)).toArray fd0.cells.toArray
  have HE := rec_card_eq s
  go_enter Try.func97, Try.ntmps97
  go_wp2_with fail
  refine (tkCard_any (s, false) (w.heap.size + 1) _ hC (by simp only []; omega)).mono ?_
  rintro e w1 ⟨rfl, hC1, hT⟩
  replace hR := hR.but hT (Nat.lt_of_lt_of_le (by omega) (Nat.le_of_eq hW.symm)) (by omega)
  replace hF := hF.but hT (Nat.lt_of_lt_of_le (by omega) (Nat.le_of_eq hW.symm)) (by omega)
  replace hB := hT.below hB (Nat.le_trans (by omega) (Nat.le_of_eq hW.symm)) (by omega)
  replace hC := hC1
  clear hC1 hT hW hx hne hk hle
  generalize htk : tkCard (s, false) = X at *
  clear htk
  obtain ⟨f, r, d⟩ := X
  cases d with
  | true =>
    have HN : Hid (recRd (2 :: s) = none) := HE
    clear HE
    go_wp2_with (first
      | (refine wpList_bstore (by rfl) _ _ _ (by rfl) (w.heap.size + 2) 117 (by rfl) _ _ (by rfl) hF 9 (by rfl) (by kernel_rfl) (by rfl) (by intro x hx; simp at hx; rcases hx with rfl | rfl | rfl | rfl | rfl | rfl | rfl | rfl | rfl <;> rfl) ?_; intro w9 hF9 hU9; replace hF := hF9; replace hR := hR.upd hU9 (by omega); replace hC := hC.upd hU9 (by omega); replace hB := hU9.below hB (by omega); clear hF9 hU9)
      | (refine wpList_bget (by rfl) 4 _ (by rfl) (w.heap.size + 1) 137 1 (by rfl) _ hC _ (by rfl) _ Try.underlying4 (by rfl) ?_; dsimp only)
      | (refine wpList_bstore (by rfl) _ _ _ (by rfl) w.heap.size 117 (by rfl) _ _ (by rfl) hR 9 (by rfl) (by kernel_rfl) (by rfl) (by intro x hx; simp at hx; rcases hx with rfl | rfl | rfl | rfl | rfl | rfl | rfl | rfl | rfl <;> rfl) ?_; intro w9 hR9 hU9; replace hR := hR9; replace hF := hF.upd hU9 (by omega); replace hC := hC.upd hU9 (by omega); replace hB := hU9.below hB (by omega); clear hR9 hU9)
      | (refine wpList_bload (by rfl) _ _ (by rfl) (w.heap.size + 2) 117 (by rfl) _ hF _ Try.underlying117 (by rfl) 9 (by rfl) (by kernel_rfl) ?_))
    exact bodyPost_ret (v := .tuple #[fdV (fd0), .bool false]) (results_box2 (by rfl) _ _ w.heap.size 117 _ _ _ (by rfl) hR (by rfl) Try.underlying117 (by rfl) 9 (by rfl) (by kernel_rfl)) rfl ⟨by rw [HN.out]; rfl, hB⟩
  | false =>
    have HN : Hid (recRd (2 :: s) = some f) := HE
    clear HE
    go_wp2_with (first
      | (refine wpList_bstore (by rfl) _ _ _ (by rfl) (w.heap.size + 2) 117 (by rfl) _ _ (by rfl) hF 9 (by rfl) (by kernel_rfl) (by rfl) (by intro x hx; simp at hx; rcases hx with rfl | rfl | rfl | rfl | rfl | rfl | rfl | rfl | rfl <;> rfl) ?_; intro w9 hF9 hU9; replace hF := hF9; replace hR := hR.upd hU9 (by omega); replace hC := hC.upd hU9 (by omega); replace hB := hU9.below hB (by omega); clear hF9 hU9)
      | (refine wpList_bget (by rfl) 4 _ (by rfl) (w.heap.size + 1) 137 1 (by rfl) _ hC _ (by rfl) _ Try.underlying4 (by rfl) ?_; dsimp only)
      | (refine wpList_bstore (by rfl) _ _ _ (by rfl) w.heap.size 117 (by rfl) _ _ (by rfl) hR 9 (by rfl) (by kernel_rfl) (by rfl) (by intro x hx; simp at hx; rcases hx with rfl | rfl | rfl | rfl | rfl | rfl | rfl | rfl | rfl <;> rfl) ?_; intro w9 hR9 hU9; replace hR := hR9; replace hF := hF.upd hU9 (by omega); replace hC := hC.upd hU9 (by omega); replace hB := hU9.below hB (by omega); clear hR9 hU9)
      | (refine wpList_bload (by rfl) _ _ (by rfl) (w.heap.size + 2) 117 (by rfl) _ hF _ Try.underlying117 (by rfl) 9 (by rfl) (by kernel_rfl) ?_))
    exact bodyPost_ret (v := .tuple #[fdV (f), .bool true]) (results_box2 (by rfl) _ _ w.heap.size 117 _ _ _ (by rfl) hR (by rfl) Try.underlying117 (by rfl) 9 (by rfl) (by kernel_rfl)) rfl ⟨by rw [HN.out]; rfl, hB⟩

set_option maxRecDepth 100000 in
set_option maxHeartbeats 4000000 in
theorem foundIn_edit (s : List UInt8) (w : World) (hs : s.length ≤ 9223372036854775806) :
    Calls Try.prog 97 #[.string (str (3 :: s))] w fun e w' => e = .returned (foundV (recRd (3 :: s))) ∧ Below w.heap.size w w' := by
  have h0 : 0 < (str (3 :: s)).size := by rw [str_size]; simp
  have hx : (str (3 :: s)).extract 1 (str (3 :: s)).size = str s := by rw [str_extract, str_size]; simp
  have hne : (str (3 :: s)).toList.isEmpty = false := by rw [str_toList]; rfl
  have hk : ((str (3 :: s))[0]'h0).toNat = 3 := rfl
  have hle : (1 : Int) ≤ ((str (3 :: s)).size : Int) := by omega
  obtain ⟨hR, hC, hF, hW, hB⟩ := three_boxes w 117 137 117 fd0.cells.toArray (Cu.cells (s, false)).toArray fd0.cells.toArray
  have HE := rec_edit_eq s
  go_enter Try.func97, Try.ntmps97
  go_wp2_with fail
  refine (tkEdit_any (s, false) (w.heap.size + 1) _ hC (by simp only []; omega)).mono ?_
  rintro e w1 ⟨rfl, hC1, hT⟩
  replace hR := hR.but hT (Nat.lt_of_lt_of_le (by omega) (Nat.le_of_eq hW.symm)) (by omega)
  replace hF := hF.but hT (Nat.lt_of_lt_of_le (by omega) (Nat.le_of_eq hW.symm)) (by omega)
  replace hB := hT.below hB (Nat.le_trans (by omega) (Nat.le_of_eq hW.symm)) (by omega)
  replace hC := hC1
  clear hC1 hT hW hx hne hk hle
  generalize htk : tkEdit (s, false) = X at *
  clear htk
  obtain ⟨f, r, d⟩ := X
  cases d with
  | true =>
    have HN : Hid (recRd (3 :: s) = none) := HE
    clear HE
    go_wp2_with (first
      | (refine wpList_bstore (by rfl) _ _ _ (by rfl) (w.heap.size + 2) 117 (by rfl) _ _ (by rfl) hF 9 (by rfl) (by kernel_rfl) (by rfl) (by intro x hx; simp at hx; rcases hx with rfl | rfl | rfl | rfl | rfl | rfl | rfl | rfl | rfl <;> rfl) ?_; intro w9 hF9 hU9; replace hF := hF9; replace hR := hR.upd hU9 (by omega); replace hC := hC.upd hU9 (by omega); replace hB := hU9.below hB (by omega); clear hF9 hU9)
      | (refine wpList_bget (by rfl) 4 _ (by rfl) (w.heap.size + 1) 137 1 (by rfl) _ hC _ (by rfl) _ Try.underlying4 (by rfl) ?_; dsimp only)
      | (refine wpList_bstore (by rfl) _ _ _ (by rfl) w.heap.size 117 (by rfl) _ _ (by rfl) hR 9 (by rfl) (by kernel_rfl) (by rfl) (by intro x hx; simp at hx; rcases hx with rfl | rfl | rfl | rfl | rfl | rfl | rfl | rfl | rfl <;> rfl) ?_; intro w9 hR9 hU9; replace hR := hR9; replace hF := hF.upd hU9 (by omega); replace hC := hC.upd hU9 (by omega); replace hB := hU9.below hB (by omega); clear hR9 hU9)
      | (refine wpList_bload (by rfl) _ _ (by rfl) (w.heap.size + 2) 117 (by rfl) _ hF _ Try.underlying117 (by rfl) 9 (by rfl) (by kernel_rfl) ?_))
    exact bodyPost_ret (v := .tuple #[fdV (fd0), .bool false]) (results_box2 (by rfl) _ _ w.heap.size 117 _ _ _ (by rfl) hR (by rfl) Try.underlying117 (by rfl) 9 (by rfl) (by kernel_rfl)) rfl ⟨by rw [HN.out]; rfl, hB⟩
  | false =>
    have HN : Hid (recRd (3 :: s) = some f) := HE
    clear HE
    go_wp2_with (first
      | (refine wpList_bstore (by rfl) _ _ _ (by rfl) (w.heap.size + 2) 117 (by rfl) _ _ (by rfl) hF 9 (by rfl) (by kernel_rfl) (by rfl) (by intro x hx; simp at hx; rcases hx with rfl | rfl | rfl | rfl | rfl | rfl | rfl | rfl | rfl <;> rfl) ?_; intro w9 hF9 hU9; replace hF := hF9; replace hR := hR.upd hU9 (by omega); replace hC := hC.upd hU9 (by omega); replace hB := hU9.below hB (by omega); clear hF9 hU9)
      | (refine wpList_bget (by rfl) 4 _ (by rfl) (w.heap.size + 1) 137 1 (by rfl) _ hC _ (by rfl) _ Try.underlying4 (by rfl) ?_; dsimp only)
      | (refine wpList_bstore (by rfl) _ _ _ (by rfl) w.heap.size 117 (by rfl) _ _ (by rfl) hR 9 (by rfl) (by kernel_rfl) (by rfl) (by intro x hx; simp at hx; rcases hx with rfl | rfl | rfl | rfl | rfl | rfl | rfl | rfl | rfl <;> rfl) ?_; intro w9 hR9 hU9; replace hR := hR9; replace hF := hF.upd hU9 (by omega); replace hC := hC.upd hU9 (by omega); replace hB := hU9.below hB (by omega); clear hR9 hU9)
      | (refine wpList_bload (by rfl) _ _ (by rfl) (w.heap.size + 2) 117 (by rfl) _ hF _ Try.underlying117 (by rfl) 9 (by rfl) (by kernel_rfl) ?_))
    exact bodyPost_ret (v := .tuple #[fdV (f), .bool true]) (results_box2 (by rfl) _ _ w.heap.size 117 _ _ _ (by rfl) hR (by rfl) Try.underlying117 (by rfl) 9 (by rfl) (by kernel_rfl)) rfl ⟨by rw [HN.out]; rfl, hB⟩

set_option maxRecDepth 100000 in
set_option maxHeartbeats 4000000 in
theorem foundIn_nil (w : World) : Calls Try.prog 97 #[.string (str [])] w fun e w' => e = .returned (foundV (recRd [])) ∧ Below w.heap.size w w' := by
  have hne : (str []).toList.isEmpty = true := by rw [str_toList]; rfl
  have HN : Hid (recRd [] = none) := rfl
  obtain ⟨hR, hW, hB⟩ := one_box w 117 fd0.cells.toArray
  go_enter Try.func97, Try.ntmps97
  go_wp2_with fail
  exact bodyPost_ret (v := .tuple #[fdV (fd0), .bool false]) (results_box2 (by rfl) _ _ w.heap.size 117 _ _ _ (by rfl) hR (by rfl) Try.underlying117 (by rfl) 9 (by rfl) (by kernel_rfl)) rfl ⟨by rw [HN.out]; rfl, hB⟩

set_option maxRecDepth 100000 in
set_option maxHeartbeats 4000000 in
theorem foundIn_none (c : UInt8) (s : List UInt8) (w : World) (h1 : c ≠ 1) (h2 : c ≠ 2) (h3 : c ≠ 3) (h4 : c ≠ 4) :
    Calls Try.prog 97 #[.string (str (c :: s))] w fun e w' => e = .returned (foundV (recRd (c :: s))) ∧ Below w.heap.size w w' := by
  have h0 : 0 < (str (c :: s)).size := by rw [str_size]; simp
  have hx : (str (c :: s)).extract 1 (str (c :: s)).size = str s := by rw [str_extract, str_size]; simp
  have hne : (str (c :: s)).toList.isEmpty = false := by rw [str_toList]; rfl
  have e : ((str (c :: s))[0]'h0).toNat = c.toNat := rfl
  have ne (n : Nat) (d : UInt8) (hd : d.toNat = n) (h : c ≠ d) : ((((str (c :: s))[0]'h0).toNat : Int) == (n : Int)) = false := by
    rw [beq_eq_false_iff_ne, e]; intro e; exact h (UInt8.toNat_inj.1 (by omega))
  have n1 : ((((str (c :: s))[0]'h0).toNat : Int) == 1) = false := ne 1 1 rfl h1
  have n2 : ((((str (c :: s))[0]'h0).toNat : Int) == 2) = false := ne 2 2 rfl h2
  have n3 : ((((str (c :: s))[0]'h0).toNat : Int) == 3) = false := ne 3 3 rfl h3
  have n4 : ((((str (c :: s))[0]'h0).toNat : Int) == 4) = false := ne 4 4 rfl h4
  have hle : (1 : Int) ≤ ((str (c :: s)).size : Int) := by omega
  have HN : Hid (recRd (c :: s) = none) := by show _ = _; simp [recRd, h1, h2, h3, h4]
  obtain ⟨hR, hC, hF, hW, hB⟩ := three_boxes w 117 137 117 fd0.cells.toArray (Cu.cells (s, false)).toArray fd0.cells.toArray
  clear h1 h2 h3 h4 ne e
  go_enter Try.func97, Try.ntmps97
  go_wp2_with (first
      | (refine wpList_bput (by rfl) _ _ 4 (by rfl) (w.heap.size + 1) 137 1 (by rfl) _ (.bool true) (by rfl) hC (by kernel_rfl) (by simp) (by rfl) (by rfl) ?_; intro w9 hC9 hU9; replace hC := hC9; replace hR := hR.upd hU9 (by omega); replace hF := hF.upd hU9 (by omega); replace hB := hU9.below hB (by omega); clear hC9 hU9; dsimp only [List.set] at hC)
      | (refine wpList_bget (by rfl) 4 _ (by rfl) (w.heap.size + 1) 137 1 (by rfl) _ hC _ (by rfl) _ Try.underlying4 (by rfl) ?_; dsimp only)
      | (refine wpList_bstore (by rfl) _ _ _ (by rfl) w.heap.size 117 (by rfl) _ _ (by rfl) hR 9 (by rfl) (by kernel_rfl) (by rfl) (by intro x hx; simp at hx; rcases hx with rfl | rfl | rfl | rfl | rfl | rfl | rfl | rfl | rfl <;> rfl) ?_; intro w9 hR9 hU9; replace hR := hR9; replace hF := hF.upd hU9 (by omega); replace hC := hC.upd hU9 (by omega); replace hB := hU9.below hB (by omega); clear hR9 hU9)
      | (refine wpList_bload (by rfl) _ _ (by rfl) (w.heap.size + 2) 117 (by rfl) _ hF _ Try.underlying117 (by rfl) 9 (by rfl) (by kernel_rfl) ?_))
  exact bodyPost_ret (v := .tuple #[fdV (fd0), .bool false]) (results_box2 (by rfl) _ _ w.heap.size 117 _ _ _ (by rfl) hR (by rfl) Try.underlying117 (by rfl) 9 (by rfl) (by kernel_rfl)) rfl ⟨by rw [HN.out]; rfl, hB⟩

theorem foundIn_any (s : List UInt8) (w : World) (hs : s.length ≤ 9223372036854775806) :
    Calls Try.prog 97 #[.string (str s)] w fun e w' => e = .returned (foundV (recRd s)) ∧ Below w.heap.size w w' := by
  match s, hs with
  | [], _ => exact foundIn_nil w
  | c :: s, hs =>
    have hs' : s.length ≤ 9223372036854775806 := by simp at hs; omega
    by_cases h1 : c = 1
    · subst h1; exact foundIn_clock s w hs'
    · by_cases h2 : c = 2
      · subst h2; exact foundIn_card s w hs'
      · by_cases h3 : c = 3
        · subst h3; exact foundIn_edit s w hs'
        · by_cases h4 : c = 4
          · subst h4; exact foundIn_head s w hs'
          · exact foundIn_none c s w h1 h2 h3 h4
end Go.Proofs.Ytdjpkgaicmklmab

/- Records read back: the reference's record, walked (heads). -/
namespace Go.Proofs.Ytdjpkgaicmklmab
open Go.RowKit

end Go.Proofs.Ytdjpkgaicmklmab

/- Records read back: the reference's record, walked (clocks). -/
namespace Go.Proofs.Ytdjpkgaicmklmab
open Go.RowKit

end Go.Proofs.Ytdjpkgaicmklmab

/- Records read back: the reference's record, walked (cards). -/
namespace Go.Proofs.Ytdjpkgaicmklmab
open Go.RowKit

end Go.Proofs.Ytdjpkgaicmklmab

/- Records read back: the reference's record, walked (the rest). -/
namespace Go.Proofs.Ytdjpkgaicmklmab
open Go.RowKit

end Go.Proofs.Ytdjpkgaicmklmab

/- Frames read back: the reference's stands, walked. -/
namespace Go.Proofs.Ytdjpkgaicmklmab
open Go.RowKit

/-- The frame with which bytes begin: its record, and how many bytes it has. -/
def standRd : List UInt8 → Option (Fd × Nat)
  | x :: y :: k :: t => if x = 245 ∧ y = 95 then
      if k.toNat = 0 ∨ t.length < k.toNat + 4 then none
      else if fourI (crc pSum (k :: t.take k.toNat)) = (t.drop k.toNat).take 4 then (recRd (t.take k.toNat)).map fun f => (f, k.toNat + 7) else none
    else none
  | _ => none
def Fd.putI (f : Fd) (a : Int) : Fd := { f with at_ := a }
/-- What stands answers at a place. -/
def standV (a : Int) (x : Option (Fd × Nat)) : Value := match x with
  | some (f, n) => .tuple #[fdV (f.putI a), .int .i64 (n : Nat)]
  | none => .tuple #[fdV fd0, .int .i64 0]


theorem standRd_short (s : List UInt8) (h : s.length < 8) : standRd s = none := by
  match s, h with
  | [], _ | [_], _ | [_, _], _ => rfl
  | x :: y :: k :: t, h =>
    simp only [standRd]
    split
    · split
      · rfl
      · rename_i h2; simp at h; omega
    · rfl

end Go.Proofs.Ytdjpkgaicmklmab

/- The program's FrameAt, walked. -/
namespace Go.Proofs.Ytdjpkgaicmklmab
open Go.RowKit

set_option maxRecDepth 100000 in
set_option maxHeartbeats 4000000 in
theorem frameAt_any (b : List UInt8) (i : Nat) (w : World) (hb : b.length ≤ 1099511627776) (hi : i ≤ b.length) :
    Calls Try.prog 81 #[.string (str b), .int .i64 i] w fun e w' => e = .returned (standV i (standRd (b.drop i))) ∧ Below w.heap.size w w' := by
  have hz := str_size b
  have HZ : Hid ((str b).size = b.length) := hz
  obtain ⟨hR, hW, hB⟩ := one_box w 117 fd0.cells.toArray
  have hib : i ≤ (str b).size := by omega
  have hbb : (str b).size ≤ 1099511627776 := by omega
  by_cases h8 : (str b).size ≤ i + 2
  · have HN : Hid (standRd (b.drop i) = none) := standRd_short _ (by simp; omega)
    clear hz
    go_enter Try.func81, Try.ntmps81
    go_wp2_with fail
    exact bodyPost_ret (v := .tuple #[fdV fd0, .int .i64 0]) (results_box2 (by rfl) _ _ w.heap.size 117 _ _ _ (by rfl) hR (by rfl) Try.underlying117 (by rfl) 9 (by rfl) (by kernel_rfl)) rfl ⟨by rw [HN.out]; rfl, hB⟩
  · obtain ⟨x, y, k, t, hd, ht⟩ : ∃ x y k t, b.drop i = x :: y :: k :: t ∧ t.length + 3 + i = b.length := by
      have hl : (b.drop i).length = b.length - i := by simp
      match hh : b.drop i with
      | [] | [_] | [_, _] => rw [hh] at hl; simp at hl; omega
      | x :: y :: k :: t => exact ⟨x, y, k, t, rfl, by rw [hh] at hl; simp at hl; omega⟩
    have l2 : i + 2 < (str b).size := by omega
    have ek : ((str b)[i + 2]'l2) = k := by
      have hv : (b.drop i)[2]? = some k := by rw [hd]; rfl
      rw [List.getElem?_drop] at hv
      exact (List.getElem?_eq_some_iff.1 hv).2
    have x0 : (str b).extract i (i + 2) = str [x, y] := by rw [str_extract, hd, show i + 2 - i = 2 by omega]; rfl
    rw [hd]
    by_cases hxy : x = 245 ∧ y = 95
    · obtain ⟨hx, hy⟩ := hxy
      subst hx hy
      have hmk : ((str [245, 95]).toList == [245, 95]) = true := by rw [str_toList]; rfl
      have hkl := k.toNat_lt
      have hk' : wrap64 (((str b)[i + 2]'l2).toNat : Int) = (k.toNat : Int) := by rw [ek]; unfold wrap64; omega
      clear ek
      by_cases hn : (str b).size < i + k.toNat + 7
      · have HN : Hid (standRd (245 :: 95 :: k :: t) = none) := by show _ = _; simp only [standRd]; simp [show t.length < k.toNat + 4 by omega]
        clear hz hd
        go_enter Try.func81, Try.ntmps81
        go_wp2_with fail
        exact bodyPost_ret (v := .tuple #[fdV fd0, .int .i64 0]) (results_box2 (by rfl) _ _ w.heap.size 117 _ _ _ (by rfl) hR (by rfl) Try.underlying117 (by rfl) 9 (by rfl) (by kernel_rfl)) rfl ⟨by rw [HN.out]; rfl, hB⟩
      · have hdt (j : Nat) : b.drop (i + (j + 3)) = t.drop j := by rw [← List.drop_drop, hd]; rfl
        have x1 : (str b).extract (i + 2 + 1) (i + 2 + 1 + k.toNat) = str (t.take k.toNat) := by rw [str_extract, show i + 2 + 1 = i + (0 + 3) by omega, hdt 0]; simp
        have x2 : (str b).extract (i + 2) (i + 2 + 1 + k.toNat) = str (k :: t.take k.toNat) := by
          rw [str_extract, ← List.drop_drop, hd, show i + 2 + 1 + k.toNat - (i + 2) = k.toNat + 1 by omega]; rfl
        have x3 : (str b).extract (i + 2 + 1 + k.toNat) (i + 2 + 1 + k.toNat + 4) = str ((t.drop k.toNat).take 4) := by
          rw [str_extract, show i + 2 + 1 + k.toNat = i + (k.toNat + 3) by omega, hdt, show i + (k.toNat + 3) + 4 - (i + (k.toNat + 3)) = 4 by omega]
        have hlt : (k :: t.take k.toNat).length ≤ 9223372036854775807 := by simp; omega
        have hlr : (t.take k.toNat).length ≤ 9223372036854775806 := by simp; omega
        have hl4 : ((t.drop k.toNat).take 4).length = 4 := by simp; omega
        have hfl : ¬ t.length < k.toNat + 4 := by omega
        have HL : Hid (t.length + 3 + i = (str b).size) := by show _ = _; omega
        clear hz hd hdt
        go_enter Try.func81, Try.ntmps81
        go_wp2_with fail
        refine (foundIn_any (t.take k.toNat) _ hlr).mono ?_
        rintro e w1 ⟨rfl, hb1⟩
        replace hR := hR.below hb1 hR.lt
        replace hB := hB.trans (hb1.mono (Nat.le_trans (Nat.le_succ _) (Nat.le_of_eq hW.symm)))
        clear hb1
        cases hf : recRd (t.take k.toNat) with
        | none =>
          have HN : Hid (standRd (245 :: 95 :: k :: t) = none) := by
            show _ = _; simp only [standRd, hf]; simp
          clear hf
          simp only [foundV]
          go_wp2_with (first
            | (refine wpList_bstore (by rfl) _ _ _ (by rfl) w.heap.size 117 (by rfl) _ _ (by rfl) hR 9 (by rfl) (by kernel_rfl) (by rfl) (by intro x hx; simp at hx; rcases hx with rfl | rfl | rfl | rfl | rfl | rfl | rfl | rfl | rfl <;> rfl) ?_; intro w9 hR9 hU9; replace hR := hR9; replace hB := hU9.below hB (Nat.le_refl _); clear hR9 hU9)
            | (refine wpList_bstore (by rfl) _ _ _ (by rfl) w.heap.size 117 (by rfl) _ _ (by rfl) (hR.alloc _) 9 (by rfl) (by kernel_rfl) (by rfl) (by intro x hx; simp at hx; rcases hx with rfl | rfl | rfl | rfl | rfl | rfl | rfl | rfl | rfl <;> rfl) ?_; intro w9 hR9 hU9; replace hR := hR9; replace hB := hU9.below (hB.alloc hB.size _) (Nat.le_refl _); clear hR9 hU9))
          exact bodyPost_ret (v := .tuple #[fdV fd0, .int .i64 0]) (results_box2 (by rfl) _ _ w.heap.size 117 _ _ _ (by rfl) hR (by rfl) Try.underlying117 (by rfl) 9 (by rfl) (by kernel_rfl)) rfl ⟨by rw [HN.out]; rfl, hB⟩
        | some f =>
          have hk0 : k.toNat ≠ 0 := by
            intro h0
            rw [h0] at hf
            simp [recRd] at hf
          have hfl2 : ¬ (k.toNat = 0 ∨ t.length < k.toNat + 4) := by omega
          simp only [foundV]
          go_wp2_with fail
          refine (sum_any (k :: t.take k.toNat) _ hlt).mono ?_
          rintro e w2 ⟨rfl, hw2⟩
          subst hw2
          go_wp2_with fail
          refine (fromFour_any ((t.drop k.toNat).take 4) _ hl4).mono ?_
          rintro e w3 ⟨rfl, hw3⟩
          subst hw3
          have hc := crc_lt (p := pSum) (by decide) (k :: t.take k.toNat)
          have hiff := fourRd_iff hl4 (crc pSum (k :: t.take k.toNat)) (by omega) (by omega)
          by_cases hq : fourRd ((t.drop k.toNat).take 4) = (crc pSum (k :: t.take k.toNat) : Int)
          · have hqb : (fourRd ((t.drop k.toNat).take 4) != (crc pSum (k :: t.take k.toNat) : Int)) = false := by rw [hq]; simp
            have HN : Hid (standRd (245 :: 95 :: k :: t) = some (f, k.toNat + 7)) := by
              show _ = _; simp only [standRd, if_neg hfl2, if_pos (hiff.1 hq)]; rw [hf]; rfl
            clear hf hiff
            go_wp2_with (first
              | (refine wpList_bstore (by rfl) _ _ _ (by rfl) w.heap.size 117 (by rfl) _ _ (by rfl) hR 9 (by rfl) (by kernel_rfl) (by rfl) (by intro x hx; simp at hx; rcases hx with rfl | rfl | rfl | rfl | rfl | rfl | rfl | rfl | rfl <;> rfl) ?_; intro w9 hR9 hU9; replace hR := hR9; replace hB := hU9.below hB (Nat.le_refl _); clear hR9 hU9)
              | (refine wpList_bstore (by rfl) _ _ _ (by rfl) w.heap.size 117 (by rfl) _ _ (by rfl) (hR.alloc _) 9 (by rfl) (by kernel_rfl) (by rfl) (by intro x hx; simp at hx; rcases hx with rfl | rfl | rfl | rfl | rfl | rfl | rfl | rfl | rfl <;> rfl) ?_; intro w9 hR9 hU9; replace hR := hR9; replace hB := hU9.below (hB.alloc hB.size _) (Nat.le_refl _); clear hR9 hU9))
            exact bodyPost_ret (v := .tuple #[fdV (f.putI i), .int .i64 ((i : Int) + 2 + 1 + (k.toNat : Int) + 4 - (i : Int))]) (results_box2 (by rfl) _ _ w.heap.size 117 _ _ _ (by rfl) hR (by rfl) Try.underlying117 (by rfl) 9 (by rfl) (by kernel_rfl)) rfl ⟨by rw [HN.out]; simp only [standV]; rw [show ((i : Int) + 2 + 1 + (k.toNat : Int) + 4 - (i : Int)) = ((k.toNat + 7 : Nat) : Int) by omega], hB⟩
          · have hqb : (fourRd ((t.drop k.toNat).take 4) != (crc pSum (k :: t.take k.toNat) : Int)) = true := by rw [bne_iff_ne]; exact hq
            have HN : Hid (standRd (245 :: 95 :: k :: t) = none) := by
              show _ = _; simp only [standRd, if_neg hfl2, if_neg (fun h => hq (hiff.2 h))]; rfl
            clear hf hiff hq
            go_wp2_with (first
              | (refine wpList_bstore (by rfl) _ _ _ (by rfl) w.heap.size 117 (by rfl) _ _ (by rfl) hR 9 (by rfl) (by kernel_rfl) (by rfl) (by intro x hx; simp at hx; rcases hx with rfl | rfl | rfl | rfl | rfl | rfl | rfl | rfl | rfl <;> rfl) ?_; intro w9 hR9 hU9; replace hR := hR9; replace hB := hU9.below hB (Nat.le_refl _); clear hR9 hU9)
              | (refine wpList_bstore (by rfl) _ _ _ (by rfl) w.heap.size 117 (by rfl) _ _ (by rfl) (hR.alloc _) 9 (by rfl) (by kernel_rfl) (by rfl) (by intro x hx; simp at hx; rcases hx with rfl | rfl | rfl | rfl | rfl | rfl | rfl | rfl | rfl <;> rfl) ?_; intro w9 hR9 hU9; replace hR := hR9; replace hB := hU9.below (hB.alloc hB.size _) (Nat.le_refl _); clear hR9 hU9))
            exact bodyPost_ret (v := .tuple #[fdV fd0, .int .i64 0]) (results_box2 (by rfl) _ _ w.heap.size 117 _ _ _ (by rfl) hR (by rfl) Try.underlying117 (by rfl) 9 (by rfl) (by kernel_rfl)) rfl ⟨by rw [HN.out]; rfl, hB⟩
    · have hmk : ((str [x, y]).toList == [245, 95]) = false := by
        rw [str_toList, beq_eq_false_iff_ne]; simpa using hxy
      have HN : Hid (standRd (x :: y :: k :: t) = none) := by show _ = _; simp only [standRd, if_neg hxy]
      clear hz hd ek hxy
      go_enter Try.func81, Try.ntmps81
      go_wp2_with fail
      exact bodyPost_ret (v := .tuple #[fdV fd0, .int .i64 0]) (results_box2 (by rfl) _ _ w.heap.size 117 _ _ _ (by rfl) hR (by rfl) Try.underlying117 (by rfl) 9 (by rfl) (by kernel_rfl)) rfl ⟨by rw [HN.out]; rfl, hB⟩
end Go.Proofs.Ytdjpkgaicmklmab

/- Salvage, of the reference and of the program, walked. -/
namespace Go.Proofs.Ytdjpkgaicmklmab
open Go.RowKit

/-- What is found from a place on. -/
def salvF : Nat → Nat → List UInt8 → List Fd
  | 0, _, _ => []
  | k + 1, i, s => if s = [] then [] else match standRd s with
    | some (f, n) => f.putI i :: salvF k (i + n) (s.drop n)
    | none => salvF k (i + 1) (s.drop 1)
def salv (b : List UInt8) : List Fd := salvF b.length 0 b
theorem salvF_nil (k i : Nat) : salvF k i [] = [] := by cases k <;> rfl
theorem salvF_none {k i : Nat} {s : List UInt8} (hne : s ≠ []) (h : standRd s = none) : salvF (k + 1) i s = salvF k (i + 1) (s.drop 1) := by simp only [salvF, if_neg hne, h]
theorem salvF_some {k i : Nat} {s : List UInt8} {f : Fd} {n : Nat} (hne : s ≠ []) (h : standRd s = some (f, n)) : salvF (k + 1) i s = f.putI i :: salvF k (i + n) (s.drop n) := by simp only [salvF, if_neg hne, h]
theorem standRd_le {s : List UInt8} {f : Fd} {n : Nat} (h : standRd s = some (f, n)) : 7 < n ∧ n ≤ s.length := by
  match s, h with
  | x :: y :: k :: t, h =>
    simp only [standRd] at h
    split at h
    · split at h
      · cases h
      · split at h
        · cases hr : recRd (t.take k.toNat) with
          | none => rw [hr] at h; cases h
          | some g => rw [hr] at h; simp at h; obtain ⟨_, rfl⟩ := h; simp; omega
        · cases h
    · cases h
theorem onesF (f : Fd) : ∀ v, v ∈ f.cells → v.oneCell' = true := by intro v h; simp at h; rcases h with rfl | rfl | rfl | rfl | rfl | rfl | rfl | rfl | rfl <;> rfl

end Go.Proofs.Ytdjpkgaicmklmab

/- What is written is read back: numbers, records, frames; what Salvage finds in a bundle that is cut. -/
namespace Go.Proofs.Ytdjpkgaicmklmab
open Go.RowKit

theorem rdAcc_num_back (x : List UInt8) : ∀ (k K : Nat) (n : Int), 0 ≤ n → n < 128 ^ (k + 1) → k ≤ K → ∀ (j i : Nat) (v : Int), rdAcc (k + 1 + j) i v ((numI K n).map byt ++ x) = some (v + n * 128 ^ i, i + (numI K n).length)
  | 0, K, n, h0, h1, _, j, i, v => by
    have h1 : n < 128 := by simpa using h1
    have hb := byt_toNat n h0 (by omega)
    rw [numI_small K n h1, show 0 + 1 + j = j + 1 by omega]
    simp only [List.map_cons, List.map_nil, List.cons_append, List.nil_append, rdAcc, List.length_cons, List.length_nil]
    rw [if_pos (by omega), show (((byt n).toNat % 128 : Nat) : Int) = n by omega]
  | k + 1, 0, n, _, _, hk, _, _, _ => by omega
  | k + 1, K + 1, n, h0, h1, hk, j, i, v => by
    by_cases hn : n < 128
    · have hb := byt_toNat n h0 (by omega)
      rw [numI_small (K + 1) n hn, show k + 1 + 1 + j = (k + 1 + j) + 1 by omega]
      simp only [List.map_cons, List.map_nil, List.cons_append, List.nil_append, rdAcc, List.length_cons, List.length_nil]
      rw [if_pos (by omega), show (((byt n).toNat % 128 : Nat) : Int) = n by omega]
    · have hb := byt_toNat (n % 128 + 128) (by omega) (by omega)
      have e : numI (K + 1) n = (n % 128 + 128) :: numI K (n / 128) := by simp [numI, hn]
      rw [e, show k + 1 + 1 + j = (k + 1 + j) + 1 by omega]
      simp only [List.map_cons, List.cons_append, rdAcc]
      rw [if_neg (by omega), rdAcc_num_back x k K (n / 128) (by omega) (by rw [Int.pow_succ] at h1; omega) (by omega) j (i + 1)]
      have ev : (((byt (n % 128 + 128)).toNat % 128 : Nat) : Int) = n % 128 := by omega
      rw [ev, Int.pow_succ]
      have : v + n % 128 * 128 ^ i + n / 128 * (128 ^ i * 128) = v + n * 128 ^ i := by
        have h : n = n / 128 * 128 + n % 128 := by omega
        have e2 : n / 128 * (128 ^ i * 128) = n / 128 * 128 * 128 ^ i := by rw [Int.mul_comm (128 ^ i) 128, Int.mul_assoc]
        rw [e2]
        conv => rhs; rw [h]
        rw [Int.add_mul]; omega
      rw [this]
      simp; omega
theorem numRd_back {n : Int} (h : Num n) (x : List UInt8) : numRd (numB n ++ x) = some (n, (numB n).length) := by
  have e := rdAcc_num_back x 8 9 n h.1 (by have := h.2; omega) (by omega) 0 0 0
  have e2 : rdAcc 9 0 0 (numB n ++ x) = some (n, (numB n).length) := by
    unfold numB; rw [e]; simp
  unfold numRd
  rw [e2]
  simp only
  rw [if_pos]
  simp
theorem numsRd_back {n : Int} (h : Num n) (k : Nat) (x : List UInt8) : numsRd (k + 1) (numB n ++ x) = (numsRd k x).map fun p => (n :: p.1, p.2) := by
  simp only [numsRd, numRd_back h, List.drop_left]
  cases numsRd k x <;> rfl
/-- What is written is read. -/
theorem recRd_back {f : Fd} (h : FdOk f) (hs : f.seq = 0 → f.base = 0) : recRd (recF f) = some f := by
  rcases h with ⟨s, b, rfl, h1, h2, h3⟩ | ⟨c, rfl, h1, h2⟩ | ⟨c, rfl, h1, h2, h3, h4⟩ | ⟨c, rfl, h1, h2⟩
  · rw [recF_head, recHead, rec4, numsRd_back h1]
    simp only [numsRd, Option.map_some]
    by_cases hq : s = 0
    · have : b = 0 := hs hq
      subst hq this
      simp
    · simp only [if_neg hq]
      rw [if_pos (by simp [fourI]), fourRd_four b h2 (by omega)]
  · rw [recF_clock, recClock, rec1, numsRd_back h1]
    rw [show numB c.count = numB c.count ++ [] by simp, numsRd_back h2]
    simp [numsRd]
  · rw [recF_card, recCard, rec2, numsRd_back h1, numsRd_back h2, numsRd_back h3]
    simp only [numsRd, Option.map_some]
    obtain ⟨i, s, n, g, x⟩ := c
    cases g
    · simp [str_data]
    · simp [str_data]
  · rw [recF_edit, recEdit, rec3, numsRd_back h1]
    simp [numsRd, str_data]

theorem recF_pos (f : Fd) : 0 < (recF f).length := by
  unfold recF
  split
  · simp [recHead]
  · split
    · simp [recClock]
    · split
      · simp [recCard]
      · simp [recEdit]
theorem standRd_back {f : Fd} (h : FdOk f) (hs : f.seq = 0 → f.base = 0) (x : List UInt8) : standRd (frameB (recF f) ++ x) = some (f, lenF f) := by
  have hl := recF_length h
  have hp := recF_pos f
  have hk : (byt (recF f).length).toNat = (recF f).length := by have := byt_toNat (recF f).length (by omega) (by omega); omega
  simp only [frameB, List.cons_append, standRd]
  rw [if_pos (by simp), hk, if_neg (by simp only [List.length_append, fourI, List.length_cons]; omega)]
  have e1 : (recF f ++ fourI (crc pSum (byt (recF f).length :: recF f)) ++ x).take (recF f).length = recF f := by
    rw [List.append_assoc, List.take_left]
  have e2 : ((recF f ++ fourI (crc pSum (byt (recF f).length :: recF f)) ++ x).drop (recF f).length).take 4 = fourI (crc pSum (byt (recF f).length :: recF f)) := by
    rw [List.append_assoc, List.drop_left, List.take_append_of_le_length (by simp [fourI])]
    simp [fourI]
  rw [e1, e2, if_pos rfl, recRd_back h hs]
  rfl

abbrev framesB (l : List Fd) : List UInt8 := l.flatMap (fun f => frameB (recF f))
theorem framesB_length (l : List Fd) : (framesB l).length = lenL l := by
  induction l with
  | nil => rfl
  | cons f l ih => simp only [framesB, List.flatMap_cons, List.length_append, frameB_length, lenL, List.map_cons, List.sum_cons, lenF] at ih ⊢; rw [ih]
def Okay (l : List Fd) : Prop := ∀ f, f ∈ l → FdOk f ∧ (f.seq = 0 → f.base = 0)

/-- Of frames that are cut, those that are left whole are found where they stand. -/
theorem salvF_cut (tail : List UInt8) : ∀ (l : List Fd), Okay l → ∀ (j fuel p : Nat), ((framesB l ++ tail).take j).length ≤ fuel → ∀ i, i < l.length → lenL (l.take (i + 1)) ≤ j →
    (salvF fuel p ((framesB l ++ tail).take j))[i]? = (atL p l)[i]?
  | [], _, _, _, _, _, i, hi, _ => by simp at hi
  | f :: l, ho, j, fuel, p, hf, i, hi, hj => by
    have hw := ho f (by simp)
    have ho' : Okay l := fun g hg => ho g (by simp [hg])
    have hlf : lenF f ≤ j := by
      have : lenL ((f :: l).take (i + 1)) = lenF f + lenL (l.take i) := by simp [lenL]
      omega
    have e : (framesB (f :: l) ++ tail).take j = frameB (recF f) ++ (framesB l ++ tail).take (j - lenF f) := by
      have hlen : (frameB (recF f)).length = lenF f := frameB_length _
      rw [show framesB (f :: l) ++ tail = frameB (recF f) ++ (framesB l ++ tail) by simp [framesB]]
      rw [List.take_append, hlen, List.take_of_length_le (by omega)]
    rw [e] at hf ⊢
    have hlen : (frameB (recF f)).length = lenF f := frameB_length _
    obtain ⟨fuel, rfl⟩ : ∃ k, fuel = k + 1 := ⟨fuel - 1, by simp [hlen, lenF] at hf; omega⟩
    have hne : frameB (recF f) ++ (framesB l ++ tail).take (j - lenF f) ≠ [] := by simp [frameB]
    rw [salvF_some hne (standRd_back hw.1 hw.2 _)]
    have ed : (frameB (recF f) ++ (framesB l ++ tail).take (j - lenF f)).drop (lenF f) = (framesB l ++ tail).take (j - lenF f) := by rw [← hlen, List.drop_left]
    rw [ed]
    cases i with
    | zero => rfl
    | succ i =>
      simp only [List.getElem?_cons_succ, atL]
      refine salvF_cut tail l ho' (j - lenF f) fuel (p + lenF f) ?_ i (by simpa using hi) ?_
      · rw [List.length_append, hlen] at hf; simp [lenF] at hf ⊢; omega
      · have : lenL ((f :: l).take (i + 1 + 1)) = lenF f + lenL (l.take (i + 1)) := by simp [lenL]
        omega
theorem salvF_small : ∀ (fuel p : Nat) (s : List UInt8), s.length < 8 → salvF fuel p s = []
  | 0, _, _, _ => rfl
  | k + 1, p, s, h => by
    by_cases hs : s = []
    · subst hs; rfl
    · rw [salvF_none hs (standRd_short s h)]
      exact salvF_small k (p + 1) (s.drop 1) (by simp; omega)
/-- Of frames and a few bytes behind them these frames are found. -/
theorem salvF_whole (tail : List UInt8) (ht : tail.length < 8) : ∀ (l : List Fd), Okay l → ∀ (fuel p : Nat), (framesB l ++ tail).length ≤ fuel → salvF fuel p (framesB l ++ tail) = atL p l
  | [], _, fuel, p, _ => by simp only [framesB, List.flatMap_nil, List.nil_append, atL]; exact salvF_small _ _ _ ht
  | f :: l, ho, fuel, p, hf => by
    have hw := ho f (by simp)
    have ho' : Okay l := fun g hg => ho g (by simp [hg])
    have hlen : (frameB (recF f)).length = lenF f := frameB_length _
    have e : framesB (f :: l) ++ tail = frameB (recF f) ++ (framesB l ++ tail) := by simp [framesB]
    rw [e] at hf ⊢
    rw [List.length_append, hlen] at hf
    obtain ⟨fuel, rfl⟩ : ∃ k, fuel = k + 1 := ⟨fuel - 1, by simp [lenF] at hf; omega⟩
    rw [salvF_some (by simp [frameB]) (standRd_back hw.1 hw.2 _), ← hlen, List.drop_left, hlen, salvF_whole tail ht l ho' fuel (p + lenF f) (by simp [lenF] at hf ⊢; omega)]
    rfl

theorem standRd_first {c : UInt8} {s : List UInt8} (h : c ≠ 245) : standRd (c :: s) = none := by
  match s with
  | [] | [_] => rfl
  | y :: k :: t => simp only [standRd]; rw [if_neg (fun e => h e.1)]
theorem salvF_magic (s : List UInt8) : ∀ fuel, (80 :: 82 :: 67 :: 49 :: s).length ≤ fuel → ∃ k, s.length ≤ k ∧ salvF fuel 0 (80 :: 82 :: 67 :: 49 :: s) = salvF k 4 s := by
  intro fuel h
  obtain ⟨k, rfl⟩ : ∃ k, fuel = k + 1 + 1 + 1 + 1 := ⟨fuel - 4, by simp at h; omega⟩
  refine ⟨k, by simp at h; omega, ?_⟩
  rw [salvF_none (by simp) (standRd_first (by decide)), List.drop_one, List.tail_cons, salvF_none (by simp) (standRd_first (by decide)), List.drop_one, List.tail_cons,
    salvF_none (by simp) (standRd_first (by decide)), List.drop_one, List.tail_cons, salvF_none (by simp) (standRd_first (by decide)), List.drop_one, List.tail_cons]
/-- Of a bundle its records are found, and no others. -/
theorem salv_bundle (l : List Fd) (h : Okay l) : salv (bundleB l) = atL 4 l := by
  have e : bundleB l = 80 :: 82 :: 67 :: 49 :: (framesB l ++ fourI (crc pSeal (bodyB l))) := by simp [bundleB, bodyB, framesB]
  unfold salv
  rw [e]
  obtain ⟨k, hk, hs⟩ := salvF_magic (framesB l ++ fourI (crc pSeal (bodyB l))) _ (Nat.le_refl _)
  rw [hs]
  exact salvF_whole _ (by simp [fourI]) l h k 4 hk
/-- Of a bundle that is cut those that are left whole are found first. -/
theorem salv_cut (l : List Fd) (h : Okay l) (k i : Nat) (hi : i < l.length) (hk : 4 + lenL (l.take (i + 1)) ≤ k) : (salv ((bundleB l).take k))[i]? = (atL 4 l)[i]? := by
  have e : bundleB l = 80 :: 82 :: 67 :: 49 :: (framesB l ++ fourI (crc pSeal (bodyB l))) := by simp [bundleB, bodyB, framesB]
  obtain ⟨j, rfl⟩ : ∃ j, k = j + 1 + 1 + 1 + 1 := ⟨k - 4, by omega⟩
  unfold salv
  rw [e]
  simp only [List.take_succ_cons]
  obtain ⟨k, hk2, hs⟩ := salvF_magic ((framesB l ++ fourI (crc pSeal (bodyB l))).take j) _ (Nat.le_refl _)
  rw [hs]
  exact salvF_cut _ l h j k 4 hk2 i hi (by omega)
theorem atL_at : ∀ (l : List Fd) (p i : Nat) (h : i < l.length), (atL p l)[i]? = some ((l[i]).put (p + lenL (l.take i)))
  | f :: l, p, 0, _ => by simp [atL, lenL]
  | f :: l, p, i + 1, h => by
    simp only [atL, List.getElem?_cons_succ]
    rw [atL_at l (p + lenF f) i (by simpa using h)]
    simp [lenL]; congr 1; omega
end Go.Proofs.Ytdjpkgaicmklmab

/- What was found, as it lies in memory; how much it is at most. -/
namespace Go.Proofs.Ytdjpkgaicmklmab
open Go.RowKit

theorem Lies.found {w : World} {a : Option Addr} {n : Nat} {c : Nat → Fd} (h : Lies w a n 9 (fun i => (c i).cells)) (cap : Nat) {k : Nat} (hk : k < n) :
    ∃ b o, b < w.heap.size ∧ (∀ w', (Instr.indexAt 93 (.slice a n cap) (.int .i64 (k : Int))).run Try.prog w' = .ok (.pointer (some ⟨b, o, none⟩)) w') ∧
      w.cell? ⟨b, o, none⟩ = some (.int .i64 (c k).at_) ∧ w.cell? ⟨b, o + 1, none⟩ = some (.int .i64 (c k).kind) ∧ w.cell? ⟨b, o + 2, none⟩ = some (.int .i64 (c k).seq) ∧
      w.cell? ⟨b, o + 3, none⟩ = some (.int .i64 (c k).base) ∧ w.cell? ⟨b, o + 4, none⟩ = some (.int .i64 (c k).id) ∧ w.cell? ⟨b, o + 5, none⟩ = some (.int .i64 (c k).site) ∧
      w.cell? ⟨b, o + 6, none⟩ = some (.int .i64 (c k).count) ∧ w.cell? ⟨b, o + 7, none⟩ = some (.bool (c k).gone) ∧ w.cell? ⟨b, o + 8, none⟩ = some (.string (c k).text) := by
  obtain ⟨b, o, hb, hi, hc⟩ := h.at cap (P := Try.prog) (t := 93) (by kernel_rfl) (by kernel_rfl) hk
  exact ⟨b, o, hb, hi, hc 0 _ (by omega) rfl, hc 1 _ (by omega) rfl, hc 2 _ (by omega) rfl, hc 3 _ (by omega) rfl, hc 4 _ (by omega) rfl, hc 5 _ (by omega) rfl, hc 6 _ (by omega) rfl, hc 7 _ (by omega) rfl, hc 8 _ (by omega) rfl⟩
theorem fvec_lies {w : World} {B : Nat} {ad : Option Addr} {n cap : Nat} {L : List Fd} (h : Vec w B 117 9 ad n cap (fcells L)) (hn : n = L.length) : Lies w ad n 9 (fun i => (L.getD i fd0).cells) := by
  refine Vec.lies (rows := L.map Fd.cells) h ?_ (by simp [hn]) _ ?_
  · intro r hr; obtain ⟨f, _, rfl⟩ := List.mem_map.1 hr; rfl
  · intro i hi; subst hn; simp [List.getD, hi]
theorem salvF_length : ∀ (k p : Nat) (s : List UInt8), (salvF k p s).length ≤ k
  | 0, _, _ => by simp [salvF]
  | k + 1, p, s => by
    simp only [salvF]
    split
    · simp
    · split
      · rename_i f n _; have := salvF_length k (p + n) (s.drop n); simp; omega
      · have := salvF_length k (p + 1) (s.drop 1); omega
theorem salv_length (b : List UInt8) : (salv b).length ≤ b.length := salvF_length _ _ _
end Go.Proofs.Ytdjpkgaicmklmab

/- What Read says, without the program: frames, their order, the link. -/
namespace Go.Proofs.Ytdjpkgaicmklmab
open Go.RowKit

def Kd (f : Fd) : Prop := f.kind = 1 ∨ f.kind = 2 ∨ f.kind = 3 ∨ f.kind = 4
/-- May f stand behind p? -/
def fitB (p f : Fd) : Bool :=
  if f.kind = 1 then (p.kind == 4 || (p.kind == 1 && decide (p.site < f.site)))
  else if f.kind = 2 then ((p.kind == 4 || p.kind == 1) || (p.kind == 2 && decide (p.id < f.id)))
  else if f.kind = 3 then true else false
def mayB (p f : Fd) : Bool :=
  if f.kind = 4 then false else if p.kind = 4 then true else if f.kind ≠ p.kind then decide (p.kind < f.kind)
  else if f.kind = 1 then decide (p.site < f.site) else if f.kind = 2 then decide (p.id < f.id) else true
theorem may_fit {p f : Fd} (hp : Kd p) (hf : Kd f) : mayB p f = fitB p f := by
  unfold mayB fitB
  rcases hp with h | h | h | h <;> rcases hf with h' | h' | h' | h' <;> rw [h, h'] <;> simp
/-- The place of the first that cannot stand there. -/
def ordF : Fd → List Fd → Option Int
  | _, [] => none
  | p, f :: l => if fitB p f = true then ordF f l else some f.at_
def ordRd : List Fd → Option Int
  | [] => some 4
  | f :: l => if f.kind = 4 then ordF f l else some f.at_
/-- Frames one directly behind the other, and the first place behind them. -/
def frF : Nat → Nat → List UInt8 → List Fd × Nat
  | 0, i, _ => ([], i)
  | k + 1, i, s => if s = [] then ([], i) else match standRd s with
    | some (f, n) => (f.putI i :: (frF k (i + n) (s.drop n)).1, (frF k (i + n) (s.drop n)).2)
    | none => ([], i)
theorem frF_nil (k i : Nat) : frF k i [] = ([], i) := by cases k <;> rfl
theorem frF_none {k i : Nat} {s : List UInt8} (h : standRd s = none) : frF k i s = ([], i) := by
  cases k with
  | zero => rfl
  | succ k => by_cases hs : s = []
              · subst hs; rfl
              · simp only [frF, if_neg hs, h]
theorem frF_some {k i : Nat} {s : List UInt8} {f : Fd} {n : Nat} (hne : s ≠ []) (h : standRd s = some (f, n)) : frF (k + 1) i s = (f.putI i :: (frF k (i + n) (s.drop n)).1, (frF k (i + n) (s.drop n)).2) := by simp only [frF, if_neg hne, h]
def ckOf (l : List Fd) : List Ck := (l.filter (fun f => f.kind == 1)).map (fun f => ⟨f.site, f.count⟩)
def cdOf (l : List Fd) : List Cd := (l.filter (fun f => f.kind == 2)).map (fun f => ⟨f.id, f.site, f.count, f.gone, f.text⟩)
def edOf (l : List Fd) : List Ed := (l.filter (fun f => f.kind == 3)).map (fun f => ⟨f.id, f.text⟩)
/-- What Read answers. -/
structure Ans where
  seq : Int
  base : Int
  err : Int
  place : Int
  K : List Ck
  C : List Cd
  E : List Ed
def ansErr (e p : Int) : Ans := ⟨0, 0, e, p, [], [], []⟩
def ansOk (l : List Fd) : Ans := ⟨(l.getD 0 fd0).seq, (l.getD 0 fd0).base, 0, 0, ckOf l, cdOf l, edOf l⟩
def magicB : List UInt8 := [80, 82, 67, 49]
def sealedB (b : List UInt8) : Bool := decide (8 ≤ b.length) && (b.drop (b.length - 4) == fourI (crc pSeal (b.take (b.length - 4))))
def framed (body : List UInt8) : List Fd × Nat := frF body.length 4 (body.drop 4)
def readRd (b : List UInt8) : Ans :=
  if b.length < 4 ∨ b.take 4 ≠ magicB then ansErr 7 0
  else if sealedB b = true then
    if (framed (b.take (b.length - 4))).2 < b.length - 4 then ansErr 9 (framed (b.take (b.length - 4))).2
    else match ordRd (framed (b.take (b.length - 4))).1 with
      | some p => ansErr 10 p
      | none => ansOk (framed (b.take (b.length - 4))).1
  else ansErr 8 0

theorem recRd_kd {s : List UInt8} {f : Fd} (h : recRd s = some f) : Kd f := by
  match s, h with
  | c :: s, h =>
    simp only [recRd] at h
    split at h
    · split at h
      · split at h
        · split at h
          · simp at h; subst h; exact Or.inr (Or.inr (Or.inr rfl))
          · cases h
        · split at h
          · simp at h; subst h; exact Or.inr (Or.inr (Or.inr rfl))
          · cases h
      · cases h
    · split at h
      · split at h
        · split at h
          · simp at h; subst h; exact Or.inl rfl
          · cases h
        · cases h
      · split at h
        · split at h
          · split at h
            · simp at h; subst h; exact Or.inr (Or.inl rfl)
            · cases h
          · cases h
        · split at h
          · split at h
            · simp at h; subst h; exact Or.inr (Or.inr (Or.inl rfl))
            · cases h
          · cases h
theorem standRd_kd {s : List UInt8} {f : Fd} {n : Nat} (h : standRd s = some (f, n)) : Kd f := by
  match s, h with
  | x :: y :: k :: t, h =>
    simp only [standRd] at h
    split at h
    · split at h
      · cases h
      · split at h
        · cases hr : recRd (t.take k.toNat) with
          | none => rw [hr] at h; cases h
          | some g => rw [hr] at h; simp at h; obtain ⟨rfl, _⟩ := h; exact recRd_kd hr
        · cases h
    · cases h
theorem frF_kd : ∀ (k i : Nat) (s : List UInt8), ∀ f ∈ (frF k i s).1, Kd f
  | 0, _, _, f, h => by simp [frF] at h
  | k + 1, i, s, f, h => by
    by_cases hs : s = []
    · subst hs; simp [frF] at h
    · cases hst : standRd s with
      | none => rw [frF_none hst] at h; cases h
      | some p =>
        obtain ⟨g, n⟩ := p
        rw [frF_some hs hst] at h
        rcases List.mem_cons.1 h with rfl | h
        · exact (standRd_kd hst : Kd g)
        · exact frF_kd k (i + n) (s.drop n) f h
theorem frF_first (k i : Nat) (s : List UInt8) (f : Fd) (l : List Fd) (h : (frF k i s).1 = f :: l) : f.at_ = i := by
  cases k with
  | zero => simp [frF] at h
  | succ k =>
    by_cases hs : s = []
    · subst hs; simp [frF] at h
    · cases hst : standRd s with
      | none => rw [frF_none hst] at h; cases h
      | some p =>
        obtain ⟨g, n⟩ := p
        rw [frF_some hs hst] at h
        simp at h
        rw [← h.1]; rfl
theorem frF_length : ∀ (k i : Nat) (s : List UInt8), (frF k i s).1.length ≤ k
  | 0, _, _ => by simp [frF]
  | k + 1, i, s => by
    by_cases hs : s = []
    · subst hs; simp [frF]
    · cases hst : standRd s with
      | none => rw [frF_none hst]; simp
      | some p =>
        obtain ⟨g, n⟩ := p
        rw [frF_some hs hst]
        have := frF_length k (i + n) (s.drop n)
        simp; omega
theorem frF_le : ∀ (k i : Nat) (s : List UInt8), i ≤ (frF k i s).2 ∧ (frF k i s).2 ≤ i + s.length
  | 0, i, s => by simp [frF]
  | k + 1, i, s => by
    by_cases hs : s = []
    · subst hs; simp [frF]
    · cases hst : standRd s with
      | none => rw [frF_none hst]; simp
      | some p =>
        obtain ⟨g, n⟩ := p
        rw [frF_some hs hst]
        have := frF_le k (i + n) (s.drop n)
        have := standRd_le hst
        simp at this ⊢
        simp at *
        omega
end Go.Proofs.Ytdjpkgaicmklmab

/- Lists that came out and that their owner writes over with a mark: append of marks, stores, and what stays. -/
namespace Go.Proofs.Ytdjpkgaicmklmab
open Go.RowKit

/-- n rows of one mark. -/
def rep (n : Nat) (mk : List Value) : List Value := (List.replicate n mk).flatten
theorem rep_length (n : Nat) (mk : List Value) : (rep n mk).length = n * mk.length := by simp [rep]
theorem rep_add (n c : Nat) (mk : List Value) : rep (n + c) mk = rep n mk ++ rep c mk := by simp [rep, ← List.replicate_append_replicate]
theorem rep_one (mk : List Value) : rep 1 mk = mk := by simp [rep]
theorem rep_zero (mk : List Value) : rep 0 mk = [] := rfl
theorem rep_at (mk : List Value) : ∀ (n j : Nat), j < n * mk.length → (rep n mk)[j]? = mk[j % mk.length]?
  | 0, j, h => by simp at h
  | n + 1, j, h => by
    have e : rep (n + 1) mk = mk ++ rep n mk := by simp [rep, List.replicate_succ]
    rw [e]
    by_cases hj : j < mk.length
    · rw [List.getElem?_append_left hj, Nat.mod_eq_of_lt hj]
    · rw [List.getElem?_append_right (by omega), rep_at mk n (j - mk.length) (by rw [Nat.add_mul] at h; omega)]
      congr 1
      conv => rhs; rw [show j = (j - mk.length) + mk.length by omega]
      rw [Nat.add_mod_right]
theorem rep_eq {mk xs : List Value} {n : Nat} (hl : xs.length = n * mk.length) (h : ∀ j, j < n * mk.length → xs[j]? = mk[j % mk.length]?) : xs = rep n mk := by
  apply List.ext_getElem?
  intro j
  by_cases hj : j < n * mk.length
  · rw [h j hj, rep_at mk n j hj]
  · rw [List.getElem?_eq_none (by omega), List.getElem?_eq_none (by rw [rep_length]; omega)]

/-- Nothing but block g is changed of what there was; in it what was marked is so still. -/
structure Kp (g : Option Nat) (mk : List Value) (w w' : World) : Prop where
  os : w'.os = w.os
  tape : w'.tape = w.tape
  output : w'.output = w.output
  size : w.heap.size ≤ w'.heap.size
  block : ∀ k, k < w.heap.size → g ≠ some k → w'.heap[k]? = w.heap[k]?
  mark : ∀ k cur e, g = some k → w.heap[k]? = some (.cells cur e) → ∃ cur', w'.heap[k]? = some (.cells cur' e) ∧ cur'.size = cur.size ∧ ∀ j, cur[j]? = mk[j % mk.length]? → cur'[j]? = mk[j % mk.length]?

theorem Kp.of_below {g : Option Nat} {mk : List Value} {w w' : World} (h : Below w.heap.size w w') : Kp g mk w w' :=
  ⟨h.os, h.tape, h.output, h.size, fun k hk _ => h.block k hk, fun k cur e _ hc => ⟨cur, by rw [h.block k (Array.getElem?_eq_some_iff.1 hc).1]; exact hc, rfl, fun _ h => h⟩⟩
theorem Kp.below {g : Option Nat} {mk : List Value} {B : Nat} {w0 w w' : World} (h : Kp g mk w w') (hb : Below B w0 w) (hB : B ≤ w.heap.size) (hg : ∀ k, g = some k → B ≤ k) : Below B w0 w' :=
  ⟨h.os.trans hb.os, h.tape.trans hb.tape, h.output.trans hb.output, Nat.le_trans hb.size h.size, fun k hk => (h.block k (by omega) (fun e => by have := hg k e; omega)).trans (hb.block k hk)⟩
theorem Bx.kp {w w' : World} {k e : Nat} {cs mk : List Value} {g : Option Nat} (b : Bx w k e cs) (h : Kp g mk w w') (hg : g ≠ some k) : Bx w' k e cs := ⟨by rw [h.block k b.lt hg]; exact b.h⟩
theorem Vec.kpo {w w' : World} {B e m : Nat} {ad : Option Addr} {n cap : Nat} {xs mk : List Value} {g : Option Nat} (h : Vec w B e m ad n cap xs) (hk : Kp g mk w w') (hg : ∀ b, ad = some b → g ≠ some b.block) : Vec w' B e m ad n cap xs := by
  refine ⟨h.1, ?_⟩
  rcases h.2 with h2 | ⟨k, c, cur, hv, hB, hc, r⟩
  · exact Or.inl h2
  · refine Or.inr ⟨k, c, cur, hv, hB, ?_, r⟩
    simp at hv
    rw [hk.block k (Array.getElem?_eq_some_iff.1 hc).1 (hg _ hv.1)]; exact hc
theorem Vec.kp {w w' : World} {B e m : Nat} {ad : Option Addr} {n cap : Nat} {mk mk' : List Value} {g : Option Nat} (h : Vec w B e m ad n cap (rep n mk)) (hm : mk.length = m) (hk : Kp g mk' w w') (hg : ∀ b, ad = some b → g = some b.block → mk = mk') : Vec w' B e m ad n cap (rep n mk) := by
  refine ⟨h.1, ?_⟩
  rcases h.2 with h2 | ⟨k, c, cur, hv, hB, hc, h1, h3, h4, h5⟩
  · exact Or.inl h2
  · have hv' := hv
    simp at hv'
    by_cases hgk : g = some k
    · obtain rfl := hg _ hv'.1 hgk
      obtain ⟨cur', hc', hs, hmk⟩ := hk.mark k cur e hgk hc
      refine Or.inr ⟨k, c, cur', hv, hB, hc', h1, h3, by rw [hs, h4], ?_⟩
      subst hm
      refine rep_eq ?_ ?_
      · simp only [List.length_take, Array.length_toList, hs, h4]
        exact Nat.min_eq_left (Nat.mul_le_mul_right _ h1)
      · intro j hj
        rw [List.getElem?_take_of_lt hj, Array.getElem?_toList]
        apply hmk
        have := rep_at mk n j hj
        rw [← h5, List.getElem?_take_of_lt hj, Array.getElem?_toList] at this
        exact this
    · refine Or.inr ⟨k, c, cur, hv, hB, ?_, h1, h3, h4, h5⟩
      rw [hk.block k (Array.getElem?_eq_some_iff.1 hc).1 hgk]; exact hc

/-- Blocks of two types are two blocks. -/
theorem Vec.apart {w : World} {B B' e e' m m' : Nat} {ad ad' : Option Addr} {n n' cap cap' : Nat} {xs xs' : List Value} (h : Vec w B e m ad n cap xs) (h' : Vec w B' e' m' ad' n' cap' xs') (he : e ≠ e') : ∀ b, ad = some b → ad'.map (·.block) ≠ some b.block := by
  intro b hb hb'
  rcases h.2 with ⟨h2, _⟩ | ⟨k, c, cur, hv, hB, hc, _⟩
  · simp at h2; rw [h2.1] at hb; cases hb
  · rcases h'.2 with ⟨h2, _⟩ | ⟨k', c', cur', hv', hB', hc', _⟩
    · simp at h2; rw [h2.1] at hb'; cases hb'
    · simp at hv hv'
      rw [hv.1] at hb; cases hb
      rw [hv'.1] at hb'; simp at hb'
      subst hb'
      rw [hc] at hc'
      simp at hc'
      exact he hc'.2
theorem Bx.apart {w : World} {B e e' m k : Nat} {ad : Option Addr} {n cap : Nat} {xs cs : List Value} (b : Bx w k e' cs) (h : Vec w B e m ad n cap xs) (he : e ≠ e') : ad.map (·.block) ≠ some k := by
  intro hb
  rcases h.2 with ⟨h2, _⟩ | ⟨k', c, cur, hv, hB, hc, _⟩
  · simp at h2; rw [h2.1] at hb; cases hb
  · simp at hv
    rw [hv.1] at hb; simp at hb
    subst hb
    have := b.h
    rw [hc] at this
    simp at this
    exact he this.2
theorem Bx.frozen {w : World} {g e : Nat} {cs : List Value} (b : Bx w g e cs) (k : Nat) : w.frozen? ⟨g, k, none⟩ = false := by
  simp [World.frozen?, b.h]
theorem Bx.setCell {w : World} {g e : Nat} {cs : List Value} (b : Bx w g e cs) (k : Nat) (v : Value) : Bx (w.setCell ⟨g, k, none⟩ v) g e (cs.set k v) := by
  refine ⟨?_⟩
  rw [heap_setCell_same w g k cs.toArray e v b.h]
  simp

section
variable {P : Program} {w : World} {ops : Array Oper} {rest : List Oper} {o : Oper} {a : Act} {Q : Exit → Act → World → Prop}

theorem run_append_marks (B : Nat) (t ty e : TypeId) (i : TypeInfo) (z : Value) (size bytes : Nat) (ht : P.underlying t = some (.slice e)) (hi : P.info? e = some i) (hz : i.zero = some z)
    (hsize : i.size = size) (hby : i.bytes = bytes) (hzs : z.cells.size = size) (_hsz : 0 < size)
    (ad : Option Addr) (n cap : Nat) (xs : List Value) (hown : Vec w B e size ad n cap xs)
    (a : Addr) (m c : Nat) (mk : List Value) (hl : mk.length = size) (hnews : ∀ j u, (rep m mk)[j]? = some u → w.cell? (a.add j) = some u) (h1 : ∀ u ∈ mk, u.oneCell' = true) (hm : 0 < m)
    (h63 : n + m ≤ maxLen) (hbytes : (n + m) * bytes ≤ 140737488355328) (hbase : B ≤ w.heap.size) :
    ∃ ad' cap' w', (Builtin.append_ #[t, t] ty #[.slice ad n cap, .slice (some a) m c]).run P w = .ok (.slice ad' (n + m) cap') w' ∧ Vec w' B e size ad' (n + m) cap' (xs ++ rep m mk) ∧ Kp (ad.map (·.block)) mk w w' := by
  subst hsize
  subst hby
  have hsmall : n + m ≤ 9223372036854775807 := by simp only [maxLen] at h63; omega
  have hln : (rep m mk).length = m * i.size := by rw [rep_length, hl]
  have h1' : ∀ u ∈ rep m mk, u.oneCell' = true := by
    intro u hu
    simp only [rep, List.mem_flatten, List.mem_replicate] at hu
    obtain ⟨r, ⟨_, rfl⟩, hu⟩ := hu
    exact h1 u hu
  have hlen : (xs ++ rep m mk).length = (n + m) * i.size := by rw [List.length_append, hown.1, hln, Nat.add_mul]
  have grown : ∀ (old : Nat), old < n + m →
      Vec (w.drew.alloc (.cells (xs.toArray ++ (rep m mk).toArray ++ Builtin.zeroCells z.cells (grownCap w (n + m) old e - (n + m))) e)) B e i.size (some ⟨w.heap.size, 0, none⟩) (n + m) (grownCap w (n + m) old e) (xs ++ rep m mk) ∧
      Below w.heap.size w (w.drew.alloc (.cells (xs.toArray ++ (rep m mk).toArray ++ Builtin.zeroCells z.cells (grownCap w (n + m) old e - (n + m))) e)) := by
    intro old ho
    have hge := grownCap_ge w (n + m) old e
    have hcm : grownCap w (n + m) old e ≤ maxLen := grownCap_le_maxLen w (n + m) old e h63
    refine ⟨⟨hlen, .inr ⟨w.heap.size, _, _, rfl, hbase, heap_alloc_new w.drew _, hge, hcm, ?_, ?_⟩⟩, (Below.refl _ w).drew.alloc (by simp) _⟩
    · simp only [Array.size_append, List.size_toArray, size_zeroCells, hzs, hown.1, hln, ← Nat.add_mul]
      congr 1
      omega
    · simp only [Array.toList_append, List.append_assoc]
      rw [← List.append_assoc, ← hlen]
      exact List.take_left
  rcases hown.2 with ⟨hv, rfl⟩ | ⟨g, cap0, cur, hv, hbg, hg, hnc, hcm, hcs, htake⟩
  · simp at hv
    obtain ⟨rfl, rfl⟩ := hv
    have hx : xs = [] := List.eq_nil_of_length_eq_zero (by have := hown.1; omega)
    subst hx
    have hr := run_append_nil (P := P) w t ty e i z ht hi hz a m c (rep m mk) hln hnews (by omega) (by omega) (by have hb := hbytes; simp only [Nat.zero_add] at hb; omega)
    have hgr := grown 0 (by omega)
    simp only [Nat.zero_add, List.nil_append, Array.empty_append] at hgr ⊢
    exact ⟨_, _, _, hr, hgr.1, Kp.of_below hgr.2⟩
  · simp at hv
    obtain ⟨rfl, rfl⟩ := hv
    by_cases hroom : n + m ≤ cap
    · have hfit : n * i.size + (rep m mk).length ≤ cur.size := by rw [hln, hcs, ← Nat.add_mul]; exact Nat.mul_le_mul_right _ hroom
      have hr := run_append_room (P := P) w t ty e i ht hi g n cap cur hg a m c (rep m mk) hln hnews h1' hroom hfit
      refine ⟨_, _, _, hr, ⟨hlen, .inr ⟨g, cap, _, rfl, hbg, setRow_heap w g cur _ e _ hg, hroom, hcm, ?_, ?_⟩⟩, ⟨rfl, rfl, rfl, by simp, fun k _ hk => setRow_other w g k _ (fun e => hk (by simp [e])), ?_⟩⟩
      · simp only [List.size_toArray, List.length_append, List.length_take, List.length_drop, Array.length_toList]
        omega
      · rw [htake, ← hlen]
        exact List.take_left
      · intro k cur1 e1 hk hc1
        simp at hk
        subst hk
        rw [hg] at hc1
        simp at hc1
        obtain ⟨rfl, rfl⟩ := hc1
        refine ⟨_, setRow_heap w g cur _ e _ hg, ?_, ?_⟩
        · simp only [List.size_toArray, List.length_append, List.length_take, List.length_drop, Array.length_toList]
          omega
        · intro j hj
          simp only [List.getElem?_toArray]
          by_cases h1 : j < n * i.size
          · rw [List.append_assoc, List.getElem?_append_left (by simp; omega), List.getElem?_take_of_lt h1, Array.getElem?_toList]; exact hj
          · by_cases h2 : j < n * i.size + (rep m mk).length
            · rw [List.getElem?_append_left (by simp; omega), List.getElem?_append_right (by simp; omega)]
              have e1 : (cur.toList.take (n * i.size)).length = n * i.size := by simp; omega
              rw [e1, rep_at mk m (j - n * i.size) (by rw [hl]; omega), hl]
              congr 1
              conv => rhs; rw [show j = (j - n * i.size) + n * i.size by omega]
              rw [Nat.add_mul_mod_self_right]
            · rw [List.getElem?_append_right (by simp; omega)]
              have e1 : (cur.toList.take (n * i.size) ++ rep m mk).length = n * i.size + (rep m mk).length := by simp; omega
              rw [e1, List.getElem?_drop, Array.getElem?_toList, show n * i.size + (rep m mk).length + (j - (n * i.size + (rep m mk).length)) = j by omega]
              exact hj
    · have holds : ∀ j u, xs[j]? = some u → w.cell? ((⟨g, 0, none⟩ : Addr).add j) = some u := World.ownsRow.cells (g := g) hown rfl
      have hr := run_append_grow (P := P) w t ty e i z ht hi hz ⟨g, 0, none⟩ n cap xs hown.1 holds a m c (rep m mk) hln hnews (by omega) (by omega) (growslice_fits (by omega) hbytes)
      have hgr := grown cap (by omega)
      exact ⟨_, _, _, hr, hgr.1, Kp.of_below hgr.2⟩

/-- 'a := append(l, m, ..)'. -/
theorem wpList_pushk (hgd : o.guard = none) (s x : Operand) (t : TypeId) (ho : o.op = .call { callee := .builtin .append, args := #[s, x], argTypes := #[t, t] })
    (B e m bytes : Nat) (z : Value) (ht : P.underlying t = some (.slice e)) (hinfo : (P.info? e).map (fun i => (i.zero, i.size, i.bytes)) = some (some z, m, bytes)) (hzs : z.cells.size = m) (hm : 0 < m)
    (ad : Option Addr) (n cap : Nat) (xs : List Value) (hs : a.eval s = .slice ad n cap) (hown : Vec w B e m ad n cap xs)
    (ad1 : Addr) (k c : Nat) (mk : List Value) (hx : a.eval x = .slice (some ad1) k c) (hl : mk.length = m) (hnews : ∀ j u, (rep k mk)[j]? = some u → w.cell? (ad1.add j) = some u) (h1 : ∀ u, u ∈ mk → u.oneCell' = true) (hk : 0 < k)
    (hbytes : (n + k) * bytes ≤ 140737488355328) (hn : n + k ≤ 9223372036854775807) (hB : B ≤ w.heap.size)
    (h : ∀ ad' cap' w', Vec w' B e m ad' (n + k) cap' (xs ++ rep k mk) → Kp (ad.map (·.block)) mk w w' → wpList P ops Q rest (a.put o.dst (.slice ad' (n + k) cap')) w') : wpList P ops Q (o :: rest) a w := by
  obtain ⟨i, hi, hzz⟩ := Option.map_eq_some_iff.1 hinfo
  simp only [Prod.mk.injEq] at hzz
  obtain ⟨hz, hsz, hby⟩ := hzz
  obtain ⟨ad', cap', w', hr, h2, h3⟩ := run_append_marks (P := P) (w := w) B t o.type e i z m bytes ht hi hz hsz hby hzs hm ad n cap xs hown ad1 k c mk hl hnews h1 hk (by unfold maxLen; omega) hbytes hB
  refine wpList_plain hgd fun K hK => ?_
  unfold Oper.wp execOp
  simp only [ho, resolve, invoke, builtin, Sem.run_bind, Sem.run_pure, Result.andThen_ok, List.map_toArray, List.map_cons, List.map_nil, hs, hx, hr]
  exact hK _ _ (h ad' cap' w' h2 h3)
/-- The same within a region that draws its order. -/
theorem step_pushk {K : Act → World → Prop} {E : Prop} (hgd : o.guard = none) (s x : Operand) (t : TypeId) (ho : o.op = .call { callee := .builtin .append, args := #[s, x], argTypes := #[t, t] })
    (B e m bytes : Nat) (z : Value) (ht : P.underlying t = some (.slice e)) (hinfo : (P.info? e).map (fun i => (i.zero, i.size, i.bytes)) = some (some z, m, bytes)) (hzs : z.cells.size = m) (hm : 0 < m)
    (ad : Option Addr) (n cap : Nat) (xs : List Value) (hs : a.eval s = .slice ad n cap) (hown : Vec w B e m ad n cap xs)
    (ad1 : Addr) (c : Nat) (mk : List Value) (hx : a.eval x = .slice (some ad1) 1 c) (hl : mk.length = m) (hnews : ∀ j u, mk[j]? = some u → w.cell? (ad1.add j) = some u) (h1 : ∀ u, u ∈ mk → u.oneCell' = true)
    (hbytes : (n + 1) * bytes ≤ 140737488355328) (hn : n + 1 ≤ 9223372036854775807) (hB : B ≤ w.heap.size)
    (h : ∀ ad' cap' w', Vec w' B e m ad' (n + 1) cap' (xs ++ mk) → Kp (ad.map (·.block)) mk w w' → K (a.put o.dst (.slice ad' (n + 1) cap')) w') :
    if Region.wanted o (yielded ops a.tmps) = true then Oper.wp P o a w K Q else E := by
  have hw : Region.wanted o (yielded ops a.tmps) = true := by simp [Region.wanted, hgd]
  rw [if_pos hw]
  obtain ⟨i, hi, hzz⟩ := Option.map_eq_some_iff.1 hinfo
  simp only [Prod.mk.injEq] at hzz
  obtain ⟨hz, hsz, hby⟩ := hzz
  obtain ⟨ad', cap', w', hr, h2, h3⟩ := run_append_marks (P := P) (w := w) B t o.type e i z m bytes ht hi hz hsz hby hzs hm ad n cap xs hown ad1 1 c mk hl (by rw [rep_one]; exact hnews) h1 (by omega) (by unfold maxLen; omega) hbytes hB
  rw [rep_one] at h2
  unfold Oper.wp execOp
  simp only [ho, resolve, invoke, builtin, Sem.run_bind, Sem.run_pure, Result.andThen_ok, List.map_toArray, List.map_cons, List.map_nil, hs, hx, hr]
  exact h ad' cap' w' h2 h3

/-- 'l[i] = m'. -/
theorem wpList_vstore (hgd : o.guard = none) (p v : Operand) (t : TypeId) (ho : o.op = .store t p v) (B e m : Nat) (hs : (P.info? t).map (·.size) = some m) (ad : Option Addr) (n cap : Nat) (mk ys : List Value) (i g : Nat) (hg : Hid (ad = some ⟨g, 0, none⟩))
    (hown : Vec w B e m ad n cap (rep i mk ++ ys)) (hin : i < n) (hl : mk.length = m) (h1 : ∀ u, u ∈ mk → u.oneCell' = true) (hp : a.eval p = .pointer (some ⟨g, i * m, none⟩)) (hv : a.eval v = .agg mk.toArray)
    (h : ∀ w', Vec w' B e m ad n cap (rep (i + 1) mk ++ ys.drop m) → Upd g w w' → wpList P ops Q rest (a.put o.dst undef) w') : wpList P ops Q (o :: rest) a w := by
  subst hl
  have hg' := hg.out
  subst hg'
  rcases hown.2 with ⟨h2, _⟩ | ⟨k, c, cur, hvv, hB, hc, r1, r2, r3, r4⟩
  · simp at h2
  · simp at hvv
    obtain ⟨rfl, rfl⟩ := hvv
    have hlen := hown.1
    rw [List.length_append, rep_length] at hlen
    have hmul : (i + 1) * mk.length ≤ n * mk.length := Nat.mul_le_mul_right _ hin
    have hmul2 : n * mk.length ≤ cap * mk.length := Nat.mul_le_mul_right _ r1
    rw [Nat.add_mul, Nat.one_mul] at hmul
    have hfit : i * mk.length + 0 + mk.length ≤ cur.size := by rw [r3]; omega
    have hst := run_storeCells_at P g (i * mk.length) e mk 0 cur w hc hfit h1
    refine wpList_plain hgd fun K hK => ?_
    cases hq : P.info? t with
    | none => simp [hq] at hs
    | some inf =>
      have hi' : inf.size = mk.length := by simpa [hq] using hs
      unfold Oper.wp
      simp [execOp, ho, hp, hv, Instr.storeAt, Instr.sureAddr, storeVar, sizeOf, typeInfo, hq, hi', Value.cells, hst, Result.andThen]
      refine hK _ _ (h _ ⟨?_, .inr ⟨g, cap, _, rfl, hB, setRow_heap w g cur _ e _ hc, r1, r2, ?_, ?_⟩⟩ (Upd.setRow _ _ _))
      · rw [List.length_append, rep_length, List.length_drop, Nat.add_mul]; omega
      · simp only [List.size_toArray, List.length_append, List.length_take, List.length_drop, Array.length_toList]; omega
      · have hcur : cur.toList = rep i mk ++ ys ++ cur.toList.drop (n * mk.length) := by rw [← r4, List.take_append_drop]
        have e1 : cur.toList.take (i * mk.length) = rep i mk := by
          rw [hcur, List.append_assoc, List.take_append_of_le_length (by rw [rep_length]; omega), List.take_of_length_le (by rw [rep_length]; omega)]
        have e2 : cur.toList.drop (i * mk.length + mk.length) = ys.drop mk.length ++ cur.toList.drop (n * mk.length) := by
          conv => lhs; rw [hcur]
          rw [List.append_assoc, List.drop_append, rep_length, List.drop_of_length_le (by rw [rep_length]; omega), List.nil_append, List.drop_append, show i * mk.length + mk.length - i * mk.length = mk.length by omega, show mk.length - ys.length = 0 by omega, List.drop_zero]
        rw [e1, e2]
        have e3 : rep i mk ++ (mk ++ (ys.drop mk.length ++ cur.toList.drop (n * mk.length))) = (rep (i + 1) mk ++ ys.drop mk.length) ++ cur.toList.drop (n * mk.length) := by rw [rep_add, rep_one]; simp
        rw [e3]
        refine List.take_left' ?_
        rw [List.length_append, rep_length, List.length_drop, Nat.add_mul]; omega
end
end Go.Proofs.Ytdjpkgaicmklmab

/- linkOf of the program: walked. -/
namespace Go.Proofs.Ytdjpkgaicmklmab
open Go.RowKit

section
variable {P : Program} {w : World} {ops : Array Oper} {rest : List Oper} {o : Oper} {a : Act} {Q : Exit → Act → World → Prop}
/-- A part of a variable that is a struct itself is written. -/
theorem wpList_bputs (hgd : o.guard = none) (p v : Operand) (t : TypeId) (ho : o.op = .store t p v) (g e k : Nat) (hp : a.eval p = .pointer (some ⟨g, k, none⟩)) (cs vs : List Value) (hv : a.eval v = .agg vs.toArray)
    (hb : Bx w g e cs) (m : Nat) (hm : vs.length = m) (hs : (P.info? t).map (·.size) = some m) (hk : k + m ≤ cs.length) (h1 : ∀ x, x ∈ vs → x.oneCell' = true)
    (h : ∀ w', Bx w' g e (cs.take k ++ vs ++ cs.drop (k + m)) → Upd g w w' → wpList P ops Q rest (a.put o.dst undef) w') : wpList P ops Q (o :: rest) a w := by
  subst hm
  refine wpList_plain hgd fun K hK => ?_
  have hst := run_storeCells_at P g k e vs 0 cs.toArray w hb.h (by simp; omega) h1
  simp only [Nat.add_zero] at hst
  cases hq : P.info? t with
  | none => simp [hq] at hs
  | some inf =>
    have hi' : inf.size = vs.length := by simpa [hq] using hs
    unfold Oper.wp
    simp [execOp, ho, hp, hv, Instr.storeAt, Instr.sureAddr, storeVar, sizeOf, typeInfo, hq, hi', Value.cells, hst, Result.andThen]
    have hB := setRow_heap w g _ (cs.take k ++ vs ++ cs.drop (k + vs.length)).toArray e _ hb.h
    refine hK _ _ (h _ ⟨?_⟩ (Upd.setRow _ _ _))
    simpa using hB
end

theorem ckOf_take (l : List Fd) (i : Nat) (h : i < l.length) : ckOf (l.take (i + 1)) = ckOf (l.take i) ++ ckOf [l[i]] := by
  unfold ckOf; rw [List.take_add_one, List.getElem?_eq_getElem h, Option.toList_some, List.filter_append, List.map_append]
theorem cdOf_take (l : List Fd) (i : Nat) (h : i < l.length) : cdOf (l.take (i + 1)) = cdOf (l.take i) ++ cdOf [l[i]] := by
  unfold cdOf; rw [List.take_add_one, List.getElem?_eq_getElem h, Option.toList_some, List.filter_append, List.map_append]
theorem edOf_take (l : List Fd) (i : Nat) (h : i < l.length) : edOf (l.take (i + 1)) = edOf (l.take i) ++ edOf [l[i]] := by
  unfold edOf; rw [List.take_add_one, List.getElem?_eq_getElem h, Option.toList_some, List.filter_append, List.map_append]
theorem ccells_app (a b : List Cd) : ccells (a ++ b) = ccells a ++ ccells b := by simp [ccells]
theorem ecells_app (a b : List Ed) : ecells (a ++ b) = ecells a ++ ecells b := by simp [ecells]
theorem ckOf_le (l : List Fd) : (ckOf l).length ≤ l.length := by simp only [ckOf, List.length_map]; exact List.length_filter_le _ _
theorem cdOf_le (l : List Fd) : (cdOf l).length ≤ l.length := by simp only [cdOf, List.length_map]; exact List.length_filter_le _ _
theorem edOf_le (l : List Fd) : (edOf l).length ≤ l.length := by simp only [edOf, List.length_map]; exact List.length_filter_le _ _

/-- Records that stand in a bundle's order: a head, and no other. -/
structure Ordered (l : List Fd) : Prop where
  first : (l.getD 0 fd0).kind = 4
  some_ : 0 < l.length
  rest : ∀ i, 0 < i → i < l.length → (l.getD i fd0).kind = 1 ∨ (l.getD i fd0).kind = 2 ∨ (l.getD i fd0).kind = 3
theorem ordF_rest : ∀ (l : List Fd) (p : Fd), ordF p l = none → ∀ f ∈ l, f.kind = 1 ∨ f.kind = 2 ∨ f.kind = 3
  | [], _, _, f, h => by cases h
  | g :: l, p, h, f, hf => by
    simp only [ordF] at h
    split at h
    · rename_i hfit
      rcases List.mem_cons.1 hf with rfl | hf
      · unfold fitB at hfit
        split at hfit
        · exact Or.inl ‹_›
        · split at hfit
          · exact Or.inr (Or.inl ‹_›)
          · split at hfit
            · exact Or.inr (Or.inr ‹_›)
            · cases hfit
      · exact ordF_rest l g h f hf
    · cases h
theorem ordered_of {l : List Fd} (h : ordRd l = none) : Ordered l := by
  cases l with
  | nil => cases h
  | cons f l =>
    simp only [ordRd] at h
    split at h
    · rename_i h4
      refine ⟨h4, by simp, fun i h0 hi => ?_⟩
      obtain ⟨j, rfl⟩ : ∃ j, i = j + 1 := ⟨i - 1, by omega⟩
      have hj : j < l.length := by simpa using hi
      have := ordF_rest l f h l[j] (List.getElem_mem hj)
      simpa [List.getD, hj] using this
    · cases h

abbrev lnkC (s b : Int) (a1 : Option Addr) (n1 c1 : Nat) (a2 : Option Addr) (n2 c2 : Nat) (a3 : Option Addr) (n3 c3 : Nat) : List Value := [.int .i64 s, .int .i64 b, .slice a1 n1 c1, .slice a2 n2 c2, .slice a3 n3 c3]
/-- Three lists, out of records. -/
structure Three (w : World) (B : Nat) (l : List Fd) (a1 : Option Addr) (n1 c1 : Nat) (a2 : Option Addr) (n2 c2 : Nat) (a3 : Option Addr) (n3 c3 : Nat) : Prop where
  v1 : Vec w B 72 2 a1 n1 c1 (kcells (ckOf l))
  v2 : Vec w B 68 5 a2 n2 c2 (ccells (cdOf l))
  v3 : Vec w B 61 2 a3 n3 c3 (ecells (edOf l))
  e1 : n1 = (ckOf l).length
  e2 : n2 = (cdOf l).length
  e3 : n3 = (edOf l).length
theorem Three.keep {w w' : World} {B : Nat} {l : List Fd} {a1 : Option Addr} {n1 c1 : Nat} {a2 : Option Addr} {n2 c2 : Nat} {a3 : Option Addr} {n3 c3 : Nat} (h : Three w B l a1 n1 c1 a2 n2 c2 a3 n3 c3) (hb : Below w.heap.size w w') : Three w' B l a1 n1 c1 a2 n2 c2 a3 n3 c3 := ⟨h.v1.keep hb, h.v2.keep hb, h.v3.keep hb, h.e1, h.e2, h.e3⟩
theorem Three.upd {w w' : World} {B g : Nat} {l : List Fd} {a1 : Option Addr} {n1 c1 : Nat} {a2 : Option Addr} {n2 c2 : Nat} {a3 : Option Addr} {n3 c3 : Nat} (h : Three w B l a1 n1 c1 a2 n2 c2 a3 n3 c3) (hu : Upd g w w') (hg : g < B) : Three w' B l a1 n1 c1 a2 n2 c2 a3 n3 c3 := ⟨h.v1.upd hu hg, h.v2.upd hu hg, h.v3.upd hu hg, h.e1, h.e2, h.e3⟩
theorem ckOf_snoc (l : List Fd) (f : Fd) : ckOf (l ++ [f]) = ckOf l ++ ckOf [f] := by unfold ckOf; rw [List.filter_append, List.map_append]
theorem cdOf_snoc (l : List Fd) (f : Fd) : cdOf (l ++ [f]) = cdOf l ++ cdOf [f] := by unfold cdOf; rw [List.filter_append, List.map_append]
theorem edOf_snoc (l : List Fd) (f : Fd) : edOf (l ++ [f]) = edOf l ++ edOf [f] := by unfold edOf; rw [List.filter_append, List.map_append]
theorem Three.push1 {w w' : World} {B : Nat} {l : List Fd} {f : Fd} {a1 : Option Addr} {n1 c1 : Nat} {a2 : Option Addr} {n2 c2 : Nat} {a3 : Option Addr} {n3 c3 : Nat} {ad' : Option Addr} {cap' : Nat} (h : Three w B l a1 n1 c1 a2 n2 c2 a3 n3 c3) (hf : f.kind = 1)
    (hv' : Vec w' B 72 2 ad' (n1 + 1) cap' (kcells (ckOf l) ++ rep 1 (Ck.mk f.site f.count).cells)) (hk : Kp (a1.map (·.block)) (Ck.mk f.site f.count).cells w w') : Three w' B (l ++ [f]) ad' (n1 + 1) cap' a2 n2 c2 a3 n3 c3 :=
  ⟨by rw [ckOf_snoc, kcells_append]; rw [rep_one] at hv'; simpa [ckOf, kcells, hf] using hv', by rw [cdOf_snoc, show cdOf [f] = [] by simp [cdOf, hf], List.append_nil]; exact h.v2.kpo hk (fun b hb hb' => h.v2.apart h.v1 (by decide) b hb hb'), by rw [edOf_snoc, show edOf [f] = [] by simp [edOf, hf], List.append_nil]; exact h.v3.kpo hk (fun b hb hb' => h.v3.apart h.v1 (by decide) b hb hb'), by rw [ckOf_snoc, List.length_append, ← h.e1]; simp [ckOf, hf], by rw [cdOf_snoc, show cdOf [f] = [] by simp [cdOf, hf], List.append_nil]; exact h.e2, by rw [edOf_snoc, show edOf [f] = [] by simp [edOf, hf], List.append_nil]; exact h.e3⟩
theorem Three.push2 {w w' : World} {B : Nat} {l : List Fd} {f : Fd} {a1 : Option Addr} {n1 c1 : Nat} {a2 : Option Addr} {n2 c2 : Nat} {a3 : Option Addr} {n3 c3 : Nat} {ad' : Option Addr} {cap' : Nat} (h : Three w B l a1 n1 c1 a2 n2 c2 a3 n3 c3) (hf : f.kind = 2)
    (hv' : Vec w' B 68 5 ad' (n2 + 1) cap' (ccells (cdOf l) ++ rep 1 (Cd.mk f.id f.site f.count f.gone f.text).cells)) (hk : Kp (a2.map (·.block)) (Cd.mk f.id f.site f.count f.gone f.text).cells w w') : Three w' B (l ++ [f]) a1 n1 c1 ad' (n2 + 1) cap' a3 n3 c3 :=
  ⟨by rw [ckOf_snoc, show ckOf [f] = [] by simp [ckOf, hf], List.append_nil]; exact h.v1.kpo hk (fun b hb hb' => h.v1.apart h.v2 (by decide) b hb hb'), by rw [cdOf_snoc, ccells_app]; rw [rep_one] at hv'; simpa [cdOf, ccells, hf] using hv', by rw [edOf_snoc, show edOf [f] = [] by simp [edOf, hf], List.append_nil]; exact h.v3.kpo hk (fun b hb hb' => h.v3.apart h.v2 (by decide) b hb hb'), by rw [ckOf_snoc, show ckOf [f] = [] by simp [ckOf, hf], List.append_nil]; exact h.e1, by rw [cdOf_snoc, List.length_append, ← h.e2]; simp [cdOf, hf], by rw [edOf_snoc, show edOf [f] = [] by simp [edOf, hf], List.append_nil]; exact h.e3⟩
theorem Three.push3 {w w' : World} {B : Nat} {l : List Fd} {f : Fd} {a1 : Option Addr} {n1 c1 : Nat} {a2 : Option Addr} {n2 c2 : Nat} {a3 : Option Addr} {n3 c3 : Nat} {ad' : Option Addr} {cap' : Nat} (h : Three w B l a1 n1 c1 a2 n2 c2 a3 n3 c3) (hf : f.kind = 3)
    (hv' : Vec w' B 61 2 ad' (n3 + 1) cap' (ecells (edOf l) ++ rep 1 (Ed.mk f.id f.text).cells)) (hk : Kp (a3.map (·.block)) (Ed.mk f.id f.text).cells w w') : Three w' B (l ++ [f]) a1 n1 c1 a2 n2 c2 ad' (n3 + 1) cap' :=
  ⟨by rw [ckOf_snoc, show ckOf [f] = [] by simp [ckOf, hf], List.append_nil]; exact h.v1.kpo hk (fun b hb hb' => h.v1.apart h.v3 (by decide) b hb hb'), by rw [cdOf_snoc, show cdOf [f] = [] by simp [cdOf, hf], List.append_nil]; exact h.v2.kpo hk (fun b hb hb' => h.v2.apart h.v3 (by decide) b hb hb'), by rw [edOf_snoc, ecells_app]; rw [rep_one] at hv'; simpa [edOf, ecells, hf] using hv', by rw [ckOf_snoc, show ckOf [f] = [] by simp [ckOf, hf], List.append_nil]; exact h.e1, by rw [cdOf_snoc, show cdOf [f] = [] by simp [cdOf, hf], List.append_nil]; exact h.e2, by rw [edOf_snoc, List.length_append, ← h.e3]; simp [edOf, hf]⟩
theorem Three.head {w : World} {B : Nat} {l : List Fd} {f : Fd} {a1 : Option Addr} {n1 c1 : Nat} {a2 : Option Addr} {n2 c2 : Nat} {a3 : Option Addr} {n3 c3 : Nat} (h : Three w B l a1 n1 c1 a2 n2 c2 a3 n3 c3) (hf : f.kind = 4) : Three w B (l ++ [f]) a1 n1 c1 a2 n2 c2 a3 n3 c3 := by
  have e1 : ckOf (l ++ [f]) = ckOf l := by rw [ckOf_snoc, show ckOf [f] = [] by simp [ckOf, hf], List.append_nil]
  have e2 : cdOf (l ++ [f]) = cdOf l := by rw [cdOf_snoc, show cdOf [f] = [] by simp [cdOf, hf], List.append_nil]
  have e3 : edOf (l ++ [f]) = edOf l := by rw [edOf_snoc, show edOf [f] = [] by simp [edOf, hf], List.append_nil]
  exact ⟨by rw [e1]; exact h.v1, by rw [e2]; exact h.v2, by rw [e3]; exact h.v3, by rw [e1]; exact h.e1, by rw [e2]; exact h.e2, by rw [e3]; exact h.e3⟩
end Go.Proofs.Ytdjpkgaicmklmab

/- Read of a bundle is the link that was written: without the program. -/
namespace Go.Proofs.Ytdjpkgaicmklmab
open Go.RowKit

theorem frF_frames : ∀ (l : List Fd), Okay l → ∀ (fuel p : Nat), (framesB l).length ≤ fuel → frF fuel p (framesB l) = (atL p l, p + lenL l)
  | [], _, fuel, p, _ => by simp only [framesB, List.flatMap_nil]; rw [frF_nil]; simp [atL, lenL]
  | f :: l, ho, fuel, p, hf => by
    have hw := ho f (by simp)
    have ho' : Okay l := fun g hg => ho g (by simp [hg])
    have hlen : (frameB (recF f)).length = lenF f := frameB_length _
    have e : framesB (f :: l) = frameB (recF f) ++ framesB l := by simp [framesB]
    rw [e] at hf ⊢
    rw [List.length_append, hlen] at hf
    obtain ⟨fuel, rfl⟩ : ∃ k, fuel = k + 1 := ⟨fuel - 1, by simp [lenF] at hf; omega⟩
    rw [frF_some (by simp [frameB]) (standRd_back hw.1 hw.2 _), ← hlen, List.drop_left, hlen, frF_frames l ho' fuel (p + lenF f) (by simp [lenF] at hf ⊢; omega)]
    simp only [atL, lenL, List.map_cons, List.sum_cons]
    refine Prod.ext rfl ?_
    simp only []; omega

theorem fitB_put (p f : Fd) (x y : Nat) : fitB (p.put x) (f.put y) = fitB p f := rfl
/-- Neighbours that fit. -/
def Chain : Fd → List Fd → Prop
  | _, [] => True
  | p, f :: l => fitB p f = true ∧ Chain f l
theorem ordF_chain : ∀ (l : List Fd) (p : Fd) (x q : Nat), Chain p l → ordF (p.put x) (atL q l) = none
  | [], _, _, _, _ => rfl
  | f :: l, p, x, q, h => by
    simp only [atL, ordF]
    rw [if_pos (by rw [fitB_put]; exact h.1)]
    exact ordF_chain l f q _ h.2
theorem Chain.append : ∀ (a b : List Fd) (p : Fd), Chain p a → Chain ((a.getLast?).getD p) b → Chain p (a ++ b)
  | [], _, _, _, h => h
  | f :: a, b, p, h, h' => by
    refine ⟨h.1, Chain.append a b f h.2 ?_⟩
    cases a with
    | nil => simpa using h'
    | cons g a => simpa [List.getLast?_cons] using h'
theorem chain_range (g : Nat → Fd) : ∀ (n k : Nat) (p : Fd), (0 < n → fitB p (g k) = true) → (∀ i, k ≤ i → i + 1 < k + n → fitB (g i) (g (i + 1)) = true) → Chain p ((List.range' k n).map g)
  | 0, _, _, _, _ => trivial
  | n + 1, k, p, h0, h => by
    rw [List.range'_succ, List.map_cons]
    exact ⟨h0 (by omega), chain_range g n (k + 1) (g k) (fun hn => h k (Nat.le_refl _) (by omega)) (fun i hi hi2 => h i (by omega) (by omega))⟩
theorem chain_map (g : Nat → Fd) (n : Nat) (p : Fd) (h0 : 0 < n → fitB p (g 0) = true) (h : ∀ i, i + 1 < n → fitB (g i) (g (i + 1)) = true) : Chain p ((List.range n).map g) := by
  rw [List.range_eq_range']
  exact chain_range g n 0 p h0 (fun i _ hi => h i (by omega))
theorem last_map (g : Nat → Fd) (n : Nat) (p : Fd) : ((List.range n).map g).getLast?.getD p = if n = 0 then p else g (n - 1) := by
  cases n with
  | zero => rfl
  | succ n => rw [List.range_succ, List.map_append]; simp

/-- A replica whose sites and numbers rise. -/
structure Rising (R : Rep) : Prop where
  c : ∀ i, i + 1 < R.n1 → (R.c i).site < (R.c (i + 1)).site
  d : ∀ i, i + 1 < R.n2 → (R.d i).id < (R.d (i + 1)).id
theorem Rep.rising {R : Rep} (h : R.chk = 0) : Rising R := by
  have g : R.risB = false := by
    unfold Rep.chk at h
    split at h
    · cases h
    · split at h
      · cases h
      · split at h
        · cases h
        · split at h
          · cases h
          · rename_i hh; simpa using hh
  unfold Rep.risB at g
  simp only [Bool.or_eq_false_iff] at g
  have none_of : ∀ (p : Nat → Bool) (n : Nat), anyTo p n = false → ∀ i, i < n → p i = false := by
    intro p n hh i hi
    cases hp : p i
    · rfl
    · rw [anyTo_hit hi hp] at hh; cases hh
  refine ⟨fun i hi => ?_, fun i hi => ?_⟩
  · have := none_of _ _ g.1 i (by omega); unfold Rep.ris1 at this; simp at this; omega
  · have := none_of _ _ g.2 i (by omega); unfold Rep.ris2 at this; simp at this; omega

theorem recs_chain (s b : Int) {R : Rep} (h : Rising R) : ∃ l, recsOf s b R = fdHead s b :: l ∧ Chain (fdHead s b) l := by
  refine ⟨(List.range R.n1).map (fun i => fdClock (R.c i)) ++ ((List.range R.n2).map (fun i => fdCard (R.d i)) ++ (List.range R.n3).map (fun i => fdEdit (R.e i))), by simp [recsOf, recs3, recs2, recs1], ?_⟩
  refine Chain.append _ _ _ (chain_map _ _ _ (fun _ => by simp [fitB, fdClock, fdHead]) (fun i hi => by have := h.c i hi; simp [fitB, fdClock, this])) ?_
  rw [last_map]
  refine Chain.append _ _ _ (chain_map _ _ _ (fun _ => ?_) (fun i hi => by have := h.d i hi; simp [fitB, fdCard, this])) ?_
  · split <;> simp [fitB, fdCard, fdHead, fdClock]
  · exact chain_map _ _ _ (fun _ => by simp [fitB, fdEdit]) (fun i _ => by simp [fitB, fdEdit])

theorem ckOf_atL : ∀ (l : List Fd) (p : Nat), ckOf (atL p l) = ckOf l
  | [], _ => rfl
  | f :: l, p => by
    have ih := ckOf_atL l (p + lenF f)
    unfold ckOf at ih ⊢
    simp only [atL, List.filter_cons, show (f.put p).kind = f.kind from rfl]
    split
    · rw [List.map_cons, List.map_cons, ih]; rfl
    · exact ih
theorem cdOf_atL : ∀ (l : List Fd) (p : Nat), cdOf (atL p l) = cdOf l
  | [], _ => rfl
  | f :: l, p => by
    have ih := cdOf_atL l (p + lenF f)
    unfold cdOf at ih ⊢
    simp only [atL, List.filter_cons, show (f.put p).kind = f.kind from rfl]
    split
    · rw [List.map_cons, List.map_cons, ih]; rfl
    · exact ih
theorem edOf_atL : ∀ (l : List Fd) (p : Nat), edOf (atL p l) = edOf l
  | [], _ => rfl
  | f :: l, p => by
    have ih := edOf_atL l (p + lenF f)
    unfold edOf at ih ⊢
    simp only [atL, List.filter_cons, show (f.put p).kind = f.kind from rfl]
    split
    · rw [List.map_cons, List.map_cons, ih]; rfl
    · exact ih
theorem filt_t (l : List Nat) : l.filter (fun _ => true) = l := by simp [List.filter_eq_self]
theorem filt_f (l : List Nat) : l.filter (fun _ => false) = [] := by simp [List.filter_eq_nil_iff]
theorem of_recs (s b : Int) (R : Rep) : ckOf (recsOf s b R) = (List.range R.n1).map R.c ∧ cdOf (recsOf s b R) = (List.range R.n2).map R.d ∧ edOf (recsOf s b R) = (List.range R.n3).map R.e := by
  have e : recsOf s b R = [fdHead s b] ++ ((List.range R.n1).map (fun i => fdClock (R.c i)) ++ ((List.range R.n2).map (fun i => fdCard (R.d i)) ++ (List.range R.n3).map (fun i => fdEdit (R.e i)))) := by simp [recsOf, recs3, recs2, recs1]
  rw [e]
  refine ⟨?_, ?_, ?_⟩
  · simp [ckOf, List.filter_map, Function.comp_def, fdHead, fdClock, fdCard, fdEdit]
    rw [filt_t, filt_f, filt_f]; simp
  · simp [cdOf, List.filter_map, Function.comp_def, fdHead, fdClock, fdCard, fdEdit]
    rw [filt_t, filt_f, filt_f]; simp
  · simp [edOf, List.filter_map, Function.comp_def, fdHead, fdClock, fdCard, fdEdit]
    rw [filt_t, filt_f, filt_f]; simp

/-- Read of a link's bundle is that link. -/
theorem readRd_bundle {s b : Int} {R : Rep} (hF : Fit R) (hr : Rising R) (hs : Num s) (hb1 : 0 ≤ b) (hb2 : b ≤ 4294967295) (h0 : s = 0 → b = 0) :
    readRd (bundleB (recsOf s b R)) = ⟨s, b, 0, 0, (List.range R.n1).map R.c, (List.range R.n2).map R.d, (List.range R.n3).map R.e⟩ := by
  have hok : Okay (recsOf s b R) := fun f hf => ⟨hF.ok hs hb1 hb2 f hf, fun hq => by
    simp only [recsOf, recs3, recs2, recs1, List.mem_append, List.mem_cons, List.mem_map] at hf
    rcases hf with ((rfl | ⟨_, _, rfl⟩) | ⟨_, _, rfl⟩) | ⟨_, _, rfl⟩
    · exact h0 hq
    · rfl
    · rfl
    · rfl⟩
  obtain ⟨l, hl, hc⟩ := recs_chain s b hr
  obtain ⟨o1, o2, o3⟩ := of_recs s b R
  generalize hL : recsOf s b R = L at *
  have hlen := bundleB_length L
  have e4 : (bundleB L).length - 4 = (bodyB L).length := by unfold bundleB; rw [List.length_append]; simp [fourI]
  have ebody : (bundleB L).take ((bundleB L).length - 4) = bodyB L := by rw [e4]; unfold bundleB; rw [List.take_left]
  have eseal : (bundleB L).drop ((bundleB L).length - 4) = fourI (crc pSeal (bodyB L)) := by rw [e4]; unfold bundleB; rw [List.drop_left]
  have hsl : sealedB (bundleB L) = true := by unfold sealedB; rw [ebody, eseal, hlen]; simp
  have hfr : framed (bodyB L) = (atL 4 L, 4 + lenL L) := by
    unfold framed
    have : (bodyB L).drop 4 = framesB L := rfl
    rw [this]
    exact frF_frames L hok _ 4 (by simp [bodyB]; omega)
  unfold readRd
  rw [if_neg (by
    rintro (h | h)
    · omega
    · exact h rfl), if_pos hsl, ebody, hfr]
  simp only []
  rw [if_neg (by omega)]
  have hord : ordRd (atL 4 L) = none := by
    rw [hl]
    simp only [atL, ordRd]
    rw [if_pos (by rfl)]
    exact ordF_chain l _ 4 _ hc
  rw [hord]
  simp only [ansOk]
  rw [ckOf_atL, cdOf_atL, edOf_atL, o1, o2, o3, hl]
  rfl
end Go.Proofs.Ytdjpkgaicmklmab

/- sealed and framesOf of the program: walked. -/
namespace Go.Proofs.Ytdjpkgaicmklmab
open Go.RowKit

set_option maxRecDepth 100000 in
set_option maxHeartbeats 4000000 in
theorem sealed_any (b : List UInt8) (w : World) (hb : b.length ≤ 1099511627776) :
    Calls Try.prog 58 #[.string (str b)] w fun e w' => e = .returned (.bool (sealedB b)) ∧ Below w.heap.size w w' := by
  have hz := str_size b
  have HZ : Hid ((str b).size = b.length) := hz
  have hbb : (str b).size ≤ 1099511627776 := by omega
  by_cases h8 : (str b).size < 8
  · have HN : Hid (sealedB b = false) := by show _ = _; simp [sealedB]; intro h; omega
    clear hz
    go_enter Try.func58, Try.ntmps58
    go_wp2_with fail
    go_ret
    exact ⟨by rw [HN.out]; rfl, Below.refl _ _⟩
  · obtain ⟨n, hn⟩ : ∃ n, (str b).size = n + 4 := ⟨(str b).size - 4, by omega⟩
    have hbl : b.length - 4 = n := by omega
    have hx1 : (str b).extract 0 n = str (b.take n) := by rw [str_extract]; simp
    have hx2 : (str b).extract n (n + 4) = str (b.drop n) := by rw [str_extract, List.take_of_length_le (by simp; omega)]
    have hsub : ((n : Int) + 4 - 4) = (n : Int) := by omega
    have h4n : 4 ≤ n := by omega
    have hle : (n : Int) ≤ ((str b).size : Int) := by omega
    have hle2 : (n : Int) ≤ (n : Int) + 4 := by omega
    have hlt : (b.take n).length ≤ 9223372036854775807 := by simp; omega
    have HN : Hid (sealedB b = (b.drop n == fourI (crc pSeal (b.take n)))) := by
      show _ = _; simp only [sealedB, hbl]; simp [show 8 ≤ b.length by omega]
    have hnb : n ≤ 1099511627776 := by omega
    clear hz h8 hbl
    go_enter Try.func58, Try.ntmps58
    go_wp2_with fail
    refine (seal_any (b.take n) _ hlt).mono ?_
    rintro e w1 ⟨rfl, hw1⟩
    subst hw1
    have hc := crc_lt (p := pSeal) (by decide) (b.take n)
    go_wp2_with fail
    go_region_law (go_simp; go_at_call 50; refine (fourBytes_any _ _ (by omega) (by omega)).mono ?_; rintro e w' ⟨rfl, hb'⟩; dsimp only)
    all_goals
      go_wp2_with fail
      go_ret
      refine ⟨?_, ?_⟩
      · have e1 := HN.out
        rw [← str_beq] at e1
        rw [e1]
        first | rfl | (simp; done) | (simp [Bool.beq_comm]; done)
      · first | exact hb' | exact Below.trans (Below.drew (Below.refl _ _)) hb'

set_option maxRecDepth 100000 in
set_option maxHeartbeats 4000000 in
theorem framesOf_any (b : List UInt8) (w : World) (hb : b.length ≤ 1099511627776) (h4 : 4 ≤ b.length) :
    Calls Try.prog 59 #[.string (str b)] w fun e w' => ∃ ad cap N, e = .returned (.tuple #[.slice ad N cap, .int .i64 ((framed b).2 : Nat)]) ∧ N = (framed b).1.length ∧ Vec w' w.heap.size 117 9 ad N cap (fcells (framed b).1) ∧ Below w.heap.size w w' := by
  have hz := str_size b
  have HZ : Hid ((str b).size = b.length) := hz
  have hbb : (str b).size ≤ 1099511627776 := by omega
  have h4b : 4 ≤ (str b).size := by omega
  have HB : Hid (b.length ≤ 1099511627776) := hb
  clear hz hb h4
  have hV0 : Hid (Vec (w.alloc (.cells #[] 117)) w.heap.size 117 9 (some ⟨w.heap.size, 0, none⟩) 0 0 (fcells [])) := Vec.lit w w.heap.size 117 9 0 [] (Nat.le_refl _) (by omega) rfl
  go_enter Try.func59, Try.ntmps59
  go_wp2_with fail
  go_loopw [4, 5, 6, 7] (fun v u _ _ wr => ∃ (i : Nat) (ad : Option Addr) (cap N k : Nat) (l : List Fd), i ≤ (str b).size ∧ u = .int .i64 i ∧ v = .slice ad N cap ∧ N = l.length ∧ N ≤ i ∧ b.length - i ≤ k ∧ (l ++ (frF k i (b.drop i)).1, (frF k i (b.drop i)).2) = framed b ∧ Vec wr w.heap.size 117 9 ad N cap (fcells l) ∧ Below w.heap.size w wr) (fun _ u _ _ _ => b.length - (intOf u).toNat)
  case atStart => exact ⟨4, _, _, 0, b.length, [], h4b, rfl, rfl, rfl, by omega, by omega, by simp [framed], hV0.out, (Below.refl _ _).alloc (Nat.le_refl _) _⟩
  case round =>
    obtain ⟨i, ad, cap, N, k, l, hi, rfl, rfl, hN, hNi, hk, hl, hv, hbw⟩ := hrel
    have HN : Hid (N = l.length) := hN
    have HL : Hid ((l ++ (frF k i (b.drop i)).1, (frF k i (b.drop i)).2) = framed b) := hl
    have HK : Hid (b.length - i ≤ k) := hk
    clear hN hl hk
    by_cases hlt : i < (str b).size
    · have hi2 : i ≤ b.length := by rw [← HZ.out]; omega
      go_wp2_with fail
      refine (frameAt_any b i _ HB.out hi2).mono ?_
      rintro e w1 ⟨rfl, hb1⟩
      have hv1 := hv.keep hb1
      have hbw1 := hbw.trans (hb1.mono hbw.size)
      have hz1 := hbw1.size
      clear hv hbw hb1
      obtain ⟨k, rfl⟩ : ∃ k', k = k' + 1 := ⟨k - 1, by have := HK.out; have := HZ.out; omega⟩
      have hne : b.drop i ≠ [] := by
        intro h; have := congrArg List.length h; simp at this; have := HZ.out; omega
      cases hst : standRd (b.drop i) with
      | none =>
        have HS : Hid (framed b = (l, i)) := by
          show _ = _; rw [← HL.out, frF_none hst]; simp
        simp only [standV]
        clear hst hne HL
        go_wp2_with fail
        go_ret2
        exact ⟨ad, cap, N, by rw [HS.out]; rfl, by rw [HS.out]; exact HN.out, by rw [HS.out]; exact hv1.keep ((Below.refl _ _).alloc (Nat.le_refl _) _), hbw1.alloc hz1 _⟩
      | some p =>
        obtain ⟨f, n⟩ := p
        have hn := standRd_le hst
        simp at hn
        have HS : Hid (((l ++ [f.putI i]) ++ (frF k (i + n) (b.drop (i + n))).1, (frF k (i + n) (b.drop (i + n))).2) = framed b) := by
          show _ = _; rw [← HL.out, frF_some hne hst, List.drop_drop]; simp
        have hnl : i + n ≤ (str b).size := by have := HZ.out; omega
        have hn7 : 7 < n := by omega
        simp only [standV]
        clear hst hne HL hn
        have hn0 : ((n : Int) == 0) = false := by rw [beq_eq_false_iff_ne]; omega
        have hvx : ∀ o1 o2, Vec ((w1.alloc o1).alloc o2) w.heap.size 117 9 ad N cap (fcells l) := fun o1 o2 => hv1.keep (((Below.refl _ w1).alloc (Nat.le_refl _) _).alloc (by simp) _)
        have HX : Hid (∀ o1 o2, Vec ((w1.alloc o1).alloc o2) w.heap.size 117 9 ad N cap (fcells l)) := hvx
        clear hvx
        go_wp2_with (at_builtin; refine wpList_push (by rfl) _ _ 93 (by rfl) w.heap.size 117 9 80 (.agg #[.int .i64 0, .int .i64 0, .int .i64 0, .int .i64 0, .int .i64 0, .int .i64 0, .int .i64 0, .bool false, .string ⟨#[]⟩]) Try.underlying93 (by kernel_rfl) rfl (by decide) ad N cap _ (by rfl) (HX.out _ _) _ _ (f.putI i).cells (by rfl) rfl ?_ ?_ ?_ ?_ ?_ ?_; exact new_cells2 _ _ _ _; exact onesF _; (omega); (omega); (simp; omega); intro ad' cap' w' hv' hb' hs')
        have h2 : Below w.heap.size w w' := ((hbw1.alloc hz1 _).alloc (by simp; omega) _).trans hb'
        have hv2 : Vec w' w.heap.size 117 9 ad' (N + 1) cap' (fcells (l ++ [f.putI i])) := by
          rw [fcells_append, fcells_one]; exact hv'
        go_roundw
        case rel => exact ⟨i + n, ad', cap', N + 1, k, l ++ [f.putI i], by omega, by go_num, rfl, by have := HN.out; simp; omega, by omega, by have := HK.out; omega, HS.out, hv2, h2⟩
        case measure => have := HZ.out; simp [intOf]; omega
    · have he : b.drop i = [] := List.drop_of_length_le (by rw [← HZ.out]; omega)
      have HS : Hid (framed b = (l, i)) := by show _ = _; rw [← HL.out, he, frF_nil]; simp
      go_wp2_with fail
      go_ret2
      exact ⟨ad, cap, N, by rw [HS.out]; rfl, by rw [HS.out]; exact HN.out, by rw [HS.out]; exact hv, hbw⟩
end Go.Proofs.Ytdjpkgaicmklmab

/- mayFollow of the program, fits of the reference: walked. -/
namespace Go.Proofs.Ytdjpkgaicmklmab
open Go.RowKit

set_option maxRecDepth 100000 in
set_option maxHeartbeats 4000000 in
theorem mayFollow_any (p f : Fd) (w : World) :
    Calls Try.prog 82 #[fdV p, fdV f] w fun e w' => e = .returned (.bool (mayB p f)) ∧ Below w.heap.size w w' := by
  have HB : Hid (Below w.heap.size w ((w.alloc (.cells p.cells.toArray 117)).alloc (.cells f.cells.toArray 117))) := (two_boxes w 117 117 p.cells.toArray f.cells.toArray).2.2.2
  by_cases h4 : f.kind = 4
  · have b4 : (f.kind == 4) = true := by simp [h4]
    have HN : Hid (mayB p f = false) := by show _ = _; simp only [mayB]; rw [if_pos h4]
    clear h4
    go_enter Try.func82, Try.ntmps82
    go_wp2_with fail
    go_ret
    exact ⟨by rw [HN.out]; rfl, HB.out⟩
  · have b4 : (f.kind == 4) = false := by simp [h4]
    by_cases g4 : p.kind = 4
    · have q4 : (p.kind == 4) = true := by simp [g4]
      have HN : Hid (mayB p f = true) := by show _ = _; simp only [mayB]; rw [if_neg h4, if_pos g4]
      clear h4 g4
      go_enter Try.func82, Try.ntmps82
      go_wp2_with fail
      go_ret
      exact ⟨by rw [HN.out]; rfl, HB.out⟩
    · have q4 : (p.kind == 4) = false := by simp [g4]
      by_cases hne : f.kind ≠ p.kind
      · have bne : (f.kind != p.kind) = true := by simpa using hne
        have HN : Hid (mayB p f = decide (p.kind < f.kind)) := by show _ = _; simp only [mayB]; rw [if_neg h4, if_neg g4, if_pos hne]
        clear h4 g4 hne
        go_enter Try.func82, Try.ntmps82
        go_wp2_with fail
        go_ret
        exact ⟨by rw [HN.out]; rfl, HB.out⟩
      · have bne : (f.kind != p.kind) = false := by simpa using hne
        by_cases h1 : f.kind = 1
        · have b1 : (f.kind == 1) = true := by simp [h1]
          have HN : Hid (mayB p f = decide (p.site < f.site)) := by show _ = _; simp only [mayB]; rw [if_neg h4, if_neg g4, if_neg hne, if_pos h1]
          clear h4 g4 hne h1
          go_enter Try.func82, Try.ntmps82
          go_wp2_with fail
          go_ret
          exact ⟨by rw [HN.out]; rfl, HB.out⟩
        · have b1 : (f.kind == 1) = false := by simp [h1]
          by_cases h2 : f.kind = 2
          · have b2 : (f.kind == 2) = true := by simp [h2]
            have HN : Hid (mayB p f = decide (p.id < f.id)) := by show _ = _; simp only [mayB]; rw [if_neg h4, if_neg g4, if_neg hne, if_neg h1, if_pos h2]
            clear h4 g4 hne h1 h2
            go_enter Try.func82, Try.ntmps82
            go_wp2_with fail
            go_ret
            exact ⟨by rw [HN.out]; rfl, HB.out⟩
          · have b2 : (f.kind == 2) = false := by simp [h2]
            have HN : Hid (mayB p f = true) := by show _ = _; simp only [mayB]; rw [if_neg h4, if_neg g4, if_neg hne, if_neg h1, if_neg h2]
            clear h4 g4 hne h1 h2
            go_enter Try.func82, Try.ntmps82
            go_wp2_with fail
            go_ret
            exact ⟨by rw [HN.out]; rfl, HB.out⟩

end Go.Proofs.Ytdjpkgaicmklmab

