/- Texts of the proof, one behind the other; what each holds is said at its head. -/
import Derived.Test.YtdjpkgaicmklmaaGreatPartExtendsupto2
/- The program's fromFourBytes, walked. -/
namespace Go.Proofs.YtdjpkgaicmklmaaGreat
open Go.RowKit

def fold4 (l : List UInt8) : Int := l.foldl (fun n c => n * 256 + (c.toNat : Int)) 0
theorem fold4_four {s : List UInt8} (h : s.length = 4) : fold4 s = fourRd s := by
  match s, h with
  | [a, b, c, d], _ => simp only [fold4, fourRd, List.foldl, List.getD_cons_zero, List.getD_cons_succ]; omega
theorem fold4_step (s : List UInt8) (i : Nat) (h : i < s.length) : fold4 (s.take (i + 1)) = fold4 (s.take i) * 256 + (s[i].toNat : Int) := by
  unfold fold4
  rw [List.take_add_one, List.foldl_append, List.getElem?_eq_getElem h]
  rfl

set_option maxRecDepth 100000 in
set_option maxHeartbeats 4000000 in
theorem fromFour_any (s : List UInt8) (w : World) (hs : s.length = 4) :
    Calls Tryz.prog 89 #[.string (str s)] w fun e w' => e = .returned (.int .i64 (fourRd s)) ∧ w' = w := by
  have hz : (str s).size = 4 := by rw [str_size, hs]
  have HZ : Hid ((str s).size = 4) := hz
  have hz2 : (str s).size ≤ 4 := by omega
  have hz3 : 4 ≤ (str s).size := by omega
  have HS : Hid (s.length = 4) := hs
  clear hz hs
  go_enter Tryz.func89, Tryz.ntmps89
  go_wp2
  go_loopw [3, 4] (fun u q wr => ∃ (i : Nat) (v : Int), i ≤ (str s).size ∧ q = .int .i64 i ∧ u = .int .i64 v ∧ 0 ≤ v ∧ v < 256 ^ i ∧ v = fold4 (s.take i) ∧ wr = w) (fun _ q _ => 4 - (intOf q).toNat)
  case atStart => exact ⟨0, 0, by omega, rfl, rfl, by omega, by omega, rfl, rfl⟩
  case round =>
    obtain ⟨i, v, hi, rfl, rfl, v0, v1, hr, hw⟩ := hrel
    obtain rfl := hw.symm
    have HR : Hid (v = fold4 (s.take i)) := hr
    clear hr
    have hp : (256 : Int) ^ i ≤ 4294967296 ∧ 0 < (256 : Int) ^ i := by
      have : i = 0 ∨ i = 1 ∨ i = 2 ∨ i = 3 ∨ i = 4 := by omega
      rcases this with rfl | rfl | rfl | rfl | rfl <;> decide
    by_cases hlt : i < (str s).size
    · have hlt2 : i < s.length := by have := HS.out; omega
      have hb : ((str s)[i]'hlt).toNat < 256 := (s[i]).toNat_lt
      have hv2 : v * 256 + (((str s)[i]'hlt).toNat : Int) < 256 ^ (i + 1) := by rw [Int.pow_succ]; omega
      have hp2 : (256 : Int) ^ (i + 1) ≤ 4294967296 := by
        have : i = 0 ∨ i = 1 ∨ i = 2 ∨ i = 3 := by omega
        rcases this with rfl | rfl | rfl | rfl <;> decide
      have HN : Hid (v * 256 + (((str s)[i]'hlt).toNat : Int) = fold4 (s.take (i + 1))) := by
        show _ = _; rw [fold4_step s i hlt2, ← HR.out]; rfl
      go_wp2_with fail
      refine ⟨⟨i + 1, _, by omega, by go_num, rfl, by omega, hv2, HN.out, trivial⟩, ?_⟩
      simp [intOf]; omega
    · have HN : Hid (v = fourRd s) := by
        have h := HR.out
        rw [List.take_of_length_le (by have := HS.out; omega), fold4_four HS.out] at h
        exact h
      go_wp2_with fail
      go_ret
      exact ⟨ret_int HN.out, by first | rfl | trivial⟩
end Go.Proofs.YtdjpkgaicmklmaaGreat

/- The program's cursor: what it takes off a record's front, walked. -/
namespace Go.Proofs.YtdjpkgaicmklmaaGreat
open Go.RowKit

/-- A cursor: what is left, and whether it has failed. -/
abbrev Cu := List UInt8 × Bool
abbrev Cu.cells (c : Cu) : List Value := [.string (str c.1), .bool c.2]
abbrev CuAt (w : World) (g : Nat) (c : Cu) : Prop := Bx w g 116 c.cells
def cuNum (c : Cu) : Int × Cu := match numRd c.1 with
  | some (v, n) => (v, c.1.drop n, c.2)
  | none => (0, c.1, true)
def cuFour (c : Cu) : Int × Cu := if c.1.length < 4 then (0, c.1, true) else (fourRd (c.1.take 4), c.1.drop 4, c.2)
def cuEnd (c : Cu) : Cu := if c.1 = [] then c else (c.1, true)
def cuFlag (c : Cu) : Bool × Cu := match c.1 with
  | [] => (false, c.1, true)
  | x :: t => if 1 < x.toNat then (false, c.1, true) else (x == 1, t, c.2)

set_option maxRecDepth 100000 in
set_option maxHeartbeats 4000000 in
theorem cuNum_any (c : Cu) (g : Nat) (w : World) (hc : CuAt w g c) (hs : c.1.length ≤ 9223372036854775807) :
    Calls Tryz.prog 103 #[.pointer (some ⟨g, 0, none⟩)] w fun e w' => e = .returned (.int .i64 (cuNum c).1) ∧ CuAt w' g (cuNum c).2 ∧ Upd g w w' := by
  obtain ⟨s, d⟩ := c
  have hU : Upd g w w := Upd.refl g w
  have c0 := hc.cell 0
  dsimp only [Cu.cells, List.getElem?_cons_zero] at c0
  go_enter Tryz.func103, Tryz.ntmps103
  go_wp2_with fail
  refine (firstNumber_any s _ hs).mono ?_
  rintro e w1 ⟨rfl, rfl⟩
  cases hn : numRd s with
  | none =>
    have HN : Hid (cuNum (s, d) = (0, s, true)) := by show _ = _; simp [cuNum, hn]
    clear hn
    simp only [rdV]
    go_wp2_with (refine wpList_bput (by rfl) _ _ 4 (by rfl) g 116 1 (by rfl) _ (.bool true) (by rfl) hc (by kernel_rfl) (by simp) (by rfl) (by rfl) ?_; intro w9 hc9 hU9; replace hc := hc9; replace hU := hU.trans hU9; clear hc9 hU9 c0; dsimp only [List.set] at hc)
    go_ret
    rw [HN.out]
    exact ⟨rfl, hc, hU⟩
  | some p =>
    obtain ⟨v, n⟩ := p
    obtain ⟨n0, n1, nv, -⟩ := numRd_le hn
    have HN : Hid (cuNum (s, d) = (v, s.drop n, d)) := by show _ = _; simp [cuNum, hn]
    clear hn
    have hnz : ((n : Int) == 0) = false := by simp; omega
    have hle : (n : Int) ≤ ((str s).size : Int) := by rw [str_size]; omega
    have hx : (str s).extract n (str s).size = str (s.drop n) := by rw [str_extract, str_size, List.take_of_length_le (by simp)]
    simp only [rdV]
    go_wp2_with (refine wpList_bput (by rfl) _ _ 9 (by rfl) g 116 0 (by rfl) _ (.string _) (by rfl) hc (by kernel_rfl) (by simp) (by rfl) (by rfl) ?_; intro w9 hc9 hU9; replace hc := hc9; replace hU := hU.trans hU9; clear hc9 hU9 c0; dsimp only [List.set] at hc)
    go_ret
    rw [HN.out]
    exact ⟨rfl, hc, hU⟩

set_option maxRecDepth 100000 in
set_option maxHeartbeats 4000000 in
theorem cuFour_any (c : Cu) (g : Nat) (w : World) (hc : CuAt w g c) (hs : c.1.length ≤ 9223372036854775807) :
    Calls Tryz.prog 104 #[.pointer (some ⟨g, 0, none⟩)] w fun e w' => e = .returned (.int .i64 (cuFour c).1) ∧ CuAt w' g (cuFour c).2 ∧ Upd g w w' := by
  obtain ⟨s, d⟩ := c
  have hU : Upd g w w := Upd.refl g w
  have c0 := hc.cell 0
  dsimp only [Cu.cells, List.getElem?_cons_zero] at c0
  have hz := str_size s
  have HZ : Hid ((str s).size = s.length) := hz
  by_cases h4 : (str s).size < 4
  · have HN : Hid (cuFour (s, d) = (0, s, true)) := by show _ = _; simp only [cuFour, if_pos (show s.length < 4 by omega)]
    clear hz
    go_enter Tryz.func104, Tryz.ntmps104
    go_wp2_with (refine wpList_bput (by rfl) _ _ 4 (by rfl) g 116 1 (by rfl) _ (.bool true) (by rfl) hc (by kernel_rfl) (by simp) (by rfl) (by rfl) ?_; intro w9 hc9 hU9; replace hc := hc9; replace hU := hU.trans hU9; clear hc9 hU9 c0; dsimp only [List.set] at hc)
    go_ret
    rw [HN.out]
    exact ⟨rfl, hc, hU⟩
  · have HN : Hid (cuFour (s, d) = (fourRd (s.take 4), s.drop 4, d)) := by show _ = _; simp only [cuFour, if_neg (show ¬ s.length < 4 by omega)]
    have hle : (4 : Int) ≤ ((str s).size : Int) := by omega
    have hx : (str s).extract 4 (str s).size = str (s.drop 4) := by rw [str_extract, str_size, List.take_of_length_le (by simp)]
    have hx2 : (str s).extract 0 4 = str (s.take 4) := by rw [str_extract]; simp
    have hl4 : (s.take 4).length = 4 := by simp; omega
    clear hz
    go_enter Tryz.func104, Tryz.ntmps104
    go_wp2_with fail
    refine (fromFour_any (s.take 4) _ hl4).mono ?_
    rintro e w1 ⟨rfl, rfl⟩
    go_wp2_with (refine wpList_bput (by rfl) _ _ 9 (by rfl) g 116 0 (by rfl) _ (.string _) (by rfl) hc (by kernel_rfl) (by simp) (by rfl) (by rfl) ?_; intro w9 hc9 hU9; replace hc := hc9; replace hU := hU.trans hU9; clear hc9 hU9 c0; dsimp only [List.set] at hc)
    go_ret
    rw [HN.out]
    exact ⟨rfl, hc, hU⟩

set_option maxRecDepth 100000 in
set_option maxHeartbeats 4000000 in
theorem cuEnd_any (c : Cu) (g : Nat) (w : World) (hc : CuAt w g c) :
    Calls Tryz.prog 105 #[.pointer (some ⟨g, 0, none⟩)] w fun e w' => (∃ v, e = .returned v) ∧ CuAt w' g (cuEnd c) ∧ Upd g w w' := by
  obtain ⟨s, d⟩ := c
  have hU : Upd g w w := Upd.refl g w
  have c0 := hc.cell 0
  dsimp only [Cu.cells, List.getElem?_cons_zero] at c0
  cases s with
  | nil =>
    have hre : (str []).toList.isEmpty = true := by rw [str_toList]; rfl
    have HN : Hid (cuEnd ([], d) = ([], d)) := rfl
    go_enter Tryz.func105, Tryz.ntmps105
    go_wp2_with fail
    exact bodyPost_end (results_none rfl _ _ _) rfl ⟨⟨_, rfl⟩, by rw [HN.out]; exact hc, hU⟩
  | cons x t =>
    have hre : (str (x :: t)).toList.isEmpty = false := by rw [str_toList]; rfl
    have HN : Hid (cuEnd (x :: t, d) = (x :: t, true)) := rfl
    go_enter Tryz.func105, Tryz.ntmps105
    go_wp2_with (refine wpList_bput (by rfl) _ _ 4 (by rfl) g 116 1 (by rfl) _ (.bool true) (by rfl) hc (by kernel_rfl) (by simp) (by rfl) (by rfl) ?_; intro w9 hc9 hU9; replace hc := hc9; replace hU := hU.trans hU9; clear hc9 hU9 c0; dsimp only [List.set] at hc)
    exact bodyPost_end (results_none rfl _ _ _) rfl ⟨⟨_, rfl⟩, by rw [HN.out]; exact hc, hU⟩

set_option maxRecDepth 100000 in
set_option maxHeartbeats 4000000 in
theorem cuFlag_any (c : Cu) (g : Nat) (w : World) (hc : CuAt w g c) :
    Calls Tryz.prog 106 #[.pointer (some ⟨g, 0, none⟩)] w fun e w' => e = .returned (.bool (cuFlag c).1) ∧ CuAt w' g (cuFlag c).2 ∧ Upd g w w' := by
  obtain ⟨s, d⟩ := c
  have hU : Upd g w w := Upd.refl g w
  have c0 := hc.cell 0
  dsimp only [Cu.cells, List.getElem?_cons_zero] at c0
  cases s with
  | nil =>
    have hz : (str []).size = 0 := rfl
    have HN : Hid (cuFlag ([], d) = (false, [], true)) := rfl
    go_enter Tryz.func106, Tryz.ntmps106
    go_wp2_with (refine wpList_bput (by rfl) _ _ 4 (by rfl) g 116 1 (by rfl) _ (.bool true) (by rfl) hc (by kernel_rfl) (by simp) (by rfl) (by rfl) ?_; intro w9 hc9 hU9; replace hc := hc9; replace hU := hU.trans hU9; clear hc9 hU9 c0; dsimp only [List.set] at hc)
    go_ret
    rw [HN.out]
    exact ⟨rfl, hc, hU⟩
  | cons x t =>
    have hr0 : 0 < (str (x :: t)).size := by rw [str_size]; simp
    have hrx : (str (x :: t)).extract 1 (str (x :: t)).size = str t := by rw [str_extract, str_size]; simp
    have hrl2 : (1 : Int) ≤ ((str (x :: t)).size : Int) := by omega
    by_cases hx : 1 < x.toNat
    · have hk : 1 < ((str (x :: t))[0]'hr0).toNat := by have e : ((str (x :: t))[0]'hr0).toNat = x.toNat := rfl; omega
      have HN : Hid (cuFlag (x :: t, d) = (false, x :: t, true)) := by show _ = _; simp only [cuFlag, if_pos hx]
      go_enter Tryz.func106, Tryz.ntmps106
      go_wp2_with (refine wpList_bput (by rfl) _ _ 4 (by rfl) g 116 1 (by rfl) _ (.bool true) (by rfl) hc (by kernel_rfl) (by simp) (by rfl) (by rfl) ?_; intro w9 hc9 hU9; replace hc := hc9; replace hU := hU.trans hU9; clear hc9 hU9 c0; dsimp only [List.set] at hc)
      go_ret
      rw [HN.out]
      exact ⟨rfl, hc, hU⟩
    · by_cases h0 : x = 0
      · subst h0
        have hk : ((str (0 :: t))[0]'hr0).toNat = 0 := rfl
        have HN : Hid (cuFlag (0 :: t, d) = (false, t, d)) := rfl
        go_enter Tryz.func106, Tryz.ntmps106
        go_wp2_with (refine wpList_bput (by rfl) _ _ 9 (by rfl) g 116 0 (by rfl) _ (.string _) (by rfl) hc (by kernel_rfl) (by simp) (by rfl) (by rfl) ?_; intro w9 hc9 hU9; replace hc := hc9; replace hU := hU.trans hU9; clear hc9 hU9 c0; dsimp only [List.set] at hc)
        go_ret
        rw [HN.out]
        exact ⟨rfl, hc, hU⟩
      · have hc1 : x = 1 := by have : x.toNat ≠ 0 := fun h => h0 (UInt8.toNat_inj.1 h); exact UInt8.toNat_inj.1 (by show x.toNat = 1; omega)
        subst hc1
        have hk : ((str (1 :: t))[0]'hr0).toNat = 1 := rfl
        have HN : Hid (cuFlag (1 :: t, d) = (true, t, d)) := rfl
        go_enter Tryz.func106, Tryz.ntmps106
        go_wp2_with (refine wpList_bput (by rfl) _ _ 9 (by rfl) g 116 0 (by rfl) _ (.string _) (by rfl) hc (by kernel_rfl) (by simp) (by rfl) (by rfl) ?_; intro w9 hc9 hU9; replace hc := hc9; replace hU := hU.trans hU9; clear hc9 hU9 c0; dsimp only [List.set] at hc)
        go_ret
        rw [HN.out]
        exact ⟨rfl, hc, hU⟩
end Go.Proofs.YtdjpkgaicmklmaaGreat

/- The program's takeHead, takeClock, takeCard, takeEdit, foundIn, walked. -/
namespace Go.Proofs.YtdjpkgaicmklmaaGreat
open Go.RowKit

/-- The worlds part in block g alone, and in blocks from B on. -/
structure But (g B : Nat) (w w' : World) : Prop where
  os : w'.os = w.os
  tape : w'.tape = w.tape
  output : w'.output = w.output
  size : w.heap.size ≤ w'.heap.size
  block : ∀ k, k < B → k ≠ g → w'.heap[k]? = w.heap[k]?
theorem But.of_below {g B : Nat} {w w' : World} (h : Below B w w') : But g B w w' := ⟨h.os, h.tape, h.output, h.size, fun k hk _ => h.block k hk⟩
theorem But.upd {g B g' : Nat} {w w1 w2 : World} (h : But g B w w1) (hu : Upd g' w1 w2) (hg : g' = g ∨ B ≤ g') : But g B w w2 :=
  ⟨hu.os.trans h.os, hu.tape.trans h.tape, hu.output.trans h.output, by rw [hu.size]; exact h.size, fun k hk hn => (hu.block k (by omega)).trans (h.block k hk hn)⟩
theorem Bx.but {w w' : World} {g B k e : Nat} {cs : List Value} (b : Bx w k e cs) (h : But g B w w') (hk : k < B) (hn : k ≠ g) : Bx w' k e cs := ⟨by rw [h.block k hk hn]; exact b.h⟩
theorem But.below {g B B' : Nat} {w0 w w' : World} (h : But g B w w') (hb : Below B' w0 w) (h1 : B' ≤ B) (h2 : B' ≤ g) : Below B' w0 w' :=
  ⟨h.os.trans hb.os, h.tape.trans hb.tape, h.output.trans hb.output, Nat.le_trans hb.size h.size, fun k hk => (h.block k (by omega) (by omega)).trans (hb.block k hk)⟩

theorem cuNum_le (c : Cu) : (cuNum c).2.1.length ≤ c.1.length := by
  unfold cuNum; split <;> simp
theorem cuFour_le (c : Cu) : (cuFour c).2.1.length ≤ c.1.length := by
  unfold cuFour; split <;> simp

def tkHead (c : Cu) : Fd × Cu :=
  let a := cuNum c
  let b := if a.1 = 0 then (0, a.2) else cuFour a.2
  (fdHead a.1 b.1, cuEnd b.2)
def tkClock (c : Cu) : Fd × Cu := (fdClock ⟨(cuNum c).1, (cuNum (cuNum c).2).1⟩, cuEnd (cuNum (cuNum c).2).2)
def tkCard (c : Cu) : Fd × Cu :=
  let a := cuNum c
  let b := cuNum a.2
  let d := cuNum b.2
  let f := cuFlag d.2
  (fdCard ⟨a.1, b.1, d.1, f.1, str f.2.1⟩, f.2)
def tkEdit (c : Cu) : Fd × Cu := (fdEdit ⟨(cuNum c).1, str (cuNum c).2.1⟩, (cuNum c).2)

set_option maxRecDepth 100000 in
set_option maxHeartbeats 4000000 in
theorem tkEdit_any (c : Cu) (g : Nat) (w : World) (hc : CuAt w g c) (hs : c.1.length ≤ 9223372036854775807) :
    Calls Tryz.prog 102 #[.pointer (some ⟨g, 0, none⟩)] w fun e w' => e = .returned (fdV (tkEdit c).1) ∧ CuAt w' g (tkEdit c).2 ∧ But g w.heap.size w w' := by
  have hgl := hc.lt
  obtain ⟨hR, hW, hB⟩ := one_box w 64 fd0.cells.toArray
  replace hc := hc.alloc (.cells fd0.cells.toArray 64)
  have hT : But g w.heap.size w (w.alloc (.cells fd0.cells.toArray 64)) := But.of_below hB
  have l1 := cuNum_le c
  go_enter Tryz.func102, Tryz.ntmps102
  go_wp2_with fail
  refine (cuNum_any c g _ hc (by omega)).mono ?_
  rintro e w9 ⟨rfl, hc9, hU9⟩
  replace hR := hR.upd hU9 (by omega)
  replace hT := hT.upd hU9 (Or.inl rfl)
  replace hc := hc9
  clear hc9 hU9
  have c0 := hc.cell 0
  dsimp only [Cu.cells, List.getElem?_cons_zero] at c0
  go_wp2_with (refine wpList_bstore (by rfl) _ _ _ (by rfl) w.heap.size 64 (by rfl) _ _ (by rfl) hR 9 (by rfl) (by kernel_rfl) (by rfl) (by intro x hx; simp at hx; rcases hx with rfl | rfl | rfl | rfl | rfl | rfl | rfl | rfl | rfl <;> rfl) ?_; intro w9 hR9 hU9; replace hR := hR9; replace hc := hc.upd hU9 (by omega); replace hT := hT.upd hU9 (Or.inr (Nat.le_refl _)); clear hR9 hU9)
  exact bodyPost_ret (v := fdV (tkEdit c |>.1)) (results_box1 (by rfl) _ _ w.heap.size 64 _ _ (by rfl) hR Tryz.underlying64 (by rfl) 9 (by rfl) (by kernel_rfl)) rfl ⟨rfl, hc, hT⟩

set_option maxRecDepth 100000 in
set_option maxHeartbeats 4000000 in
theorem tkClock_any (c : Cu) (g : Nat) (w : World) (hc : CuAt w g c) (hs : c.1.length ≤ 9223372036854775807) :
    Calls Tryz.prog 100 #[.pointer (some ⟨g, 0, none⟩)] w fun e w' => e = .returned (fdV (tkClock c).1) ∧ CuAt w' g (tkClock c).2 ∧ But g w.heap.size w w' := by
  have hgl := hc.lt
  obtain ⟨hR, hW, hB⟩ := one_box w 64 fd0.cells.toArray
  replace hc := hc.alloc (.cells fd0.cells.toArray 64)
  have hT : But g w.heap.size w (w.alloc (.cells fd0.cells.toArray 64)) := But.of_below hB
  have l1 := cuNum_le c
  have l2 := cuNum_le (cuNum c).2
  go_enter Tryz.func100, Tryz.ntmps100
  go_wp2_with fail
  refine (cuNum_any c g _ hc (by omega)).mono ?_
  rintro e w9 ⟨rfl, hc9, hU9⟩
  replace hR := hR.upd hU9 (by omega)
  replace hT := hT.upd hU9 (Or.inl rfl)
  replace hc := hc9
  clear hc9 hU9
  go_wp2_with fail
  refine (cuNum_any (cuNum c).2 g _ hc (by omega)).mono ?_
  rintro e w9 ⟨rfl, hc9, hU9⟩
  replace hR := hR.upd hU9 (by omega)
  replace hT := hT.upd hU9 (Or.inl rfl)
  replace hc := hc9
  clear hc9 hU9
  go_wp2_with fail
  refine (cuEnd_any (cuNum (cuNum c).2).2 g _ hc ).mono ?_
  rintro e w9 ⟨⟨v, rfl⟩, hc9, hU9⟩
  replace hR := hR.upd hU9 (by omega)
  replace hT := hT.upd hU9 (Or.inl rfl)
  replace hc := hc9
  clear hc9 hU9
  go_wp2_with (refine wpList_bstore (by rfl) _ _ _ (by rfl) w.heap.size 64 (by rfl) _ _ (by rfl) hR 9 (by rfl) (by kernel_rfl) (by rfl) (by intro x hx; simp at hx; rcases hx with rfl | rfl | rfl | rfl | rfl | rfl | rfl | rfl | rfl <;> rfl) ?_; intro w9 hR9 hU9; replace hR := hR9; replace hc := hc.upd hU9 (by omega); replace hT := hT.upd hU9 (Or.inr (Nat.le_refl _)); clear hR9 hU9)
  exact bodyPost_ret (v := fdV (tkClock c |>.1)) (results_box1 (by rfl) _ _ w.heap.size 64 _ _ (by rfl) hR Tryz.underlying64 (by rfl) 9 (by rfl) (by kernel_rfl)) rfl ⟨rfl, hc, hT⟩

set_option maxRecDepth 100000 in
set_option maxHeartbeats 4000000 in
theorem tkCard_any (c : Cu) (g : Nat) (w : World) (hc : CuAt w g c) (hs : c.1.length ≤ 9223372036854775807) :
    Calls Tryz.prog 101 #[.pointer (some ⟨g, 0, none⟩)] w fun e w' => e = .returned (fdV (tkCard c).1) ∧ CuAt w' g (tkCard c).2 ∧ But g w.heap.size w w' := by
  have hgl := hc.lt
  obtain ⟨hR, hW, hB⟩ := one_box w 64 fd0.cells.toArray
  replace hc := hc.alloc (.cells fd0.cells.toArray 64)
  have hT : But g w.heap.size w (w.alloc (.cells fd0.cells.toArray 64)) := But.of_below hB
  have l1 := cuNum_le c
  have l2 := cuNum_le (cuNum c).2
  have l3 := cuNum_le (cuNum (cuNum c).2).2
  go_enter Tryz.func101, Tryz.ntmps101
  go_wp2_with fail
  refine (cuNum_any c g _ hc (by omega)).mono ?_
  rintro e w9 ⟨rfl, hc9, hU9⟩
  replace hR := hR.upd hU9 (by omega)
  replace hT := hT.upd hU9 (Or.inl rfl)
  replace hc := hc9
  clear hc9 hU9
  go_wp2_with fail
  refine (cuNum_any (cuNum c).2 g _ hc (by omega)).mono ?_
  rintro e w9 ⟨rfl, hc9, hU9⟩
  replace hR := hR.upd hU9 (by omega)
  replace hT := hT.upd hU9 (Or.inl rfl)
  replace hc := hc9
  clear hc9 hU9
  go_wp2_with fail
  refine (cuNum_any (cuNum (cuNum c).2).2 g _ hc (by omega)).mono ?_
  rintro e w9 ⟨rfl, hc9, hU9⟩
  replace hR := hR.upd hU9 (by omega)
  replace hT := hT.upd hU9 (Or.inl rfl)
  replace hc := hc9
  clear hc9 hU9
  go_wp2_with fail
  refine (cuFlag_any (cuNum (cuNum (cuNum c).2).2).2 g _ hc ).mono ?_
  rintro e w9 ⟨rfl, hc9, hU9⟩
  replace hR := hR.upd hU9 (by omega)
  replace hT := hT.upd hU9 (Or.inl rfl)
  replace hc := hc9
  clear hc9 hU9
  have c0 := hc.cell 0
  dsimp only [Cu.cells, List.getElem?_cons_zero] at c0
  go_wp2_with (refine wpList_bstore (by rfl) _ _ _ (by rfl) w.heap.size 64 (by rfl) _ _ (by rfl) hR 9 (by rfl) (by kernel_rfl) (by rfl) (by intro x hx; simp at hx; rcases hx with rfl | rfl | rfl | rfl | rfl | rfl | rfl | rfl | rfl <;> rfl) ?_; intro w9 hR9 hU9; replace hR := hR9; replace hc := hc.upd hU9 (by omega); replace hT := hT.upd hU9 (Or.inr (Nat.le_refl _)); clear hR9 hU9)
  exact bodyPost_ret (v := fdV (tkCard c |>.1)) (results_box1 (by rfl) _ _ w.heap.size 64 _ _ (by rfl) hR Tryz.underlying64 (by rfl) 9 (by rfl) (by kernel_rfl)) rfl ⟨rfl, hc, hT⟩

set_option maxRecDepth 100000 in
set_option maxHeartbeats 4000000 in
theorem tkHead_any (c : Cu) (g : Nat) (w : World) (hc : CuAt w g c) (hs : c.1.length ≤ 9223372036854775807) :
    Calls Tryz.prog 99 #[.pointer (some ⟨g, 0, none⟩)] w fun e w' => e = .returned (fdV (tkHead c).1) ∧ CuAt w' g (tkHead c).2 ∧ But g w.heap.size w w' := by
  have hgl := hc.lt
  obtain ⟨hR, hW, hB⟩ := one_box w 64 fd0.cells.toArray
  replace hc := hc.alloc (.cells fd0.cells.toArray 64)
  have hT : But g w.heap.size w (w.alloc (.cells fd0.cells.toArray 64)) := But.of_below hB
  have l1 := cuNum_le c
  have l2 := cuFour_le (cuNum c).2
  go_enter Tryz.func99, Tryz.ntmps99
  go_wp2_with fail
  refine (cuNum_any c g _ hc (by omega)).mono ?_
  rintro e w9 ⟨rfl, hc9, hU9⟩
  replace hR := hR.upd hU9 (by omega)
  replace hT := hT.upd hU9 (Or.inl rfl)
  replace hc := hc9
  clear hc9 hU9
  by_cases hq : (cuNum c).1 = 0
  · have hqb : ((cuNum c).1 != 0) = false := by rw [hq]; rfl
    have HK : Hid (tkHead c = (fdHead (cuNum c).1 0, cuEnd (cuNum c).2)) := by show _ = _; unfold tkHead; simp only [if_pos hq]
    clear hq
    go_wp2_with fail
    refine (cuEnd_any (cuNum c).2 g _ hc ).mono ?_
    rintro e w9 ⟨⟨v, rfl⟩, hc9, hU9⟩
    replace hR := hR.upd hU9 (by omega)
    replace hT := hT.upd hU9 (Or.inl rfl)
    replace hc := hc9
    clear hc9 hU9
    go_wp2_with (refine wpList_bstore (by rfl) _ _ _ (by rfl) w.heap.size 64 (by rfl) _ _ (by rfl) hR 9 (by rfl) (by kernel_rfl) (by rfl) (by intro x hx; simp at hx; rcases hx with rfl | rfl | rfl | rfl | rfl | rfl | rfl | rfl | rfl <;> rfl) ?_; intro w9 hR9 hU9; replace hR := hR9; replace hc := hc.upd hU9 (by omega); replace hT := hT.upd hU9 (Or.inr (Nat.le_refl _)); clear hR9 hU9)
    rw [HK.out]
    exact bodyPost_ret (v := fdV (fdHead (cuNum c).1 0)) (results_box1 (by rfl) _ _ w.heap.size 64 _ _ (by rfl) hR Tryz.underlying64 (by rfl) 9 (by rfl) (by kernel_rfl)) rfl ⟨rfl, hc, hT⟩
  · have hqb : ((cuNum c).1 != 0) = true := by rw [bne_iff_ne]; exact hq
    have HK : Hid (tkHead c = (fdHead (cuNum c).1 (cuFour (cuNum c).2).1, cuEnd (cuFour (cuNum c).2).2)) := by show _ = _; unfold tkHead; simp only [if_neg hq]
    clear hq
    go_wp2_with fail
    refine (cuFour_any (cuNum c).2 g _ hc (by omega)).mono ?_
    rintro e w9 ⟨rfl, hc9, hU9⟩
    replace hR := hR.upd hU9 (by omega)
    replace hT := hT.upd hU9 (Or.inl rfl)
    replace hc := hc9
    clear hc9 hU9
    go_wp2_with fail
    refine (cuEnd_any (cuFour (cuNum c).2).2 g _ hc ).mono ?_
    rintro e w9 ⟨⟨v, rfl⟩, hc9, hU9⟩
    replace hR := hR.upd hU9 (by omega)
    replace hT := hT.upd hU9 (Or.inl rfl)
    replace hc := hc9
    clear hc9 hU9
    go_wp2_with (refine wpList_bstore (by rfl) _ _ _ (by rfl) w.heap.size 64 (by rfl) _ _ (by rfl) hR 9 (by rfl) (by kernel_rfl) (by rfl) (by intro x hx; simp at hx; rcases hx with rfl | rfl | rfl | rfl | rfl | rfl | rfl | rfl | rfl <;> rfl) ?_; intro w9 hR9 hU9; replace hR := hR9; replace hc := hc.upd hU9 (by omega); replace hT := hT.upd hU9 (Or.inr (Nat.le_refl _)); clear hR9 hU9)
    rw [HK.out]
    exact bodyPost_ret (v := fdV (fdHead (cuNum c).1 (cuFour (cuNum c).2).1)) (results_box1 (by rfl) _ _ w.heap.size 64 _ _ (by rfl) hR Tryz.underlying64 (by rfl) 9 (by rfl) (by kernel_rfl)) rfl ⟨rfl, hc, hT⟩
end Go.Proofs.YtdjpkgaicmklmaaGreat

/- The program's foundIn, walked. -/
namespace Go.Proofs.YtdjpkgaicmklmaaGreat
open Go.RowKit

theorem three_boxes (w : World) (e1 e2 e3 : Nat) (a b c : Array Value) : Bx (((w.alloc (.cells a e1)).alloc (.cells b e2)).alloc (.cells c e3)) w.heap.size e1 a.toList ∧ Bx (((w.alloc (.cells a e1)).alloc (.cells b e2)).alloc (.cells c e3)) (w.heap.size + 1) e2 b.toList ∧
    Bx (((w.alloc (.cells a e1)).alloc (.cells b e2)).alloc (.cells c e3)) (w.heap.size + 2) e3 c.toList ∧ (((w.alloc (.cells a e1)).alloc (.cells b e2)).alloc (.cells c e3)).heap.size = w.heap.size + 3 ∧ Below w.heap.size w (((w.alloc (.cells a e1)).alloc (.cells b e2)).alloc (.cells c e3)) := by
  obtain ⟨h1, h2, h3, h4⟩ := two_boxes w e1 e2 a b
  have h5 := Bx.new ((w.alloc (.cells a e1)).alloc (.cells b e2)) e3 c
  rw [h3] at h5
  exact ⟨h1.alloc _, h2.alloc _, h5, by show (((w.alloc _).alloc _).heap.push _).size = _; simp only [Array.size_push]; rw [h3], h4.alloc (by omega) _⟩

/-- What foundIn answers. -/
def foundV (x : Option Fd) : Value := match x with
  | some f => .tuple #[fdV f, .bool true]
  | none => .tuple #[fdV fd0, .bool false]

theorem cuNum_nums {s : List UInt8} {d : Bool} {v : Int} {n : Nat} (h : numRd s = some (v, n)) : cuNum (s, d) = (v, s.drop n, d) := by simp [cuNum, h]
theorem cuNum_none {s : List UInt8} {d : Bool} (h : numRd s = none) : cuNum (s, d) = (0, s, true) := by simp [cuNum, h]
theorem cuNum_failed (s : List UInt8) : (cuNum (s, true)).2.2 = true := by unfold cuNum; split <;> rfl
theorem cuEnd_failed (s : List UInt8) : (cuEnd (s, true)).2 = true := by unfold cuEnd; split <;> rfl
theorem cuFlag_failed (s : List UInt8) : (cuFlag (s, true)).2.2 = true := by
  unfold cuFlag; dsimp only; split
  · rfl
  · split <;> rfl
theorem cuFour_failed (s : List UInt8) : (cuFour (s, true)).2.2 = true := by unfold cuFour; split <;> rfl
theorem cu_eta (c : Cu) (h : c.2 = true) : c = (c.1, true) := by obtain ⟨a, b⟩ := c; simp at h; subst h; rfl

theorem tkEdit_true (s : List UInt8) : (tkEdit (s, true)).2.2 = true := cuNum_failed s
theorem cuEnd_true (c : Cu) (h : c.2 = true) : (cuEnd c).2 = true := by rw [cu_eta c h]; exact cuEnd_failed _
theorem cuNum_true (c : Cu) (h : c.2 = true) : (cuNum c).2.2 = true := by rw [cu_eta c h]; exact cuNum_failed _
theorem cuFlag_true (c : Cu) (h : c.2 = true) : (cuFlag c).2.2 = true := by rw [cu_eta c h]; exact cuFlag_failed _
theorem rec3 (s : List UInt8) : recRd (3 :: s) = match numsRd 1 s with
      | some ([a], t) => some (fdEdit ⟨a, str t⟩)
      | _ => none := by simp [recRd] <;> rfl
theorem rec1 (s : List UInt8) : recRd (1 :: s) = match numsRd 2 s with
      | some ([a, b], r) => if r = [] then some (fdClock ⟨a, b⟩) else none
      | _ => none := by simp [recRd] <;> rfl
theorem rec2 (s : List UInt8) : recRd (2 :: s) = match numsRd 3 s with
      | some ([a, b, d], g :: t) => if g.toNat ≤ 1 then some (fdCard ⟨a, b, d, g == 1, str t⟩) else none
      | _ => none := by simp [recRd] <;> rfl
theorem rec4 (s : List UInt8) : recRd (4 :: s) = match numsRd 1 s with
      | some ([q], r) => if q = 0 then (if r = [] then some (fdHead 0 0) else none) else if r.length = 4 then some (fdHead q (fourRd r)) else none
      | _ => none := by simp [recRd] <;> rfl
theorem rec_edit_eq (s : List UInt8) : recRd (3 :: s) = if (tkEdit (s, false)).2.2 then none else some (tkEdit (s, false)).1 := by
  rw [rec3]
  cases h : numRd s with
  | none => simp only [numsRd, h, tkEdit, cuNum_none h]; rfl
  | some p => obtain ⟨v, n⟩ := p; simp only [numsRd, h, tkEdit, cuNum_nums h]; rfl
theorem rec_clock_eq (s : List UInt8) : recRd (1 :: s) = if (tkClock (s, false)).2.2 then none else some (tkClock (s, false)).1 := by
  rw [rec1]
  cases h : numRd s with
  | none =>
    have e : (tkClock (s, false)).2.2 = true := by simp only [tkClock, cuNum_none h]; exact cuEnd_true _ rfl
    simp only [numsRd, h, e]; rfl
  | some p =>
    obtain ⟨v, n⟩ := p
    cases h2 : numRd (s.drop n) with
    | none =>
      have e : (tkClock (s, false)).2.2 = true := by simp only [tkClock, cuNum_nums h, cuNum_none h2]; exact cuEnd_true _ rfl
      simp only [numsRd, h, h2, e]; rfl
    | some p =>
      obtain ⟨v2, n2⟩ := p
      simp only [numsRd, h, h2, tkClock, cuNum_nums h, cuNum_nums h2, cuEnd]
      by_cases hr : (s.drop n).drop n2 = []
      · rw [if_pos hr, if_pos hr]; rfl
      · rw [if_neg hr, if_neg hr]; rfl
theorem rec_head_eq (s : List UInt8) : recRd (4 :: s) = if (tkHead (s, false)).2.2 then none else some (tkHead (s, false)).1 := by
  rw [rec4]
  cases h : numRd s with
  | none =>
    have e : (tkHead (s, false)).2.2 = true := by simp only [tkHead, cuNum_none h]; exact cuEnd_true _ rfl
    simp only [numsRd, h, e]; rfl
  | some p =>
    obtain ⟨v, n⟩ := p
    simp only [numsRd, h, tkHead, cuNum_nums h]
    by_cases hv : v = 0
    · subst hv
      simp only [↓reduceIte, cuEnd]
      by_cases hr : s.drop n = []
      · rw [if_pos hr, if_pos hr]; rfl
      · rw [if_neg hr, if_neg hr]; rfl
    · simp only [if_neg hv, cuFour]
      by_cases h4 : (s.drop n).length < 4
      · have e : (cuEnd (s.drop n, true)).2 = true := cuEnd_true _ rfl
        simp only [if_pos h4, e, if_neg (show ¬ (s.drop n).length = 4 by omega)]; rfl
      · simp only [if_neg h4]
        by_cases h5 : (s.drop n).length = 4
        · have e : (s.drop n).drop 4 = [] := List.drop_of_length_le (by omega)
          have e2 : (s.drop n).take 4 = s.drop n := List.take_of_length_le (by omega)
          simp only [e, e2, cuEnd, if_pos h5]; rfl
        · have e : (s.drop n).drop 4 ≠ [] := by intro hh; have := congrArg List.length hh; rw [List.length_drop] at this; simp only [List.length_nil] at this; omega
          simp only [cuEnd, if_neg e, if_neg h5]; rfl
theorem rec_card_eq (s : List UInt8) : recRd (2 :: s) = if (tkCard (s, false)).2.2 then none else some (tkCard (s, false)).1 := by
  rw [rec2]
  cases h : numRd s with
  | none =>
    have e : (tkCard (s, false)).2.2 = true := by simp only [tkCard, cuNum_none h]; exact cuFlag_true _ rfl
    simp only [numsRd, h, e]; rfl
  | some p =>
    obtain ⟨v, n⟩ := p
    cases h2 : numRd (s.drop n) with
    | none =>
      have e : (tkCard (s, false)).2.2 = true := by simp only [tkCard, cuNum_nums h, cuNum_none h2]; exact cuFlag_true _ rfl
      simp only [numsRd, h, h2, e]; rfl
    | some p =>
      obtain ⟨v2, n2⟩ := p
      cases h3 : numRd ((s.drop n).drop n2) with
      | none =>
        have e : (tkCard (s, false)).2.2 = true := by simp only [tkCard, cuNum_nums h, cuNum_nums h2, cuNum_none h3]; exact cuFlag_true _ rfl
        simp only [numsRd, h, h2, h3, e]; rfl
      | some p =>
        obtain ⟨v3, n3⟩ := p
        simp only [numsRd, h, h2, h3, tkCard, cuNum_nums h, cuNum_nums h2, cuNum_nums h3]
        generalize ((s.drop n).drop n2).drop n3 = r
        cases r with
        | nil => rfl
        | cons g t =>
          by_cases hg : g.toNat ≤ 1
          · simp only [cuFlag, if_pos hg, if_neg (show ¬ 1 < g.toNat by omega)]; rfl
          · simp only [cuFlag, if_neg hg, if_pos (show 1 < g.toNat by omega)]; rfl

set_option maxRecDepth 100000 in
set_option maxHeartbeats 4000000 in
theorem foundIn_head (s : List UInt8) (w : World) (hs : s.length ≤ 9223372036854775806) :
    Calls Tryz.prog 98 #[.string (str (4 :: s))] w fun e w' => e = .returned (foundV (recRd (4 :: s))) ∧ Below w.heap.size w w' := by
  have h0 : 0 < (str (4 :: s)).size := by rw [str_size]; simp
  have hx : (str (4 :: s)).extract 1 (str (4 :: s)).size = str s := by rw [str_extract, str_size]; simp
  have hne : (str (4 :: s)).toList.isEmpty = false := by rw [str_toList]; rfl
  have hk : ((str (4 :: s))[0]'h0).toNat = 4 := rfl
  have hle : (1 : Int) ≤ ((str (4 :: s)).size : Int) := by omega
  obtain ⟨hR, hC, hF, hW, hB⟩ := three_boxes w 64 116 64 fd0.cells.toArray (Cu.cells (s, false)).toArray fd0.cells.toArray
  have HE := rec_head_eq s
  go_enter Tryz.func98, Tryz.ntmps98
  go_wp2_with fail
  refine (tkHead_any (s, false) (w.heap.size + 1) _ hC (by simp only []; omega)).mono ?_
  rintro e w1 ⟨rfl, hC1, hT⟩
  replace hR := hR.but hT (Nat.lt_of_lt_of_le (by omega) (Nat.le_of_eq hW.symm)) (by omega)
  replace hF := hF.but hT (Nat.lt_of_lt_of_le (by omega) (Nat.le_of_eq hW.symm)) (by omega)
  replace hB := hT.below hB (Nat.le_trans (by omega) (Nat.le_of_eq hW.symm)) (by omega)
  replace hC := hC1
  clear hC1 hT hW hx hne hk hle
  generalize htk : tkHead (s, false) = X at *
  clear htk
  obtain ⟨f, r, d⟩ := X
  cases d with
  | true =>
    have HN : Hid (recRd (4 :: s) = none) := HE
    clear HE
    go_wp2_with (first
      | (refine wpList_bstore (by rfl) _ _ _ (by rfl) (w.heap.size + 2) 64 (by rfl) _ _ (by rfl) hF 9 (by rfl) (by kernel_rfl) (by rfl) (by intro x hx; simp at hx; rcases hx with rfl | rfl | rfl | rfl | rfl | rfl | rfl | rfl | rfl <;> rfl) ?_; intro w9 hF9 hU9; replace hF := hF9; replace hR := hR.upd hU9 (by omega); replace hC := hC.upd hU9 (by omega); replace hB := hU9.below hB (by omega); clear hF9 hU9)
      | (refine wpList_bget (by rfl) 4 _ (by rfl) (w.heap.size + 1) 116 1 (by rfl) _ hC _ (by rfl) _ Tryz.underlying4 (by rfl) ?_; dsimp only)
      | (refine wpList_bstore (by rfl) _ _ _ (by rfl) w.heap.size 64 (by rfl) _ _ (by rfl) hR 9 (by rfl) (by kernel_rfl) (by rfl) (by intro x hx; simp at hx; rcases hx with rfl | rfl | rfl | rfl | rfl | rfl | rfl | rfl | rfl <;> rfl) ?_; intro w9 hR9 hU9; replace hR := hR9; replace hF := hF.upd hU9 (by omega); replace hC := hC.upd hU9 (by omega); replace hB := hU9.below hB (by omega); clear hR9 hU9)
      | (refine wpList_bload (by rfl) _ _ (by rfl) (w.heap.size + 2) 64 (by rfl) _ hF _ Tryz.underlying64 (by rfl) 9 (by rfl) (by kernel_rfl) ?_))
    exact bodyPost_ret (v := .tuple #[fdV (fd0), .bool false]) (results_box2 (by rfl) _ _ w.heap.size 64 _ _ _ (by rfl) hR (by rfl) Tryz.underlying64 (by rfl) 9 (by rfl) (by kernel_rfl)) rfl ⟨by rw [HN.out]; rfl, hB⟩
  | false =>
    have HN : Hid (recRd (4 :: s) = some f) := HE
    clear HE
    go_wp2_with (first
      | (refine wpList_bstore (by rfl) _ _ _ (by rfl) (w.heap.size + 2) 64 (by rfl) _ _ (by rfl) hF 9 (by rfl) (by kernel_rfl) (by rfl) (by intro x hx; simp at hx; rcases hx with rfl | rfl | rfl | rfl | rfl | rfl | rfl | rfl | rfl <;> rfl) ?_; intro w9 hF9 hU9; replace hF := hF9; replace hR := hR.upd hU9 (by omega); replace hC := hC.upd hU9 (by omega); replace hB := hU9.below hB (by omega); clear hF9 hU9)
      | (refine wpList_bget (by rfl) 4 _ (by rfl) (w.heap.size + 1) 116 1 (by rfl) _ hC _ (by rfl) _ Tryz.underlying4 (by rfl) ?_; dsimp only)
      | (refine wpList_bstore (by rfl) _ _ _ (by rfl) w.heap.size 64 (by rfl) _ _ (by rfl) hR 9 (by rfl) (by kernel_rfl) (by rfl) (by intro x hx; simp at hx; rcases hx with rfl | rfl | rfl | rfl | rfl | rfl | rfl | rfl | rfl <;> rfl) ?_; intro w9 hR9 hU9; replace hR := hR9; replace hF := hF.upd hU9 (by omega); replace hC := hC.upd hU9 (by omega); replace hB := hU9.below hB (by omega); clear hR9 hU9)
      | (refine wpList_bload (by rfl) _ _ (by rfl) (w.heap.size + 2) 64 (by rfl) _ hF _ Tryz.underlying64 (by rfl) 9 (by rfl) (by kernel_rfl) ?_))
    exact bodyPost_ret (v := .tuple #[fdV (f), .bool true]) (results_box2 (by rfl) _ _ w.heap.size 64 _ _ _ (by rfl) hR (by rfl) Tryz.underlying64 (by rfl) 9 (by rfl) (by kernel_rfl)) rfl ⟨by rw [HN.out]; rfl, hB⟩

set_option maxRecDepth 100000 in
set_option maxHeartbeats 4000000 in
theorem foundIn_clock (s : List UInt8) (w : World) (hs : s.length ≤ 9223372036854775806) :
    Calls Tryz.prog 98 #[.string (str (1 :: s))] w fun e w' => e = .returned (foundV (recRd (1 :: s))) ∧ Below w.heap.size w w' := by
  have h0 : 0 < (str (1 :: s)).size := by rw [str_size]; simp
  have hx : (str (1 :: s)).extract 1 (str (1 :: s)).size = str s := by rw [str_extract, str_size]; simp
  have hne : (str (1 :: s)).toList.isEmpty = false := by rw [str_toList]; rfl
  have hk : ((str (1 :: s))[0]'h0).toNat = 1 := rfl
  have hle : (1 : Int) ≤ ((str (1 :: s)).size : Int) := by omega
  obtain ⟨hR, hC, hF, hW, hB⟩ := three_boxes w 64 116 64 fd0.cells.toArray (Cu.cells (s, false)).toArray fd0.cells.toArray
  have HE := rec_clock_eq s
  go_enter Tryz.func98, Tryz.ntmps98
  go_wp2_with fail
  refine (tkClock_any (s, false) (w.heap.size + 1) _ hC (by simp only []; omega)).mono ?_
  rintro e w1 ⟨rfl, hC1, hT⟩
  replace hR := hR.but hT (Nat.lt_of_lt_of_le (by omega) (Nat.le_of_eq hW.symm)) (by omega)
  replace hF := hF.but hT (Nat.lt_of_lt_of_le (by omega) (Nat.le_of_eq hW.symm)) (by omega)
  replace hB := hT.below hB (Nat.le_trans (by omega) (Nat.le_of_eq hW.symm)) (by omega)
  replace hC := hC1
  clear hC1 hT hW hx hne hk hle
  generalize htk : tkClock (s, false) = X at *
  clear htk
  obtain ⟨f, r, d⟩ := X
  cases d with
  | true =>
    have HN : Hid (recRd (1 :: s) = none) := HE
    clear HE
    go_wp2_with (first
      | (refine wpList_bstore (by rfl) _ _ _ (by rfl) (w.heap.size + 2) 64 (by rfl) _ _ (by rfl) hF 9 (by rfl) (by kernel_rfl) (by rfl) (by intro x hx; simp at hx; rcases hx with rfl | rfl | rfl | rfl | rfl | rfl | rfl | rfl | rfl <;> rfl) ?_; intro w9 hF9 hU9; replace hF := hF9; replace hR := hR.upd hU9 (by omega); replace hC := hC.upd hU9 (by omega); replace hB := hU9.below hB (by omega); clear hF9 hU9)
      | (refine wpList_bget (by rfl) 4 _ (by rfl) (w.heap.size + 1) 116 1 (by rfl) _ hC _ (by rfl) _ Tryz.underlying4 (by rfl) ?_; dsimp only)
      | (refine wpList_bstore (by rfl) _ _ _ (by rfl) w.heap.size 64 (by rfl) _ _ (by rfl) hR 9 (by rfl) (by kernel_rfl) (by rfl) (by intro x hx; simp at hx; rcases hx with rfl | rfl | rfl | rfl | rfl | rfl | rfl | rfl | rfl <;> rfl) ?_; intro w9 hR9 hU9; replace hR := hR9; replace hF := hF.upd hU9 (by omega); replace hC := hC.upd hU9 (by omega); replace hB := hU9.below hB (by omega); clear hR9 hU9)
      | (refine wpList_bload (by rfl) _ _ (by rfl) (w.heap.size + 2) 64 (by rfl) _ hF _ Tryz.underlying64 (by rfl) 9 (by rfl) (by kernel_rfl) ?_))
    exact bodyPost_ret (v := .tuple #[fdV (fd0), .bool false]) (results_box2 (by rfl) _ _ w.heap.size 64 _ _ _ (by rfl) hR (by rfl) Tryz.underlying64 (by rfl) 9 (by rfl) (by kernel_rfl)) rfl ⟨by rw [HN.out]; rfl, hB⟩
  | false =>
    have HN : Hid (recRd (1 :: s) = some f) := HE
    clear HE
    go_wp2_with (first
      | (refine wpList_bstore (by rfl) _ _ _ (by rfl) (w.heap.size + 2) 64 (by rfl) _ _ (by rfl) hF 9 (by rfl) (by kernel_rfl) (by rfl) (by intro x hx; simp at hx; rcases hx with rfl | rfl | rfl | rfl | rfl | rfl | rfl | rfl | rfl <;> rfl) ?_; intro w9 hF9 hU9; replace hF := hF9; replace hR := hR.upd hU9 (by omega); replace hC := hC.upd hU9 (by omega); replace hB := hU9.below hB (by omega); clear hF9 hU9)
      | (refine wpList_bget (by rfl) 4 _ (by rfl) (w.heap.size + 1) 116 1 (by rfl) _ hC _ (by rfl) _ Tryz.underlying4 (by rfl) ?_; dsimp only)
      | (refine wpList_bstore (by rfl) _ _ _ (by rfl) w.heap.size 64 (by rfl) _ _ (by rfl) hR 9 (by rfl) (by kernel_rfl) (by rfl) (by intro x hx; simp at hx; rcases hx with rfl | rfl | rfl | rfl | rfl | rfl | rfl | rfl | rfl <;> rfl) ?_; intro w9 hR9 hU9; replace hR := hR9; replace hF := hF.upd hU9 (by omega); replace hC := hC.upd hU9 (by omega); replace hB := hU9.below hB (by omega); clear hR9 hU9)
      | (refine wpList_bload (by rfl) _ _ (by rfl) (w.heap.size + 2) 64 (by rfl) _ hF _ Tryz.underlying64 (by rfl) 9 (by rfl) (by kernel_rfl) ?_))
    exact bodyPost_ret (v := .tuple #[fdV (f), .bool true]) (results_box2 (by rfl) _ _ w.heap.size 64 _ _ _ (by rfl) hR (by rfl) Tryz.underlying64 (by rfl) 9 (by rfl) (by kernel_rfl)) rfl ⟨by rw [HN.out]; rfl, hB⟩

set_option maxRecDepth 100000 in
set_option maxHeartbeats 4000000 in
theorem foundIn_card (s : List UInt8) (w : World) (hs : s.length ≤ 9223372036854775806) :
    Calls Tryz.prog 98 #[.string (str (2 :: s))] w fun e w' => e = .returned (foundV (recRd (2 :: s))) ∧ Below w.heap.size w w' := by
  have h0 : 0 < (str (2 :: s)).size := by rw [str_size]; simp
  have hx : (str (2 :: s)).extract 1 (str (2 :: s)).size = str s := by rw [str_extract, str_size]; simp
  have hne : (str (2 :: s)).toList.isEmpty = false := by rw [str_toList]; rfl
  have hk : ((str (2 :: s))[0]'h0).toNat = 2 := rfl
  have hle : (1 : Int) ≤ ((str (2 :: s)).size : Int) := by omega
  obtain ⟨hR, hC, hF, hW, hB⟩ := three_boxes w 64 116 64 fd0.cells.toArray (Cu.cells (s, false)).toArray fd0.cells.toArray
  have HE := rec_card_eq s
  go_enter Tryz.func98, Tryz.ntmps98
  go_wp2_with fail
  refine (tkCard_any (s, false) (w.heap.size + 1) _ hC (by simp only []; omega)).mono ?_
  rintro e w1 ⟨rfl, hC1, hT⟩
  replace hR := hR.but hT (Nat.lt_of_lt_of_le (by omega) (Nat.le_of_eq hW.symm)) (by omega)
  replace hF := hF.but hT (Nat.lt_of_lt_of_le (by omega) (Nat.le_of_eq hW.symm)) (by omega)
  replace hB := hT.below hB (Nat.le_trans (by omega) (Nat.le_of_eq hW.symm)) (by omega)
  replace hC := hC1
  clear hC1 hT hW hx hne hk hle
  generalize htk : tkCard (s, false) = X at *
  clear htk
  obtain ⟨f, r, d⟩ := X
  cases d with
  | true =>
    have HN : Hid (recRd (2 :: s) = none) := HE
    clear HE
    go_wp2_with (first
      | (refine wpList_bstore (by rfl) _ _ _ (by rfl) (w.heap.size + 2) 64 (by rfl) _ _ (by rfl) hF 9 (by rfl) (by kernel_rfl) (by rfl) (by intro x hx; simp at hx; rcases hx with rfl | rfl | rfl | rfl | rfl | rfl | rfl | rfl | rfl <;> rfl) ?_; intro w9 hF9 hU9; replace hF := hF9; replace hR := hR.upd hU9 (by omega); replace hC := hC.upd hU9 (by omega); replace hB := hU9.below hB (by omega); clear hF9 hU9)
      | (refine wpList_bget (by rfl) 4 _ (by rfl) (w.heap.size + 1) 116 1 (by rfl) _ hC _ (by rfl) _ Tryz.underlying4 (by rfl) ?_; dsimp only)
      | (refine wpList_bstore (by rfl) _ _ _ (by rfl) w.heap.size 64 (by rfl) _ _ (by rfl) hR 9 (by rfl) (by kernel_rfl) (by rfl) (by intro x hx; simp at hx; rcases hx with rfl | rfl | rfl | rfl | rfl | rfl | rfl | rfl | rfl <;> rfl) ?_; intro w9 hR9 hU9; replace hR := hR9; replace hF := hF.upd hU9 (by omega); replace hC := hC.upd hU9 (by omega); replace hB := hU9.below hB (by omega); clear hR9 hU9)
      | (refine wpList_bload (by rfl) _ _ (by rfl) (w.heap.size + 2) 64 (by rfl) _ hF _ Tryz.underlying64 (by rfl) 9 (by rfl) (by kernel_rfl) ?_))
    exact bodyPost_ret (v := .tuple #[fdV (fd0), .bool false]) (results_box2 (by rfl) _ _ w.heap.size 64 _ _ _ (by rfl) hR (by rfl) Tryz.underlying64 (by rfl) 9 (by rfl) (by kernel_rfl)) rfl ⟨by rw [HN.out]; rfl, hB⟩
  | false =>
    have HN : Hid (recRd (2 :: s) = some f) := HE
    clear HE
    go_wp2_with (first
      | (refine wpList_bstore (by rfl) _ _ _ (by rfl) (w.heap.size + 2) 64 (by rfl) _ _ (by rfl) hF 9 (by rfl) (by kernel_rfl) (by rfl) (by intro x hx; simp at hx; rcases hx with rfl | rfl | rfl | rfl | rfl | rfl | rfl | rfl | rfl <;> rfl) ?_; intro w9 hF9 hU9; replace hF := hF9; replace hR := hR.upd hU9 (by omega); replace hC := hC.upd hU9 (by omega); replace hB := hU9.below hB (by omega); clear hF9 hU9)
      | (refine wpList_bget (by rfl) 4 _ (by rfl) (w.heap.size + 1) 116 1 (by rfl) _ hC _ (by rfl) _ Tryz.underlying4 (by rfl) ?_; dsimp only)
      | (refine wpList_bstore (by rfl) _ _ _ (by rfl) w.heap.size 64 (by rfl) _ _ (by rfl) hR 9 (by rfl) (by kernel_rfl) (by rfl) (by intro x hx; simp at hx; rcases hx with rfl | rfl | rfl | rfl | rfl | rfl | rfl | rfl | rfl <;> rfl) ?_; intro w9 hR9 hU9; replace hR := hR9; replace hF := hF.upd hU9 (by omega); replace hC := hC.upd hU9 (by omega); replace hB := hU9.below hB (by omega); clear hR9 hU9)
      | (refine wpList_bload (by rfl) _ _ (by rfl) (w.heap.size + 2) 64 (by rfl) _ hF _ Tryz.underlying64 (by rfl) 9 (by rfl) (by kernel_rfl) ?_))
    exact bodyPost_ret (v := .tuple #[fdV (f), .bool true]) (results_box2 (by rfl) _ _ w.heap.size 64 _ _ _ (by rfl) hR (by rfl) Tryz.underlying64 (by rfl) 9 (by rfl) (by kernel_rfl)) rfl ⟨by rw [HN.out]; rfl, hB⟩

set_option maxRecDepth 100000 in
set_option maxHeartbeats 4000000 in
theorem foundIn_edit (s : List UInt8) (w : World) (hs : s.length ≤ 9223372036854775806) :
    Calls Tryz.prog 98 #[.string (str (3 :: s))] w fun e w' => e = .returned (foundV (recRd (3 :: s))) ∧ Below w.heap.size w w' := by
  have h0 : 0 < (str (3 :: s)).size := by rw [str_size]; simp
  have hx : (str (3 :: s)).extract 1 (str (3 :: s)).size = str s := by rw [str_extract, str_size]; simp
  have hne : (str (3 :: s)).toList.isEmpty = false := by rw [str_toList]; rfl
  have hk : ((str (3 :: s))[0]'h0).toNat = 3 := rfl
  have hle : (1 : Int) ≤ ((str (3 :: s)).size : Int) := by omega
  obtain ⟨hR, hC, hF, hW, hB⟩ := three_boxes w 64 116 64 fd0.cells.toArray (Cu.cells (s, false)).toArray fd0.cells.toArray
  have HE := rec_edit_eq s
  go_enter Tryz.func98, Tryz.ntmps98
  go_wp2_with fail
  refine (tkEdit_any (s, false) (w.heap.size + 1) _ hC (by simp only []; omega)).mono ?_
  rintro e w1 ⟨rfl, hC1, hT⟩
  replace hR := hR.but hT (Nat.lt_of_lt_of_le (by omega) (Nat.le_of_eq hW.symm)) (by omega)
  replace hF := hF.but hT (Nat.lt_of_lt_of_le (by omega) (Nat.le_of_eq hW.symm)) (by omega)
  replace hB := hT.below hB (Nat.le_trans (by omega) (Nat.le_of_eq hW.symm)) (by omega)
  replace hC := hC1
  clear hC1 hT hW hx hne hk hle
  generalize htk : tkEdit (s, false) = X at *
  clear htk
  obtain ⟨f, r, d⟩ := X
  cases d with
  | true =>
    have HN : Hid (recRd (3 :: s) = none) := HE
    clear HE
    go_wp2_with (first
      | (refine wpList_bstore (by rfl) _ _ _ (by rfl) (w.heap.size + 2) 64 (by rfl) _ _ (by rfl) hF 9 (by rfl) (by kernel_rfl) (by rfl) (by intro x hx; simp at hx; rcases hx with rfl | rfl | rfl | rfl | rfl | rfl | rfl | rfl | rfl <;> rfl) ?_; intro w9 hF9 hU9; replace hF := hF9; replace hR := hR.upd hU9 (by omega); replace hC := hC.upd hU9 (by omega); replace hB := hU9.below hB (by omega); clear hF9 hU9)
      | (refine wpList_bget (by rfl) 4 _ (by rfl) (w.heap.size + 1) 116 1 (by rfl) _ hC _ (by rfl) _ Tryz.underlying4 (by rfl) ?_; dsimp only)
      | (refine wpList_bstore (by rfl) _ _ _ (by rfl) w.heap.size 64 (by rfl) _ _ (by rfl) hR 9 (by rfl) (by kernel_rfl) (by rfl) (by intro x hx; simp at hx; rcases hx with rfl | rfl | rfl | rfl | rfl | rfl | rfl | rfl | rfl <;> rfl) ?_; intro w9 hR9 hU9; replace hR := hR9; replace hF := hF.upd hU9 (by omega); replace hC := hC.upd hU9 (by omega); replace hB := hU9.below hB (by omega); clear hR9 hU9)
      | (refine wpList_bload (by rfl) _ _ (by rfl) (w.heap.size + 2) 64 (by rfl) _ hF _ Tryz.underlying64 (by rfl) 9 (by rfl) (by kernel_rfl) ?_))
    exact bodyPost_ret (v := .tuple #[fdV (fd0), .bool false]) (results_box2 (by rfl) _ _ w.heap.size 64 _ _ _ (by rfl) hR (by rfl) Tryz.underlying64 (by rfl) 9 (by rfl) (by kernel_rfl)) rfl ⟨by rw [HN.out]; rfl, hB⟩
  | false =>
    have HN : Hid (recRd (3 :: s) = some f) := HE
    clear HE
    go_wp2_with (first
      | (refine wpList_bstore (by rfl) _ _ _ (by rfl) (w.heap.size + 2) 64 (by rfl) _ _ (by rfl) hF 9 (by rfl) (by kernel_rfl) (by rfl) (by intro x hx; simp at hx; rcases hx with rfl | rfl | rfl | rfl | rfl | rfl | rfl | rfl | rfl <;> rfl) ?_; intro w9 hF9 hU9; replace hF := hF9; replace hR := hR.upd hU9 (by omega); replace hC := hC.upd hU9 (by omega); replace hB := hU9.below hB (by omega); clear hF9 hU9)
      | (refine wpList_bget (by rfl) 4 _ (by rfl) (w.heap.size + 1) 116 1 (by rfl) _ hC _ (by rfl) _ Tryz.underlying4 (by rfl) ?_; dsimp only)
      | (refine wpList_bstore (by rfl) _ _ _ (by rfl) w.heap.size 64 (by rfl) _ _ (by rfl) hR 9 (by rfl) (by kernel_rfl) (by rfl) (by intro x hx; simp at hx; rcases hx with rfl | rfl | rfl | rfl | rfl | rfl | rfl | rfl | rfl <;> rfl) ?_; intro w9 hR9 hU9; replace hR := hR9; replace hF := hF.upd hU9 (by omega); replace hC := hC.upd hU9 (by omega); replace hB := hU9.below hB (by omega); clear hR9 hU9)
      | (refine wpList_bload (by rfl) _ _ (by rfl) (w.heap.size + 2) 64 (by rfl) _ hF _ Tryz.underlying64 (by rfl) 9 (by rfl) (by kernel_rfl) ?_))
    exact bodyPost_ret (v := .tuple #[fdV (f), .bool true]) (results_box2 (by rfl) _ _ w.heap.size 64 _ _ _ (by rfl) hR (by rfl) Tryz.underlying64 (by rfl) 9 (by rfl) (by kernel_rfl)) rfl ⟨by rw [HN.out]; rfl, hB⟩

set_option maxRecDepth 100000 in
set_option maxHeartbeats 4000000 in
theorem foundIn_nil (w : World) : Calls Tryz.prog 98 #[.string (str [])] w fun e w' => e = .returned (foundV (recRd [])) ∧ Below w.heap.size w w' := by
  have hne : (str []).toList.isEmpty = true := by rw [str_toList]; rfl
  have HN : Hid (recRd [] = none) := rfl
  obtain ⟨hR, hW, hB⟩ := one_box w 64 fd0.cells.toArray
  go_enter Tryz.func98, Tryz.ntmps98
  go_wp2_with fail
  exact bodyPost_ret (v := .tuple #[fdV (fd0), .bool false]) (results_box2 (by rfl) _ _ w.heap.size 64 _ _ _ (by rfl) hR (by rfl) Tryz.underlying64 (by rfl) 9 (by rfl) (by kernel_rfl)) rfl ⟨by rw [HN.out]; rfl, hB⟩

set_option maxRecDepth 100000 in
set_option maxHeartbeats 4000000 in
theorem foundIn_none (c : UInt8) (s : List UInt8) (w : World) (h1 : c ≠ 1) (h2 : c ≠ 2) (h3 : c ≠ 3) (h4 : c ≠ 4) :
    Calls Tryz.prog 98 #[.string (str (c :: s))] w fun e w' => e = .returned (foundV (recRd (c :: s))) ∧ Below w.heap.size w w' := by
  have h0 : 0 < (str (c :: s)).size := by rw [str_size]; simp
  have hx : (str (c :: s)).extract 1 (str (c :: s)).size = str s := by rw [str_extract, str_size]; simp
  have hne : (str (c :: s)).toList.isEmpty = false := by rw [str_toList]; rfl
  have e : ((str (c :: s))[0]'h0).toNat = c.toNat := rfl
  have ne (n : Nat) (d : UInt8) (hd : d.toNat = n) (h : c ≠ d) : ((((str (c :: s))[0]'h0).toNat : Int) == (n : Int)) = false := by
    rw [beq_eq_false_iff_ne, e]; intro e; exact h (UInt8.toNat_inj.1 (by omega))
  have n1 : ((((str (c :: s))[0]'h0).toNat : Int) == 1) = false := ne 1 1 rfl h1
  have n2 : ((((str (c :: s))[0]'h0).toNat : Int) == 2) = false := ne 2 2 rfl h2
  have n3 : ((((str (c :: s))[0]'h0).toNat : Int) == 3) = false := ne 3 3 rfl h3
  have n4 : ((((str (c :: s))[0]'h0).toNat : Int) == 4) = false := ne 4 4 rfl h4
  have hle : (1 : Int) ≤ ((str (c :: s)).size : Int) := by omega
  have HN : Hid (recRd (c :: s) = none) := by show _ = _; simp [recRd, h1, h2, h3, h4]
  obtain ⟨hR, hC, hF, hW, hB⟩ := three_boxes w 64 116 64 fd0.cells.toArray (Cu.cells (s, false)).toArray fd0.cells.toArray
  clear h1 h2 h3 h4 ne e
  go_enter Tryz.func98, Tryz.ntmps98
  go_wp2_with (first
      | (refine wpList_bput (by rfl) _ _ 4 (by rfl) (w.heap.size + 1) 116 1 (by rfl) _ (.bool true) (by rfl) hC (by kernel_rfl) (by simp) (by rfl) (by rfl) ?_; intro w9 hC9 hU9; replace hC := hC9; replace hR := hR.upd hU9 (by omega); replace hF := hF.upd hU9 (by omega); replace hB := hU9.below hB (by omega); clear hC9 hU9; dsimp only [List.set] at hC)
      | (refine wpList_bget (by rfl) 4 _ (by rfl) (w.heap.size + 1) 116 1 (by rfl) _ hC _ (by rfl) _ Tryz.underlying4 (by rfl) ?_; dsimp only)
      | (refine wpList_bstore (by rfl) _ _ _ (by rfl) w.heap.size 64 (by rfl) _ _ (by rfl) hR 9 (by rfl) (by kernel_rfl) (by rfl) (by intro x hx; simp at hx; rcases hx with rfl | rfl | rfl | rfl | rfl | rfl | rfl | rfl | rfl <;> rfl) ?_; intro w9 hR9 hU9; replace hR := hR9; replace hF := hF.upd hU9 (by omega); replace hC := hC.upd hU9 (by omega); replace hB := hU9.below hB (by omega); clear hR9 hU9)
      | (refine wpList_bload (by rfl) _ _ (by rfl) (w.heap.size + 2) 64 (by rfl) _ hF _ Tryz.underlying64 (by rfl) 9 (by rfl) (by kernel_rfl) ?_))
  exact bodyPost_ret (v := .tuple #[fdV (fd0), .bool false]) (results_box2 (by rfl) _ _ w.heap.size 64 _ _ _ (by rfl) hR (by rfl) Tryz.underlying64 (by rfl) 9 (by rfl) (by kernel_rfl)) rfl ⟨by rw [HN.out]; rfl, hB⟩

theorem foundIn_any (s : List UInt8) (w : World) (hs : s.length ≤ 9223372036854775806) :
    Calls Tryz.prog 98 #[.string (str s)] w fun e w' => e = .returned (foundV (recRd s)) ∧ Below w.heap.size w w' := by
  match s, hs with
  | [], _ => exact foundIn_nil w
  | c :: s, hs =>
    have hs' : s.length ≤ 9223372036854775806 := by simp at hs; omega
    by_cases h1 : c = 1
    · subst h1; exact foundIn_clock s w hs'
    · by_cases h2 : c = 2
      · subst h2; exact foundIn_card s w hs'
      · by_cases h3 : c = 3
        · subst h3; exact foundIn_edit s w hs'
        · by_cases h4 : c = 4
          · subst h4; exact foundIn_head s w hs'
          · exact foundIn_none c s w h1 h2 h3 h4
end Go.Proofs.YtdjpkgaicmklmaaGreat

/- Records read back: the reference's record, walked (heads). -/
namespace Go.Proofs.YtdjpkgaicmklmaaGreat
open Go.RowKit

set_option maxRecDepth 100000 in
set_option maxHeartbeats 4000000 in
theorem rec_head (s : List UInt8) (w : World) (hs : s.length ≤ 9223372036854775806) :
    Calls Tryz.prog 64 #[.string (str (4 :: s))] w fun e w' => RecAns (4 :: s) e ∧ Below w.heap.size w w' := by
  have h0 : 0 < (str (4 :: s)).size := by rw [str_size]; simp
  have hx : (str (4 :: s)).extract 1 (str (4 :: s)).size = str s := by rw [str_extract, str_size]; simp
  have hne : (str (4 :: s)).toList.isEmpty = false := by rw [str_toList]; rfl
  have hk : wrap64 (((str (4 :: s))[0]'h0).toNat : Int) = 4 := by
    have e : ((str (4 :: s))[0]'h0).toNat = 4 := rfl
    rw [e]; unfold wrap64; omega
  have hle : (1 : Int) ≤ ((str (4 :: s)).size : Int) := by omega
  go_enter Tryz.func64, Tryz.ntmps64
  go_wp2_with fail
  obtain ⟨hR, hF, hW, hB⟩ := two_boxes w 64 64 fd0.cells.toArray #[.int .i64 0, .int .i64 4, .int .i64 0, .int .i64 0, .int .i64 0, .int .i64 0, .int .i64 0, .bool false, .string ⟨#[]⟩]
  refine (rnums_any s 1 _ (by omega) (by omega)).mono ?_
  rintro e w2 ⟨hA, hb2⟩
  replace hF := hF.below hb2 hF.lt
  replace hR := hR.below hb2 hR.lt
  have hB2 : Below w.heap.size w w2 := hB.trans (hb2.mono (Nat.le_trans (by omega : w.heap.size ≤ w.heap.size + 2) (Nat.le_of_eq hW.symm)))
  clear hB hx hne hk hle
  unfold NumsAns at hA
  cases hn : numsRd 1 s with
  | none =>
    rw [hn] at hA
    obtain rfl := hA
    have HN : Hid (recRd (4 :: s) = none) := by show _ = _; simp [recRd, hn]
    clear hn
    go_wp2_with (first
      | (refine wpList_bput (by rfl) _ _ 3 (by rfl) (w.heap.size + 1) 64 _ (by rfl) _ (.int .i64 _) (by rfl) hF (by kernel_rfl) (by simp) (by rfl) (by rfl) ?_; intro w9 hF9 hU9; replace hF := hF9; replace hR := hR.upd hU9 (by omega); replace hB2 := hU9.below hB2 (by omega); clear hF9 hU9; dsimp only [List.set] at hF)
      | (refine wpList_bput (by rfl) _ _ 9 (by rfl) (w.heap.size + 1) 64 _ (by rfl) _ (.string _) (by rfl) hF (by kernel_rfl) (by simp) (by rfl) (by rfl) ?_; intro w9 hF9 hU9; replace hF := hF9; replace hR := hR.upd hU9 (by omega); replace hB2 := hU9.below hB2 (by omega); clear hF9 hU9; dsimp only [List.set] at hF)
      | (refine wpList_bput (by rfl) _ _ 4 (by rfl) (w.heap.size + 1) 64 _ (by rfl) _ (.bool _) (by rfl) hF (by kernel_rfl) (by simp) (by rfl) (by rfl) ?_; intro w9 hF9 hU9; replace hF := hF9; replace hR := hR.upd hU9 (by omega); replace hB2 := hU9.below hB2 (by omega); clear hF9 hU9; dsimp only [List.set] at hF)
      | (refine wpList_bload (by rfl) _ _ (by rfl) (w.heap.size + 1) 64 (by rfl) _ hF _ Tryz.underlying64 (by rfl) 9 (by rfl) (by kernel_rfl) ?_)
      | (refine wpList_bstore (by rfl) _ _ _ (by rfl) w.heap.size 64 (by rfl) _ _ (by rfl) hR 9 (by rfl) (by kernel_rfl) (by rfl) (by intro x hx; simp at hx; rcases hx with rfl | rfl | rfl | rfl | rfl | rfl | rfl | rfl | rfl <;> rfl) ?_; intro w9 hR9 hU9; replace hR := hR9; replace hF := hF.upd hU9 (by omega); replace hB2 := hU9.below hB2 (by omega); clear hR9 hU9)
      | (refine wpList_bget (by rfl) 3 _ (by rfl) (w.heap.size + 1) 64 _ (by rfl) _ hF _ (by rfl) _ Tryz.underlying3 (by rfl) ?_))
    exact bodyPost_ret (v := .tuple #[fdV (fdK 4), .bool false]) (results_box2 (by rfl) _ _ w.heap.size 64 _ _ _ (by rfl) hR (by rfl) Tryz.underlying64 (by rfl) 9 (by rfl) (by kernel_rfl)) rfl ⟨⟨_, false, rfl, HN.out⟩, hB2⟩
  | some p =>
    obtain ⟨l, r⟩ := p
    rw [hn] at hA
    obtain ⟨ad, cap, rfl, hv⟩ := hA
    replace hv := hv.mono (show w.heap.size + 2 ≤ _ from Nat.le_of_eq hW.symm)
    have hl := (numsRd_length 1 s hn).1
    have hrl := (numsRd_length 1 s hn).2
    have hvl := hv.length
    obtain ⟨g, sp, rfl, hg, hgl, hL⟩ := hv.bx (by omega)
    clear hv hvl
    obtain ⟨q, rfl⟩ : ∃ q, l = [q] := by match l, hl with | [q], _ => exact ⟨q, rfl⟩
    by_cases hq : q = 0
    · subst hq
      cases r with
      | nil =>
        have hre : (str []).toList.isEmpty = true := by rw [str_toList]; rfl
        have HN : Hid (recRd (4 :: s) = some (fdHead 0 0)) := by show _ = _; simp [recRd, hn]
        clear hn hl
        go_wp2_with (first
              | (refine wpList_bput (by rfl) _ _ 3 (by rfl) (w.heap.size + 1) 64 _ (by rfl) _ (.int .i64 _) (by rfl) hF (by kernel_rfl) (by simp) (by rfl) (by rfl) ?_; intro w9 hF9 hU9; replace hF := hF9; replace hR := hR.upd hU9 (by omega); replace hL := hL.upd hU9 (by omega); replace hB2 := hU9.below hB2 (by omega); clear hF9 hU9; dsimp only [List.set] at hF)
              | (refine wpList_bput (by rfl) _ _ 9 (by rfl) (w.heap.size + 1) 64 _ (by rfl) _ (.string _) (by rfl) hF (by kernel_rfl) (by simp) (by rfl) (by rfl) ?_; intro w9 hF9 hU9; replace hF := hF9; replace hR := hR.upd hU9 (by omega); replace hL := hL.upd hU9 (by omega); replace hB2 := hU9.below hB2 (by omega); clear hF9 hU9; dsimp only [List.set] at hF)
              | (refine wpList_bput (by rfl) _ _ 4 (by rfl) (w.heap.size + 1) 64 _ (by rfl) _ (.bool _) (by rfl) hF (by kernel_rfl) (by simp) (by rfl) (by rfl) ?_; intro w9 hF9 hU9; replace hF := hF9; replace hR := hR.upd hU9 (by omega); replace hL := hL.upd hU9 (by omega); replace hB2 := hU9.below hB2 (by omega); clear hF9 hU9; dsimp only [List.set] at hF)
              | (refine wpList_bload (by rfl) _ _ (by rfl) (w.heap.size + 1) 64 (by rfl) _ hF _ Tryz.underlying64 (by rfl) 9 (by rfl) (by kernel_rfl) ?_)
              | (refine wpList_bstore (by rfl) _ _ _ (by rfl) w.heap.size 64 (by rfl) _ _ (by rfl) hR 9 (by rfl) (by kernel_rfl) (by rfl) (by intro x hx; simp at hx; rcases hx with rfl | rfl | rfl | rfl | rfl | rfl | rfl | rfl | rfl <;> rfl) ?_; intro w9 hR9 hU9; replace hR := hR9; replace hF := hF.upd hU9 (by omega); replace hB2 := hU9.below hB2 (by omega); clear hR9 hU9)
              | (refine wpList_bget (by rfl) 3 _ (by rfl) (w.heap.size + 1) 64 _ (by rfl) _ hF _ (by rfl) _ Tryz.underlying3 (by rfl) ?_)
              | (refine wpList_bget (by rfl) 3 _ (by rfl) g 3 _ (by rfl) _ hL _ (by rfl) _ Tryz.underlying3 (by rfl) ?_))
        exact bodyPost_ret (v := .tuple #[fdV (fdHead 0 0), .bool true]) (results_box2 (by rfl) _ _ w.heap.size 64 _ _ _ (by rfl) hR (by rfl) Tryz.underlying64 (by rfl) 9 (by rfl) (by kernel_rfl)) rfl ⟨⟨_, true, rfl, HN.out⟩, hB2⟩

      | cons c t =>
        have hre : (str (c :: t)).toList.isEmpty = false := by rw [str_toList]; rfl
        have HN : Hid (recRd (4 :: s) = none) := by show _ = _; simp [recRd, hn]
        clear hn hl
        go_wp2_with (first
              | (refine wpList_bput (by rfl) _ _ 3 (by rfl) (w.heap.size + 1) 64 _ (by rfl) _ (.int .i64 _) (by rfl) hF (by kernel_rfl) (by simp) (by rfl) (by rfl) ?_; intro w9 hF9 hU9; replace hF := hF9; replace hR := hR.upd hU9 (by omega); replace hL := hL.upd hU9 (by omega); replace hB2 := hU9.below hB2 (by omega); clear hF9 hU9; dsimp only [List.set] at hF)
              | (refine wpList_bput (by rfl) _ _ 9 (by rfl) (w.heap.size + 1) 64 _ (by rfl) _ (.string _) (by rfl) hF (by kernel_rfl) (by simp) (by rfl) (by rfl) ?_; intro w9 hF9 hU9; replace hF := hF9; replace hR := hR.upd hU9 (by omega); replace hL := hL.upd hU9 (by omega); replace hB2 := hU9.below hB2 (by omega); clear hF9 hU9; dsimp only [List.set] at hF)
              | (refine wpList_bput (by rfl) _ _ 4 (by rfl) (w.heap.size + 1) 64 _ (by rfl) _ (.bool _) (by rfl) hF (by kernel_rfl) (by simp) (by rfl) (by rfl) ?_; intro w9 hF9 hU9; replace hF := hF9; replace hR := hR.upd hU9 (by omega); replace hL := hL.upd hU9 (by omega); replace hB2 := hU9.below hB2 (by omega); clear hF9 hU9; dsimp only [List.set] at hF)
              | (refine wpList_bload (by rfl) _ _ (by rfl) (w.heap.size + 1) 64 (by rfl) _ hF _ Tryz.underlying64 (by rfl) 9 (by rfl) (by kernel_rfl) ?_)
              | (refine wpList_bstore (by rfl) _ _ _ (by rfl) w.heap.size 64 (by rfl) _ _ (by rfl) hR 9 (by rfl) (by kernel_rfl) (by rfl) (by intro x hx; simp at hx; rcases hx with rfl | rfl | rfl | rfl | rfl | rfl | rfl | rfl | rfl <;> rfl) ?_; intro w9 hR9 hU9; replace hR := hR9; replace hF := hF.upd hU9 (by omega); replace hB2 := hU9.below hB2 (by omega); clear hR9 hU9)
              | (refine wpList_bget (by rfl) 3 _ (by rfl) (w.heap.size + 1) 64 _ (by rfl) _ hF _ (by rfl) _ Tryz.underlying3 (by rfl) ?_)
              | (refine wpList_bget (by rfl) 3 _ (by rfl) g 3 _ (by rfl) _ hL _ (by rfl) _ Tryz.underlying3 (by rfl) ?_))
        exact bodyPost_ret (v := .tuple #[fdV (fdHead 0 0), .bool false]) (results_box2 (by rfl) _ _ w.heap.size 64 _ _ _ (by rfl) hR (by rfl) Tryz.underlying64 (by rfl) 9 (by rfl) (by kernel_rfl)) rfl ⟨⟨_, false, rfl, HN.out⟩, hB2⟩

    · have hqb : (q == 0) = false := by simp [hq]
      by_cases h4 : r.length = 4
      · have hz4 : (str r).size = 4 := by rw [str_size, h4]
        have hz5 : (((str r).size : Int) != 4) = false := by rw [hz4]; rfl
        clear hz4
        have HN : Hid (recRd (4 :: s) = some (fdHead q (fourRd r))) := by show _ = _; simp [recRd, hn, hq, h4]
        clear hn hl
        go_wp2_with (first
              | (refine wpList_bput (by rfl) _ _ 3 (by rfl) (w.heap.size + 1) 64 _ (by rfl) _ (.int .i64 _) (by rfl) hF (by kernel_rfl) (by simp) (by rfl) (by rfl) ?_; intro w9 hF9 hU9; replace hF := hF9; replace hR := hR.upd hU9 (by omega); replace hL := hL.upd hU9 (by omega); replace hB2 := hU9.below hB2 (by omega); clear hF9 hU9; dsimp only [List.set] at hF)
              | (refine wpList_bput (by rfl) _ _ 9 (by rfl) (w.heap.size + 1) 64 _ (by rfl) _ (.string _) (by rfl) hF (by kernel_rfl) (by simp) (by rfl) (by rfl) ?_; intro w9 hF9 hU9; replace hF := hF9; replace hR := hR.upd hU9 (by omega); replace hL := hL.upd hU9 (by omega); replace hB2 := hU9.below hB2 (by omega); clear hF9 hU9; dsimp only [List.set] at hF)
              | (refine wpList_bput (by rfl) _ _ 4 (by rfl) (w.heap.size + 1) 64 _ (by rfl) _ (.bool _) (by rfl) hF (by kernel_rfl) (by simp) (by rfl) (by rfl) ?_; intro w9 hF9 hU9; replace hF := hF9; replace hR := hR.upd hU9 (by omega); replace hL := hL.upd hU9 (by omega); replace hB2 := hU9.below hB2 (by omega); clear hF9 hU9; dsimp only [List.set] at hF)
              | (refine wpList_bload (by rfl) _ _ (by rfl) (w.heap.size + 1) 64 (by rfl) _ hF _ Tryz.underlying64 (by rfl) 9 (by rfl) (by kernel_rfl) ?_)
              | (refine wpList_bstore (by rfl) _ _ _ (by rfl) w.heap.size 64 (by rfl) _ _ (by rfl) hR 9 (by rfl) (by kernel_rfl) (by rfl) (by intro x hx; simp at hx; rcases hx with rfl | rfl | rfl | rfl | rfl | rfl | rfl | rfl | rfl <;> rfl) ?_; intro w9 hR9 hU9; replace hR := hR9; replace hF := hF.upd hU9 (by omega); replace hB2 := hU9.below hB2 (by omega); clear hR9 hU9)
              | (refine wpList_bget (by rfl) 3 _ (by rfl) (w.heap.size + 1) 64 _ (by rfl) _ hF _ (by rfl) _ Tryz.underlying3 (by rfl) ?_)
              | (refine wpList_bget (by rfl) 3 _ (by rfl) g 3 _ (by rfl) _ hL _ (by rfl) _ Tryz.underlying3 (by rfl) ?_))
        refine (rfour_rd r _ h4).mono ?_
        rintro e w9 ⟨rfl, nn, rfl⟩
        replace hF := hF.drewN nn
        replace hR := hR.drewN nn
        replace hL := hL.drewN nn
        replace hB2 := (Upd.drewN (Upd.refl w.heap.size _) nn).below hB2 (Nat.le_refl _)
        go_wp2_with (first
              | (refine wpList_bput (by rfl) _ _ 3 (by rfl) (w.heap.size + 1) 64 _ (by rfl) _ (.int .i64 _) (by rfl) hF (by kernel_rfl) (by simp) (by rfl) (by rfl) ?_; intro w9 hF9 hU9; replace hF := hF9; replace hR := hR.upd hU9 (by omega); replace hL := hL.upd hU9 (by omega); replace hB2 := hU9.below hB2 (by omega); clear hF9 hU9; dsimp only [List.set] at hF)
              | (refine wpList_bput (by rfl) _ _ 9 (by rfl) (w.heap.size + 1) 64 _ (by rfl) _ (.string _) (by rfl) hF (by kernel_rfl) (by simp) (by rfl) (by rfl) ?_; intro w9 hF9 hU9; replace hF := hF9; replace hR := hR.upd hU9 (by omega); replace hL := hL.upd hU9 (by omega); replace hB2 := hU9.below hB2 (by omega); clear hF9 hU9; dsimp only [List.set] at hF)
              | (refine wpList_bput (by rfl) _ _ 4 (by rfl) (w.heap.size + 1) 64 _ (by rfl) _ (.bool _) (by rfl) hF (by kernel_rfl) (by simp) (by rfl) (by rfl) ?_; intro w9 hF9 hU9; replace hF := hF9; replace hR := hR.upd hU9 (by omega); replace hL := hL.upd hU9 (by omega); replace hB2 := hU9.below hB2 (by omega); clear hF9 hU9; dsimp only [List.set] at hF)
              | (refine wpList_bload (by rfl) _ _ (by rfl) (w.heap.size + 1) 64 (by rfl) _ hF _ Tryz.underlying64 (by rfl) 9 (by rfl) (by kernel_rfl) ?_)
              | (refine wpList_bstore (by rfl) _ _ _ (by rfl) w.heap.size 64 (by rfl) _ _ (by rfl) hR 9 (by rfl) (by kernel_rfl) (by rfl) (by intro x hx; simp at hx; rcases hx with rfl | rfl | rfl | rfl | rfl | rfl | rfl | rfl | rfl <;> rfl) ?_; intro w9 hR9 hU9; replace hR := hR9; replace hF := hF.upd hU9 (by omega); replace hB2 := hU9.below hB2 (by omega); clear hR9 hU9)
              | (refine wpList_bget (by rfl) 3 _ (by rfl) (w.heap.size + 1) 64 _ (by rfl) _ hF _ (by rfl) _ Tryz.underlying3 (by rfl) ?_)
              | (refine wpList_bget (by rfl) 3 _ (by rfl) g 3 _ (by rfl) _ hL _ (by rfl) _ Tryz.underlying3 (by rfl) ?_))
        exact bodyPost_ret (v := .tuple #[fdV (fdHead q (fourRd r)), .bool true]) (results_box2 (by rfl) _ _ w.heap.size 64 _ _ _ (by rfl) hR (by rfl) Tryz.underlying64 (by rfl) 9 (by rfl) (by kernel_rfl)) rfl ⟨⟨_, true, rfl, HN.out⟩, hB2⟩

      · have hz5 : (((str r).size : Int) != 4) = true := by rw [str_size, bne_iff_ne]; omega
        have HN : Hid (recRd (4 :: s) = none) := by show _ = _; simp [recRd, hn, hq, h4]
        clear hn hl
        go_wp2_with (first
              | (refine wpList_bput (by rfl) _ _ 3 (by rfl) (w.heap.size + 1) 64 _ (by rfl) _ (.int .i64 _) (by rfl) hF (by kernel_rfl) (by simp) (by rfl) (by rfl) ?_; intro w9 hF9 hU9; replace hF := hF9; replace hR := hR.upd hU9 (by omega); replace hL := hL.upd hU9 (by omega); replace hB2 := hU9.below hB2 (by omega); clear hF9 hU9; dsimp only [List.set] at hF)
              | (refine wpList_bput (by rfl) _ _ 9 (by rfl) (w.heap.size + 1) 64 _ (by rfl) _ (.string _) (by rfl) hF (by kernel_rfl) (by simp) (by rfl) (by rfl) ?_; intro w9 hF9 hU9; replace hF := hF9; replace hR := hR.upd hU9 (by omega); replace hL := hL.upd hU9 (by omega); replace hB2 := hU9.below hB2 (by omega); clear hF9 hU9; dsimp only [List.set] at hF)
              | (refine wpList_bput (by rfl) _ _ 4 (by rfl) (w.heap.size + 1) 64 _ (by rfl) _ (.bool _) (by rfl) hF (by kernel_rfl) (by simp) (by rfl) (by rfl) ?_; intro w9 hF9 hU9; replace hF := hF9; replace hR := hR.upd hU9 (by omega); replace hL := hL.upd hU9 (by omega); replace hB2 := hU9.below hB2 (by omega); clear hF9 hU9; dsimp only [List.set] at hF)
              | (refine wpList_bload (by rfl) _ _ (by rfl) (w.heap.size + 1) 64 (by rfl) _ hF _ Tryz.underlying64 (by rfl) 9 (by rfl) (by kernel_rfl) ?_)
              | (refine wpList_bstore (by rfl) _ _ _ (by rfl) w.heap.size 64 (by rfl) _ _ (by rfl) hR 9 (by rfl) (by kernel_rfl) (by rfl) (by intro x hx; simp at hx; rcases hx with rfl | rfl | rfl | rfl | rfl | rfl | rfl | rfl | rfl <;> rfl) ?_; intro w9 hR9 hU9; replace hR := hR9; replace hF := hF.upd hU9 (by omega); replace hB2 := hU9.below hB2 (by omega); clear hR9 hU9)
              | (refine wpList_bget (by rfl) 3 _ (by rfl) (w.heap.size + 1) 64 _ (by rfl) _ hF _ (by rfl) _ Tryz.underlying3 (by rfl) ?_)
              | (refine wpList_bget (by rfl) 3 _ (by rfl) g 3 _ (by rfl) _ hL _ (by rfl) _ Tryz.underlying3 (by rfl) ?_))
        exact bodyPost_ret (v := .tuple #[fdV (fdHead q 0), .bool false]) (results_box2 (by rfl) _ _ w.heap.size 64 _ _ _ (by rfl) hR (by rfl) Tryz.underlying64 (by rfl) 9 (by rfl) (by kernel_rfl)) rfl ⟨⟨_, false, rfl, HN.out⟩, hB2⟩

end Go.Proofs.YtdjpkgaicmklmaaGreat

/- Records read back: the reference's record, walked (clocks). -/
namespace Go.Proofs.YtdjpkgaicmklmaaGreat
open Go.RowKit

set_option maxRecDepth 100000 in
set_option maxHeartbeats 4000000 in
theorem rec_clock (s : List UInt8) (w : World) (hs : s.length ≤ 9223372036854775806) :
    Calls Tryz.prog 64 #[.string (str (1 :: s))] w fun e w' => RecAns (1 :: s) e ∧ Below w.heap.size w w' := by
  have h0 : 0 < (str (1 :: s)).size := by rw [str_size]; simp
  have hx : (str (1 :: s)).extract 1 (str (1 :: s)).size = str s := by rw [str_extract, str_size]; simp
  have hne : (str (1 :: s)).toList.isEmpty = false := by rw [str_toList]; rfl
  have hk : wrap64 (((str (1 :: s))[0]'h0).toNat : Int) = 1 := by
    have e : ((str (1 :: s))[0]'h0).toNat = 1 := rfl
    rw [e]; unfold wrap64; omega
  have hle : (1 : Int) ≤ ((str (1 :: s)).size : Int) := by omega
  go_enter Tryz.func64, Tryz.ntmps64
  go_wp2_with fail
  obtain ⟨hR, hF, hW, hB⟩ := two_boxes w 64 64 fd0.cells.toArray #[.int .i64 0, .int .i64 1, .int .i64 0, .int .i64 0, .int .i64 0, .int .i64 0, .int .i64 0, .bool false, .string ⟨#[]⟩]
  refine (rnums_any s 2 _ (by omega) (by omega)).mono ?_
  rintro e w2 ⟨hA, hb2⟩
  replace hF := hF.below hb2 hF.lt
  replace hR := hR.below hb2 hR.lt
  have hB2 : Below w.heap.size w w2 := hB.trans (hb2.mono (Nat.le_trans (by omega : w.heap.size ≤ w.heap.size + 2) (Nat.le_of_eq hW.symm)))
  clear hB hx hne hk hle
  unfold NumsAns at hA
  cases hn : numsRd 2 s with
  | none =>
    rw [hn] at hA
    obtain rfl := hA
    have HN : Hid (recRd (1 :: s) = none) := by show _ = _; simp [recRd, hn]
    clear hn
    go_wp2_with (first
      | (refine wpList_bput (by rfl) _ _ 3 (by rfl) (w.heap.size + 1) 64 _ (by rfl) _ (.int .i64 _) (by rfl) hF (by kernel_rfl) (by simp) (by rfl) (by rfl) ?_; intro w9 hF9 hU9; replace hF := hF9; replace hR := hR.upd hU9 (by omega); replace hB2 := hU9.below hB2 (by omega); clear hF9 hU9; dsimp only [List.set] at hF)
      | (refine wpList_bput (by rfl) _ _ 9 (by rfl) (w.heap.size + 1) 64 _ (by rfl) _ (.string _) (by rfl) hF (by kernel_rfl) (by simp) (by rfl) (by rfl) ?_; intro w9 hF9 hU9; replace hF := hF9; replace hR := hR.upd hU9 (by omega); replace hB2 := hU9.below hB2 (by omega); clear hF9 hU9; dsimp only [List.set] at hF)
      | (refine wpList_bput (by rfl) _ _ 4 (by rfl) (w.heap.size + 1) 64 _ (by rfl) _ (.bool _) (by rfl) hF (by kernel_rfl) (by simp) (by rfl) (by rfl) ?_; intro w9 hF9 hU9; replace hF := hF9; replace hR := hR.upd hU9 (by omega); replace hB2 := hU9.below hB2 (by omega); clear hF9 hU9; dsimp only [List.set] at hF)
      | (refine wpList_bload (by rfl) _ _ (by rfl) (w.heap.size + 1) 64 (by rfl) _ hF _ Tryz.underlying64 (by rfl) 9 (by rfl) (by kernel_rfl) ?_)
      | (refine wpList_bstore (by rfl) _ _ _ (by rfl) w.heap.size 64 (by rfl) _ _ (by rfl) hR 9 (by rfl) (by kernel_rfl) (by rfl) (by intro x hx; simp at hx; rcases hx with rfl | rfl | rfl | rfl | rfl | rfl | rfl | rfl | rfl <;> rfl) ?_; intro w9 hR9 hU9; replace hR := hR9; replace hF := hF.upd hU9 (by omega); replace hB2 := hU9.below hB2 (by omega); clear hR9 hU9)
      | (refine wpList_bget (by rfl) 3 _ (by rfl) (w.heap.size + 1) 64 _ (by rfl) _ hF _ (by rfl) _ Tryz.underlying3 (by rfl) ?_))
    exact bodyPost_ret (v := .tuple #[fdV (fdK 1), .bool false]) (results_box2 (by rfl) _ _ w.heap.size 64 _ _ _ (by rfl) hR (by rfl) Tryz.underlying64 (by rfl) 9 (by rfl) (by kernel_rfl)) rfl ⟨⟨_, false, rfl, HN.out⟩, hB2⟩
  | some p =>
    obtain ⟨l, r⟩ := p
    rw [hn] at hA
    obtain ⟨ad, cap, rfl, hv⟩ := hA
    replace hv := hv.mono (show w.heap.size + 2 ≤ _ from Nat.le_of_eq hW.symm)
    have hl := (numsRd_length 2 s hn).1
    have hrl := (numsRd_length 2 s hn).2
    have hvl := hv.length
    obtain ⟨g, sp, rfl, hg, hgl, hL⟩ := hv.bx (by omega)
    clear hv hvl
    obtain ⟨q, u, rfl⟩ : ∃ q u, l = [q, u] := by match l, hl with | [q, u], _ => exact ⟨q, u, rfl⟩
    cases r with
    | nil =>
      have hre : (str []).toList.isEmpty = true := by rw [str_toList]; rfl
      have HN : Hid (recRd (1 :: s) = some (fdClock ⟨q, u⟩)) := by show _ = _; simp [recRd, hn]
      clear hn hl
      go_wp2_with (first
            | (refine wpList_bput (by rfl) _ _ 3 (by rfl) (w.heap.size + 1) 64 _ (by rfl) _ (.int .i64 _) (by rfl) hF (by kernel_rfl) (by simp) (by rfl) (by rfl) ?_; intro w9 hF9 hU9; replace hF := hF9; replace hR := hR.upd hU9 (by omega); replace hL := hL.upd hU9 (by omega); replace hB2 := hU9.below hB2 (by omega); clear hF9 hU9; dsimp only [List.set] at hF)
            | (refine wpList_bput (by rfl) _ _ 9 (by rfl) (w.heap.size + 1) 64 _ (by rfl) _ (.string _) (by rfl) hF (by kernel_rfl) (by simp) (by rfl) (by rfl) ?_; intro w9 hF9 hU9; replace hF := hF9; replace hR := hR.upd hU9 (by omega); replace hL := hL.upd hU9 (by omega); replace hB2 := hU9.below hB2 (by omega); clear hF9 hU9; dsimp only [List.set] at hF)
            | (refine wpList_bput (by rfl) _ _ 4 (by rfl) (w.heap.size + 1) 64 _ (by rfl) _ (.bool _) (by rfl) hF (by kernel_rfl) (by simp) (by rfl) (by rfl) ?_; intro w9 hF9 hU9; replace hF := hF9; replace hR := hR.upd hU9 (by omega); replace hL := hL.upd hU9 (by omega); replace hB2 := hU9.below hB2 (by omega); clear hF9 hU9; dsimp only [List.set] at hF)
            | (refine wpList_bload (by rfl) _ _ (by rfl) (w.heap.size + 1) 64 (by rfl) _ hF _ Tryz.underlying64 (by rfl) 9 (by rfl) (by kernel_rfl) ?_)
            | (refine wpList_bstore (by rfl) _ _ _ (by rfl) w.heap.size 64 (by rfl) _ _ (by rfl) hR 9 (by rfl) (by kernel_rfl) (by rfl) (by intro x hx; simp at hx; rcases hx with rfl | rfl | rfl | rfl | rfl | rfl | rfl | rfl | rfl <;> rfl) ?_; intro w9 hR9 hU9; replace hR := hR9; replace hF := hF.upd hU9 (by omega); replace hB2 := hU9.below hB2 (by omega); clear hR9 hU9)
            | (refine wpList_bget (by rfl) 3 _ (by rfl) (w.heap.size + 1) 64 _ (by rfl) _ hF _ (by rfl) _ Tryz.underlying3 (by rfl) ?_)
            | (refine wpList_bget (by rfl) 3 _ (by rfl) g 3 _ (by rfl) _ hL _ (by rfl) _ Tryz.underlying3 (by rfl) ?_))
      exact bodyPost_ret (v := .tuple #[fdV (fdClock ⟨q, u⟩), .bool true]) (results_box2 (by rfl) _ _ w.heap.size 64 _ _ _ (by rfl) hR (by rfl) Tryz.underlying64 (by rfl) 9 (by rfl) (by kernel_rfl)) rfl ⟨⟨_, true, rfl, HN.out⟩, hB2⟩

    | cons c t =>
      have hre : (str (c :: t)).toList.isEmpty = false := by rw [str_toList]; rfl
      have HN : Hid (recRd (1 :: s) = none) := by show _ = _; simp [recRd, hn]
      clear hn hl
      go_wp2_with (first
            | (refine wpList_bput (by rfl) _ _ 3 (by rfl) (w.heap.size + 1) 64 _ (by rfl) _ (.int .i64 _) (by rfl) hF (by kernel_rfl) (by simp) (by rfl) (by rfl) ?_; intro w9 hF9 hU9; replace hF := hF9; replace hR := hR.upd hU9 (by omega); replace hL := hL.upd hU9 (by omega); replace hB2 := hU9.below hB2 (by omega); clear hF9 hU9; dsimp only [List.set] at hF)
            | (refine wpList_bput (by rfl) _ _ 9 (by rfl) (w.heap.size + 1) 64 _ (by rfl) _ (.string _) (by rfl) hF (by kernel_rfl) (by simp) (by rfl) (by rfl) ?_; intro w9 hF9 hU9; replace hF := hF9; replace hR := hR.upd hU9 (by omega); replace hL := hL.upd hU9 (by omega); replace hB2 := hU9.below hB2 (by omega); clear hF9 hU9; dsimp only [List.set] at hF)
            | (refine wpList_bput (by rfl) _ _ 4 (by rfl) (w.heap.size + 1) 64 _ (by rfl) _ (.bool _) (by rfl) hF (by kernel_rfl) (by simp) (by rfl) (by rfl) ?_; intro w9 hF9 hU9; replace hF := hF9; replace hR := hR.upd hU9 (by omega); replace hL := hL.upd hU9 (by omega); replace hB2 := hU9.below hB2 (by omega); clear hF9 hU9; dsimp only [List.set] at hF)
            | (refine wpList_bload (by rfl) _ _ (by rfl) (w.heap.size + 1) 64 (by rfl) _ hF _ Tryz.underlying64 (by rfl) 9 (by rfl) (by kernel_rfl) ?_)
            | (refine wpList_bstore (by rfl) _ _ _ (by rfl) w.heap.size 64 (by rfl) _ _ (by rfl) hR 9 (by rfl) (by kernel_rfl) (by rfl) (by intro x hx; simp at hx; rcases hx with rfl | rfl | rfl | rfl | rfl | rfl | rfl | rfl | rfl <;> rfl) ?_; intro w9 hR9 hU9; replace hR := hR9; replace hF := hF.upd hU9 (by omega); replace hB2 := hU9.below hB2 (by omega); clear hR9 hU9)
            | (refine wpList_bget (by rfl) 3 _ (by rfl) (w.heap.size + 1) 64 _ (by rfl) _ hF _ (by rfl) _ Tryz.underlying3 (by rfl) ?_)
            | (refine wpList_bget (by rfl) 3 _ (by rfl) g 3 _ (by rfl) _ hL _ (by rfl) _ Tryz.underlying3 (by rfl) ?_))
      exact bodyPost_ret (v := .tuple #[fdV (fdClock ⟨q, u⟩), .bool false]) (results_box2 (by rfl) _ _ w.heap.size 64 _ _ _ (by rfl) hR (by rfl) Tryz.underlying64 (by rfl) 9 (by rfl) (by kernel_rfl)) rfl ⟨⟨_, false, rfl, HN.out⟩, hB2⟩

end Go.Proofs.YtdjpkgaicmklmaaGreat

/- Records read back: the reference's record, walked (cards). -/
namespace Go.Proofs.YtdjpkgaicmklmaaGreat
open Go.RowKit

set_option maxRecDepth 100000 in
set_option maxHeartbeats 4000000 in
theorem rec_card (s : List UInt8) (w : World) (hs : s.length ≤ 9223372036854775806) :
    Calls Tryz.prog 64 #[.string (str (2 :: s))] w fun e w' => RecAns (2 :: s) e ∧ Below w.heap.size w w' := by
  have h0 : 0 < (str (2 :: s)).size := by rw [str_size]; simp
  have hx : (str (2 :: s)).extract 1 (str (2 :: s)).size = str s := by rw [str_extract, str_size]; simp
  have hne : (str (2 :: s)).toList.isEmpty = false := by rw [str_toList]; rfl
  have hk : wrap64 (((str (2 :: s))[0]'h0).toNat : Int) = 2 := by
    have e : ((str (2 :: s))[0]'h0).toNat = 2 := rfl
    rw [e]; unfold wrap64; omega
  have hle : (1 : Int) ≤ ((str (2 :: s)).size : Int) := by omega
  go_enter Tryz.func64, Tryz.ntmps64
  go_wp2_with fail
  obtain ⟨hR, hF, hW, hB⟩ := two_boxes w 64 64 fd0.cells.toArray #[.int .i64 0, .int .i64 2, .int .i64 0, .int .i64 0, .int .i64 0, .int .i64 0, .int .i64 0, .bool false, .string ⟨#[]⟩]
  refine (rnums_any s 3 _ (by omega) (by omega)).mono ?_
  rintro e w2 ⟨hA, hb2⟩
  replace hF := hF.below hb2 hF.lt
  replace hR := hR.below hb2 hR.lt
  have hB2 : Below w.heap.size w w2 := hB.trans (hb2.mono (Nat.le_trans (by omega : w.heap.size ≤ w.heap.size + 2) (Nat.le_of_eq hW.symm)))
  clear hB hx hne hk hle
  unfold NumsAns at hA
  cases hn : numsRd 3 s with
  | none =>
    rw [hn] at hA
    obtain rfl := hA
    have HN : Hid (recRd (2 :: s) = none) := by show _ = _; simp [recRd, hn]
    clear hn
    go_wp2_with (first
      | (refine wpList_bput (by rfl) _ _ 3 (by rfl) (w.heap.size + 1) 64 _ (by rfl) _ (.int .i64 _) (by rfl) hF (by kernel_rfl) (by simp) (by rfl) (by rfl) ?_; intro w9 hF9 hU9; replace hF := hF9; replace hR := hR.upd hU9 (by omega); replace hB2 := hU9.below hB2 (by omega); clear hF9 hU9; dsimp only [List.set] at hF)
      | (refine wpList_bput (by rfl) _ _ 9 (by rfl) (w.heap.size + 1) 64 _ (by rfl) _ (.string _) (by rfl) hF (by kernel_rfl) (by simp) (by rfl) (by rfl) ?_; intro w9 hF9 hU9; replace hF := hF9; replace hR := hR.upd hU9 (by omega); replace hB2 := hU9.below hB2 (by omega); clear hF9 hU9; dsimp only [List.set] at hF)
      | (refine wpList_bput (by rfl) _ _ 4 (by rfl) (w.heap.size + 1) 64 _ (by rfl) _ (.bool _) (by rfl) hF (by kernel_rfl) (by simp) (by rfl) (by rfl) ?_; intro w9 hF9 hU9; replace hF := hF9; replace hR := hR.upd hU9 (by omega); replace hB2 := hU9.below hB2 (by omega); clear hF9 hU9; dsimp only [List.set] at hF)
      | (refine wpList_bload (by rfl) _ _ (by rfl) (w.heap.size + 1) 64 (by rfl) _ hF _ Tryz.underlying64 (by rfl) 9 (by rfl) (by kernel_rfl) ?_)
      | (refine wpList_bstore (by rfl) _ _ _ (by rfl) w.heap.size 64 (by rfl) _ _ (by rfl) hR 9 (by rfl) (by kernel_rfl) (by rfl) (by intro x hx; simp at hx; rcases hx with rfl | rfl | rfl | rfl | rfl | rfl | rfl | rfl | rfl <;> rfl) ?_; intro w9 hR9 hU9; replace hR := hR9; replace hF := hF.upd hU9 (by omega); replace hB2 := hU9.below hB2 (by omega); clear hR9 hU9)
      | (refine wpList_bget (by rfl) 3 _ (by rfl) (w.heap.size + 1) 64 _ (by rfl) _ hF _ (by rfl) _ Tryz.underlying3 (by rfl) ?_))
    exact bodyPost_ret (v := .tuple #[fdV (fdK 2), .bool false]) (results_box2 (by rfl) _ _ w.heap.size 64 _ _ _ (by rfl) hR (by rfl) Tryz.underlying64 (by rfl) 9 (by rfl) (by kernel_rfl)) rfl ⟨⟨_, false, rfl, HN.out⟩, hB2⟩
  | some p =>
    obtain ⟨l, r⟩ := p
    rw [hn] at hA
    obtain ⟨ad, cap, rfl, hv⟩ := hA
    replace hv := hv.mono (show w.heap.size + 2 ≤ _ from Nat.le_of_eq hW.symm)
    have hl := (numsRd_length 3 s hn).1
    have hrl := (numsRd_length 3 s hn).2
    have hvl := hv.length
    obtain ⟨g, sp, rfl, hg, hgl, hL⟩ := hv.bx (by omega)
    clear hv hvl
    obtain ⟨q, u, d, rfl⟩ : ∃ q u d, l = [q, u, d] := by match l, hl with | [q, u, d], _ => exact ⟨q, u, d, rfl⟩
    cases r with
    | nil =>
      have hre : (str []).toList.isEmpty = true := by rw [str_toList]; rfl
      have HN : Hid (recRd (2 :: s) = none) := by show _ = _; simp [recRd, hn]
      clear hn hl
      go_wp2_with (first
            | (refine wpList_bput (by rfl) _ _ 3 (by rfl) (w.heap.size + 1) 64 _ (by rfl) _ (.int .i64 _) (by rfl) hF (by kernel_rfl) (by simp) (by rfl) (by rfl) ?_; intro w9 hF9 hU9; replace hF := hF9; replace hR := hR.upd hU9 (by omega); replace hL := hL.upd hU9 (by omega); replace hB2 := hU9.below hB2 (by omega); clear hF9 hU9; dsimp only [List.set] at hF)
            | (refine wpList_bput (by rfl) _ _ 9 (by rfl) (w.heap.size + 1) 64 _ (by rfl) _ (.string _) (by rfl) hF (by kernel_rfl) (by simp) (by rfl) (by rfl) ?_; intro w9 hF9 hU9; replace hF := hF9; replace hR := hR.upd hU9 (by omega); replace hL := hL.upd hU9 (by omega); replace hB2 := hU9.below hB2 (by omega); clear hF9 hU9; dsimp only [List.set] at hF)
            | (refine wpList_bput (by rfl) _ _ 4 (by rfl) (w.heap.size + 1) 64 _ (by rfl) _ (.bool _) (by rfl) hF (by kernel_rfl) (by simp) (by rfl) (by rfl) ?_; intro w9 hF9 hU9; replace hF := hF9; replace hR := hR.upd hU9 (by omega); replace hL := hL.upd hU9 (by omega); replace hB2 := hU9.below hB2 (by omega); clear hF9 hU9; dsimp only [List.set] at hF)
            | (refine wpList_bload (by rfl) _ _ (by rfl) (w.heap.size + 1) 64 (by rfl) _ hF _ Tryz.underlying64 (by rfl) 9 (by rfl) (by kernel_rfl) ?_)
            | (refine wpList_bstore (by rfl) _ _ _ (by rfl) w.heap.size 64 (by rfl) _ _ (by rfl) hR 9 (by rfl) (by kernel_rfl) (by rfl) (by intro x hx; simp at hx; rcases hx with rfl | rfl | rfl | rfl | rfl | rfl | rfl | rfl | rfl <;> rfl) ?_; intro w9 hR9 hU9; replace hR := hR9; replace hF := hF.upd hU9 (by omega); replace hB2 := hU9.below hB2 (by omega); clear hR9 hU9)
            | (refine wpList_bget (by rfl) 3 _ (by rfl) (w.heap.size + 1) 64 _ (by rfl) _ hF _ (by rfl) _ Tryz.underlying3 (by rfl) ?_)
            | (refine wpList_bget (by rfl) 3 _ (by rfl) g 3 _ (by rfl) _ hL _ (by rfl) _ Tryz.underlying3 (by rfl) ?_))
      exact bodyPost_ret (v := .tuple #[fdV (⟨0, 2, 0, 0, q, u, d, false, ⟨#[]⟩⟩), .bool false]) (results_box2 (by rfl) _ _ w.heap.size 64 _ _ _ (by rfl) hR (by rfl) Tryz.underlying64 (by rfl) 9 (by rfl) (by kernel_rfl)) rfl ⟨⟨_, false, rfl, HN.out⟩, hB2⟩

    | cons c t =>
      have hre : (str (c :: t)).toList.isEmpty = false := by rw [str_toList]; rfl
      have hr0 : 0 < (str (c :: t)).size := by rw [str_size]; simp
      have hrx : (str (c :: t)).extract 1 (str (c :: t)).size = str t := by rw [str_extract, str_size]; simp
      have hrl2 : (1 : Int) ≤ ((str (c :: t)).size : Int) := by omega
      by_cases hc : c.toNat ≤ 1
      · by_cases hc0 : c = 0
        · subst hc0
          have hk : ((str (0 :: t))[0]'hr0).toNat = 0 := rfl
          have HN : Hid (recRd (2 :: s) = some (fdCard ⟨q, u, d, false, str t⟩)) := by show _ = _; simp [recRd, hn]
          clear hn hl
          go_wp2_with (first
                | (refine wpList_bput (by rfl) _ _ 3 (by rfl) (w.heap.size + 1) 64 _ (by rfl) _ (.int .i64 _) (by rfl) hF (by kernel_rfl) (by simp) (by rfl) (by rfl) ?_; intro w9 hF9 hU9; replace hF := hF9; replace hR := hR.upd hU9 (by omega); replace hL := hL.upd hU9 (by omega); replace hB2 := hU9.below hB2 (by omega); clear hF9 hU9; dsimp only [List.set] at hF)
                | (refine wpList_bput (by rfl) _ _ 9 (by rfl) (w.heap.size + 1) 64 _ (by rfl) _ (.string _) (by rfl) hF (by kernel_rfl) (by simp) (by rfl) (by rfl) ?_; intro w9 hF9 hU9; replace hF := hF9; replace hR := hR.upd hU9 (by omega); replace hL := hL.upd hU9 (by omega); replace hB2 := hU9.below hB2 (by omega); clear hF9 hU9; dsimp only [List.set] at hF)
                | (refine wpList_bput (by rfl) _ _ 4 (by rfl) (w.heap.size + 1) 64 _ (by rfl) _ (.bool _) (by rfl) hF (by kernel_rfl) (by simp) (by rfl) (by rfl) ?_; intro w9 hF9 hU9; replace hF := hF9; replace hR := hR.upd hU9 (by omega); replace hL := hL.upd hU9 (by omega); replace hB2 := hU9.below hB2 (by omega); clear hF9 hU9; dsimp only [List.set] at hF)
                | (refine wpList_bload (by rfl) _ _ (by rfl) (w.heap.size + 1) 64 (by rfl) _ hF _ Tryz.underlying64 (by rfl) 9 (by rfl) (by kernel_rfl) ?_)
                | (refine wpList_bstore (by rfl) _ _ _ (by rfl) w.heap.size 64 (by rfl) _ _ (by rfl) hR 9 (by rfl) (by kernel_rfl) (by rfl) (by intro x hx; simp at hx; rcases hx with rfl | rfl | rfl | rfl | rfl | rfl | rfl | rfl | rfl <;> rfl) ?_; intro w9 hR9 hU9; replace hR := hR9; replace hF := hF.upd hU9 (by omega); replace hB2 := hU9.below hB2 (by omega); clear hR9 hU9)
                | (refine wpList_bget (by rfl) 3 _ (by rfl) (w.heap.size + 1) 64 _ (by rfl) _ hF _ (by rfl) _ Tryz.underlying3 (by rfl) ?_)
                | (refine wpList_bget (by rfl) 3 _ (by rfl) g 3 _ (by rfl) _ hL _ (by rfl) _ Tryz.underlying3 (by rfl) ?_))
          exact bodyPost_ret (v := .tuple #[fdV (fdCard ⟨q, u, d, false, str t⟩), .bool true]) (results_box2 (by rfl) _ _ w.heap.size 64 _ _ _ (by rfl) hR (by rfl) Tryz.underlying64 (by rfl) 9 (by rfl) (by kernel_rfl)) rfl ⟨⟨_, true, rfl, HN.out⟩, hB2⟩

        · have hc1 : c = 1 := by have : c.toNat ≠ 0 := fun h => hc0 (UInt8.toNat_inj.1 h); exact UInt8.toNat_inj.1 (by show c.toNat = 1; omega)
          subst hc1
          have hk : ((str (1 :: t))[0]'hr0).toNat = 1 := rfl
          have HN : Hid (recRd (2 :: s) = some (fdCard ⟨q, u, d, true, str t⟩)) := by show _ = _; simp [recRd, hn]
          clear hn hl
          go_wp2_with (first
                | (refine wpList_bput (by rfl) _ _ 3 (by rfl) (w.heap.size + 1) 64 _ (by rfl) _ (.int .i64 _) (by rfl) hF (by kernel_rfl) (by simp) (by rfl) (by rfl) ?_; intro w9 hF9 hU9; replace hF := hF9; replace hR := hR.upd hU9 (by omega); replace hL := hL.upd hU9 (by omega); replace hB2 := hU9.below hB2 (by omega); clear hF9 hU9; dsimp only [List.set] at hF)
                | (refine wpList_bput (by rfl) _ _ 9 (by rfl) (w.heap.size + 1) 64 _ (by rfl) _ (.string _) (by rfl) hF (by kernel_rfl) (by simp) (by rfl) (by rfl) ?_; intro w9 hF9 hU9; replace hF := hF9; replace hR := hR.upd hU9 (by omega); replace hL := hL.upd hU9 (by omega); replace hB2 := hU9.below hB2 (by omega); clear hF9 hU9; dsimp only [List.set] at hF)
                | (refine wpList_bput (by rfl) _ _ 4 (by rfl) (w.heap.size + 1) 64 _ (by rfl) _ (.bool _) (by rfl) hF (by kernel_rfl) (by simp) (by rfl) (by rfl) ?_; intro w9 hF9 hU9; replace hF := hF9; replace hR := hR.upd hU9 (by omega); replace hL := hL.upd hU9 (by omega); replace hB2 := hU9.below hB2 (by omega); clear hF9 hU9; dsimp only [List.set] at hF)
                | (refine wpList_bload (by rfl) _ _ (by rfl) (w.heap.size + 1) 64 (by rfl) _ hF _ Tryz.underlying64 (by rfl) 9 (by rfl) (by kernel_rfl) ?_)
                | (refine wpList_bstore (by rfl) _ _ _ (by rfl) w.heap.size 64 (by rfl) _ _ (by rfl) hR 9 (by rfl) (by kernel_rfl) (by rfl) (by intro x hx; simp at hx; rcases hx with rfl | rfl | rfl | rfl | rfl | rfl | rfl | rfl | rfl <;> rfl) ?_; intro w9 hR9 hU9; replace hR := hR9; replace hF := hF.upd hU9 (by omega); replace hB2 := hU9.below hB2 (by omega); clear hR9 hU9)
                | (refine wpList_bget (by rfl) 3 _ (by rfl) (w.heap.size + 1) 64 _ (by rfl) _ hF _ (by rfl) _ Tryz.underlying3 (by rfl) ?_)
                | (refine wpList_bget (by rfl) 3 _ (by rfl) g 3 _ (by rfl) _ hL _ (by rfl) _ Tryz.underlying3 (by rfl) ?_))
          exact bodyPost_ret (v := .tuple #[fdV (fdCard ⟨q, u, d, true, str t⟩), .bool true]) (results_box2 (by rfl) _ _ w.heap.size 64 _ _ _ (by rfl) hR (by rfl) Tryz.underlying64 (by rfl) 9 (by rfl) (by kernel_rfl)) rfl ⟨⟨_, true, rfl, HN.out⟩, hB2⟩

      · have hk : 1 < ((str (c :: t))[0]'hr0).toNat := by have e : ((str (c :: t))[0]'hr0).toNat = c.toNat := rfl; omega
        have HN : Hid (recRd (2 :: s) = none) := by show _ = _; simp only [recRd, hn]; simp [hc]
        clear hn hl
        go_wp2_with (first
              | (refine wpList_bput (by rfl) _ _ 3 (by rfl) (w.heap.size + 1) 64 _ (by rfl) _ (.int .i64 _) (by rfl) hF (by kernel_rfl) (by simp) (by rfl) (by rfl) ?_; intro w9 hF9 hU9; replace hF := hF9; replace hR := hR.upd hU9 (by omega); replace hL := hL.upd hU9 (by omega); replace hB2 := hU9.below hB2 (by omega); clear hF9 hU9; dsimp only [List.set] at hF)
              | (refine wpList_bput (by rfl) _ _ 9 (by rfl) (w.heap.size + 1) 64 _ (by rfl) _ (.string _) (by rfl) hF (by kernel_rfl) (by simp) (by rfl) (by rfl) ?_; intro w9 hF9 hU9; replace hF := hF9; replace hR := hR.upd hU9 (by omega); replace hL := hL.upd hU9 (by omega); replace hB2 := hU9.below hB2 (by omega); clear hF9 hU9; dsimp only [List.set] at hF)
              | (refine wpList_bput (by rfl) _ _ 4 (by rfl) (w.heap.size + 1) 64 _ (by rfl) _ (.bool _) (by rfl) hF (by kernel_rfl) (by simp) (by rfl) (by rfl) ?_; intro w9 hF9 hU9; replace hF := hF9; replace hR := hR.upd hU9 (by omega); replace hL := hL.upd hU9 (by omega); replace hB2 := hU9.below hB2 (by omega); clear hF9 hU9; dsimp only [List.set] at hF)
              | (refine wpList_bload (by rfl) _ _ (by rfl) (w.heap.size + 1) 64 (by rfl) _ hF _ Tryz.underlying64 (by rfl) 9 (by rfl) (by kernel_rfl) ?_)
              | (refine wpList_bstore (by rfl) _ _ _ (by rfl) w.heap.size 64 (by rfl) _ _ (by rfl) hR 9 (by rfl) (by kernel_rfl) (by rfl) (by intro x hx; simp at hx; rcases hx with rfl | rfl | rfl | rfl | rfl | rfl | rfl | rfl | rfl <;> rfl) ?_; intro w9 hR9 hU9; replace hR := hR9; replace hF := hF.upd hU9 (by omega); replace hB2 := hU9.below hB2 (by omega); clear hR9 hU9)
              | (refine wpList_bget (by rfl) 3 _ (by rfl) (w.heap.size + 1) 64 _ (by rfl) _ hF _ (by rfl) _ Tryz.underlying3 (by rfl) ?_)
              | (refine wpList_bget (by rfl) 3 _ (by rfl) g 3 _ (by rfl) _ hL _ (by rfl) _ Tryz.underlying3 (by rfl) ?_))
        exact bodyPost_ret (v := .tuple #[fdV (⟨0, 2, 0, 0, q, u, d, false, ⟨#[]⟩⟩), .bool false]) (results_box2 (by rfl) _ _ w.heap.size 64 _ _ _ (by rfl) hR (by rfl) Tryz.underlying64 (by rfl) 9 (by rfl) (by kernel_rfl)) rfl ⟨⟨_, false, rfl, HN.out⟩, hB2⟩

end Go.Proofs.YtdjpkgaicmklmaaGreat

/- Records read back: the reference's record, walked (the rest). -/
namespace Go.Proofs.YtdjpkgaicmklmaaGreat
open Go.RowKit

set_option maxRecDepth 100000 in
set_option maxHeartbeats 4000000 in
theorem rec_nil (w : World) : Calls Tryz.prog 64 #[.string (str [])] w fun e w' => RecAns [] e ∧ Below w.heap.size w w' := by
  have hne : (str []).toList.isEmpty = true := by rw [str_toList]; rfl
  obtain ⟨hR, hF, hW, hB⟩ := two_boxes w 64 64 fd0.cells.toArray fd0.cells.toArray
  go_enter Tryz.func64, Tryz.ntmps64
  go_wp2_with (first
      | (refine wpList_bput (by rfl) _ _ 3 (by rfl) (w.heap.size + 1) 64 _ (by rfl) _ (.int .i64 _) (by rfl) hF (by kernel_rfl) (by simp) (by rfl) (by rfl) ?_; intro w9 hF9 hU9; replace hF := hF9; replace hR := hR.upd hU9 (by omega); replace hB := hU9.below hB (by omega); clear hF9 hU9; dsimp only [List.set] at hF)
      | (refine wpList_bput (by rfl) _ _ 9 (by rfl) (w.heap.size + 1) 64 _ (by rfl) _ (.string _) (by rfl) hF (by kernel_rfl) (by simp) (by rfl) (by rfl) ?_; intro w9 hF9 hU9; replace hF := hF9; replace hR := hR.upd hU9 (by omega); replace hB := hU9.below hB (by omega); clear hF9 hU9; dsimp only [List.set] at hF)
      | (refine wpList_bput (by rfl) _ _ 4 (by rfl) (w.heap.size + 1) 64 _ (by rfl) _ (.bool _) (by rfl) hF (by kernel_rfl) (by simp) (by rfl) (by rfl) ?_; intro w9 hF9 hU9; replace hF := hF9; replace hR := hR.upd hU9 (by omega); replace hB := hU9.below hB (by omega); clear hF9 hU9; dsimp only [List.set] at hF)
      | (refine wpList_bload (by rfl) _ _ (by rfl) (w.heap.size + 1) 64 (by rfl) _ hF _ Tryz.underlying64 (by rfl) 9 (by rfl) (by kernel_rfl) ?_)
      | (refine wpList_bstore (by rfl) _ _ _ (by rfl) w.heap.size 64 (by rfl) _ _ (by rfl) hR 9 (by rfl) (by kernel_rfl) (by rfl) (by intro x hx; simp at hx; rcases hx with rfl | rfl | rfl | rfl | rfl | rfl | rfl | rfl | rfl <;> rfl) ?_; intro w9 hR9 hU9; replace hR := hR9; replace hF := hF.upd hU9 (by omega); replace hB := hU9.below hB (by omega); clear hR9 hU9)
      | (refine wpList_bget (by rfl) 3 _ (by rfl) (w.heap.size + 1) 64 _ (by rfl) _ hF _ (by rfl) _ Tryz.underlying3 (by rfl) ?_))
  exact bodyPost_ret (v := .tuple #[fdV (fd0), .bool false]) (results_box2 (by rfl) _ _ w.heap.size 64 _ _ _ (by rfl) hR (by rfl) Tryz.underlying64 (by rfl) 9 (by rfl) (by kernel_rfl)) rfl ⟨⟨_, false, rfl, rfl⟩, hB⟩

set_option maxRecDepth 100000 in
set_option maxHeartbeats 4000000 in
theorem rec_none (c : UInt8) (s : List UInt8) (w : World) (h1 : c ≠ 1) (h2 : c ≠ 2) (h3 : c ≠ 3) (h4 : c ≠ 4) (_hs : s.length ≤ 9223372036854775806) :
    Calls Tryz.prog 64 #[.string (str (c :: s))] w fun e w' => RecAns (c :: s) e ∧ Below w.heap.size w w' := by
  have h0 : 0 < (str (c :: s)).size := by rw [str_size]; simp
  have hx : (str (c :: s)).extract 1 (str (c :: s)).size = str s := by rw [str_extract, str_size]; simp
  have hne : (str (c :: s)).toList.isEmpty = false := by rw [str_toList]; rfl
  have hcl := c.toNat_lt
  have hk : wrap64 (((str (c :: s))[0]'h0).toNat : Int) = (c.toNat : Int) := by
    have e : ((str (c :: s))[0]'h0).toNat = c.toNat := rfl
    rw [e]; unfold wrap64; omega
  have ne (n : Nat) (d : UInt8) (hd : d.toNat = n) (h : c ≠ d) : ((c.toNat : Int) == (n : Int)) = false := by
    rw [beq_eq_false_iff_ne]; intro e; exact h (UInt8.toNat_inj.1 (by omega))
  have n1 : ((c.toNat : Int) == 1) = false := ne 1 1 rfl h1
  have n2 : ((c.toNat : Int) == 2) = false := ne 2 2 rfl h2
  have n3 : ((c.toNat : Int) == 3) = false := ne 3 3 rfl h3
  have n4 : ((c.toNat : Int) == 4) = false := ne 4 4 rfl h4
  have hle : (1 : Int) ≤ ((str (c :: s)).size : Int) := by omega
  have HN : Hid (recRd (c :: s) = none) := by show _ = _; simp [recRd, h1, h2, h3, h4]
  obtain ⟨hR, hF, hW, hB⟩ := two_boxes w 64 64 fd0.cells.toArray #[.int .i64 0, .int .i64 (c.toNat : Int), .int .i64 0, .int .i64 0, .int .i64 0, .int .i64 0, .int .i64 0, .bool false, .string ⟨#[]⟩]
  clear h1 h2 h3 h4 ne
  go_enter Tryz.func64, Tryz.ntmps64
  go_wp2_with (first
      | (refine wpList_bput (by rfl) _ _ 3 (by rfl) (w.heap.size + 1) 64 _ (by rfl) _ (.int .i64 _) (by rfl) hF (by kernel_rfl) (by simp) (by rfl) (by rfl) ?_; intro w9 hF9 hU9; replace hF := hF9; replace hR := hR.upd hU9 (by omega); replace hB := hU9.below hB (by omega); clear hF9 hU9; dsimp only [List.set] at hF)
      | (refine wpList_bput (by rfl) _ _ 9 (by rfl) (w.heap.size + 1) 64 _ (by rfl) _ (.string _) (by rfl) hF (by kernel_rfl) (by simp) (by rfl) (by rfl) ?_; intro w9 hF9 hU9; replace hF := hF9; replace hR := hR.upd hU9 (by omega); replace hB := hU9.below hB (by omega); clear hF9 hU9; dsimp only [List.set] at hF)
      | (refine wpList_bput (by rfl) _ _ 4 (by rfl) (w.heap.size + 1) 64 _ (by rfl) _ (.bool _) (by rfl) hF (by kernel_rfl) (by simp) (by rfl) (by rfl) ?_; intro w9 hF9 hU9; replace hF := hF9; replace hR := hR.upd hU9 (by omega); replace hB := hU9.below hB (by omega); clear hF9 hU9; dsimp only [List.set] at hF)
      | (refine wpList_bload (by rfl) _ _ (by rfl) (w.heap.size + 1) 64 (by rfl) _ hF _ Tryz.underlying64 (by rfl) 9 (by rfl) (by kernel_rfl) ?_)
      | (refine wpList_bstore (by rfl) _ _ _ (by rfl) w.heap.size 64 (by rfl) _ _ (by rfl) hR 9 (by rfl) (by kernel_rfl) (by rfl) (by intro x hx; simp at hx; rcases hx with rfl | rfl | rfl | rfl | rfl | rfl | rfl | rfl | rfl <;> rfl) ?_; intro w9 hR9 hU9; replace hR := hR9; replace hF := hF.upd hU9 (by omega); replace hB := hU9.below hB (by omega); clear hR9 hU9)
      | (refine wpList_bget (by rfl) 3 _ (by rfl) (w.heap.size + 1) 64 _ (by rfl) _ hF _ (by rfl) _ Tryz.underlying3 (by rfl) ?_))
  exact bodyPost_ret (v := .tuple #[fdV (fdK c.toNat), .bool false]) (results_box2 (by rfl) _ _ w.heap.size 64 _ _ _ (by rfl) hR (by rfl) Tryz.underlying64 (by rfl) 9 (by rfl) (by kernel_rfl)) rfl ⟨⟨_, false, rfl, HN.out⟩, hB⟩

theorem rrecord_any (s : List UInt8) (w : World) (hs : s.length ≤ 9223372036854775806) :
    Calls Tryz.prog 64 #[.string (str s)] w fun e w' => RecAns s e ∧ Below w.heap.size w w' := by
  match s, hs with
  | [], _ => exact rec_nil w
  | c :: s, hs =>
    have hs' : s.length ≤ 9223372036854775806 := by simp at hs; omega
    by_cases h1 : c = 1
    · subst h1; exact rec_clock s w hs'
    · by_cases h2 : c = 2
      · subst h2; exact rec_card s w hs'
      · by_cases h3 : c = 3
        · subst h3; exact rec_edit s w hs'
        · by_cases h4 : c = 4
          · subst h4; exact rec_head s w hs'
          · exact rec_none c s w h1 h2 h3 h4 hs'
end Go.Proofs.YtdjpkgaicmklmaaGreat

/- Frames read back: the reference's stands, walked. -/
namespace Go.Proofs.YtdjpkgaicmklmaaGreat
open Go.RowKit

/-- The frame with which bytes begin: its record, and how many bytes it has. -/
def standRd : List UInt8 → Option (Fd × Nat)
  | x :: y :: k :: t => if x = 245 ∧ y = 95 then
      if k.toNat = 0 ∨ t.length < k.toNat + 4 then none
      else if fourI (crc pSum (k :: t.take k.toNat)) = (t.drop k.toNat).take 4 then (recRd (t.take k.toNat)).map fun f => (f, k.toNat + 7) else none
    else none
  | _ => none
def Fd.putI (f : Fd) (a : Int) : Fd := { f with at_ := a }
/-- What stands answers at a place. -/
def standV (a : Int) (x : Option (Fd × Nat)) : Value := match x with
  | some (f, n) => .tuple #[fdV (f.putI a), .int .i64 (n : Nat)]
  | none => .tuple #[fdV fd0, .int .i64 0]


theorem standRd_short (s : List UInt8) (h : s.length < 8) : standRd s = none := by
  match s, h with
  | [], _ | [_], _ | [_, _], _ => rfl
  | x :: y :: k :: t, h =>
    simp only [standRd]
    split
    · split
      · rfl
      · rename_i h2; simp at h; omega
    · rfl

set_option maxRecDepth 100000 in
set_option maxHeartbeats 4000000 in
theorem rstands_any (b : List UInt8) (i : Nat) (w : World) (hb : b.length ≤ 1099511627776) (hi : i ≤ b.length) :
    Calls Tryz.prog 34 #[.string (str b), .int .i64 i] w fun e w' => e = .returned (standV i (standRd (b.drop i))) ∧ Below w.heap.size w w' := by
  have hz := str_size b
  have HZ : Hid ((str b).size = b.length) := hz
  obtain ⟨hR, hW, hB⟩ := one_box w 64 fd0.cells.toArray
  have hib : i ≤ (str b).size := by omega
  have hbb : (str b).size ≤ 1099511627776 := by omega
  by_cases h8 : (str b).size < i + 8
  · have HN : Hid (standRd (b.drop i) = none) := standRd_short _ (by simp; omega)
    clear hz
    go_enter Tryz.func34, Tryz.ntmps34
    go_wp2_with fail
    exact bodyPost_ret (v := .tuple #[fdV fd0, .int .i64 0]) (results_box2 (by rfl) _ _ w.heap.size 64 _ _ _ (by rfl) hR (by rfl) Tryz.underlying64 (by rfl) 9 (by rfl) (by kernel_rfl)) rfl ⟨by rw [HN.out]; rfl, hB⟩
  · obtain ⟨x, y, k, t, hd, ht⟩ : ∃ x y k t, b.drop i = x :: y :: k :: t ∧ t.length + 3 + i = b.length := by
      have hl : (b.drop i).length = b.length - i := by simp
      match hh : b.drop i with
      | [] | [_] | [_, _] => rw [hh] at hl; simp at hl; omega
      | x :: y :: k :: t => exact ⟨x, y, k, t, rfl, by rw [hh] at hl; simp at hl; omega⟩
    have l0 : i < (str b).size := by omega
    have l1 : i + 1 < (str b).size := by omega
    have l2 : i + 2 < (str b).size := by omega
    have at_ (j : Nat) (h : i + j < (str b).size) (v : UInt8) (hv : (b.drop i)[j]? = some v) : ((str b)[i + j]'h) = v := by
      rw [List.getElem?_drop] at hv
      exact (List.getElem?_eq_some_iff.1 hv).2
    have ex : ((str b)[i]'l0) = x := at_ 0 l0 x (by rw [hd]; rfl)
    have ey : ((str b)[i + 1]'l1) = y := at_ 1 l1 y (by rw [hd]; rfl)
    have ek : ((str b)[i + 2]'l2) = k := at_ 2 l2 k (by rw [hd]; rfl)
    clear at_
    rw [hd]
    by_cases hx : x = 245
    · by_cases hy : y = 95
      · subst hx hy
        have hx' : ((str b)[i]'l0).toNat = 245 := by rw [ex]; rfl
        have hy' : ((str b)[i + 1]'l1).toNat = 95 := by rw [ey]; rfl
        have hkl := k.toNat_lt
        have hk' : wrap64 (((str b)[i + 2]'l2).toNat : Int) = (k.toNat : Int) := by rw [ek]; unfold wrap64; omega
        clear ex ey ek
        by_cases hk0 : k.toNat = 0
        · have hk0' : ((k.toNat : Int) == 0) = true := by simp [hk0]
          have HN : Hid (standRd (245 :: 95 :: k :: t) = none) := by show _ = _; simp [standRd, hk0]
          clear hz hd
          go_enter Tryz.func34, Tryz.ntmps34
          go_wp2_with fail
          exact bodyPost_ret (v := .tuple #[fdV fd0, .int .i64 0]) (results_box2 (by rfl) _ _ w.heap.size 64 _ _ _ (by rfl) hR (by rfl) Tryz.underlying64 (by rfl) 9 (by rfl) (by kernel_rfl)) rfl ⟨by rw [HN.out]; rfl, hB⟩
        · have hk0' : ((k.toNat : Int) == 0) = false := by simp; omega
          by_cases hn : (str b).size < i + k.toNat + 7
          · have HN : Hid (standRd (245 :: 95 :: k :: t) = none) := by show _ = _; simp only [standRd]; simp [show t.length < k.toNat + 4 by omega]
            clear hz hd
            go_enter Tryz.func34, Tryz.ntmps34
            go_wp2_with fail
            exact bodyPost_ret (v := .tuple #[fdV fd0, .int .i64 0]) (results_box2 (by rfl) _ _ w.heap.size 64 _ _ _ (by rfl) hR (by rfl) Tryz.underlying64 (by rfl) 9 (by rfl) (by kernel_rfl)) rfl ⟨by rw [HN.out]; rfl, hB⟩
          · have hdt (j : Nat) : b.drop (i + (j + 3)) = t.drop j := by rw [← List.drop_drop, hd]; rfl
            have x1 : (str b).extract (i + 3) (i + 3 + k.toNat) = str (t.take k.toNat) := by rw [str_extract, hdt 0]; simp
            have x2 : (str b).extract (i + 2) (i + 3 + k.toNat) = str (k :: t.take k.toNat) := by
              rw [str_extract, ← List.drop_drop, hd, show i + 3 + k.toNat - (i + 2) = k.toNat + 1 by omega]; rfl
            have x3 : (str b).extract (i + 3 + k.toNat) (i + 7 + k.toNat) = str ((t.drop k.toNat).take 4) := by
              rw [str_extract, show i + 3 + k.toNat = i + (k.toNat + 3) by omega, hdt, show i + 7 + k.toNat - (i + (k.toNat + 3)) = 4 by omega]
            have hlt : (k :: t.take k.toNat).length ≤ 8796093022208 := by simp; omega
            have hlr : (t.take k.toNat).length ≤ 9223372036854775806 := by simp; omega
            have hfl : ¬ (k.toNat = 0 ∨ t.length < k.toNat + 4) := by omega
            clear hz hd hdt
            go_enter Tryz.func34, Tryz.ntmps34
            go_wp2_with fail
            refine (rsum_any (k :: t.take k.toNat) _ hlt).mono ?_
            rintro e w1 ⟨rfl, hb1⟩
            replace hR := hR.below hb1 hR.lt
            replace hB := hB.trans (hb1.mono (Nat.le_of_lt hR.lt |> fun _ => Nat.le_trans (Nat.le_succ _) (Nat.le_of_eq hW.symm)))
            have hc := crc_lt (p := pSum) (by decide) (k :: t.take k.toNat)
            go_wp2_with fail
            refine (rfour_any _ _ (by omega) (by omega)).mono ?_
            rintro e w2 ⟨rfl, hb2⟩
            replace hR := hR.below hb2 hR.lt
            replace hB := hB.trans (hb2.mono (Nat.le_trans (Nat.le_refl _) hB.size))
            clear hb1 hb2
            by_cases hq : fourI (crc pSum (k :: t.take k.toNat)) = (t.drop k.toNat).take 4
            · have hqb : ((str (fourI (crc pSum (k :: t.take k.toNat)))).toList != (str ((t.drop k.toNat).take 4)).toList) = false := by rw [bne, str_beq, hq]; simp
              go_wp2_with fail
              refine (rrecord_any (t.take k.toNat) _ hlr).mono ?_
              rintro e w3 ⟨⟨f, o, rfl, hf⟩, hb3⟩
              replace hR := hR.below hb3 hR.lt
              replace hB := hB.trans (hb3.mono hB.size)
              cases o with
              | false =>
                have HN : Hid (standRd (245 :: 95 :: k :: t) = none) := by
                  show _ = _; simp only [standRd, if_neg hfl, if_pos hq]; rw [hf]; rfl
                clear hf hb3
                go_wp2_with (first
                  | (refine wpList_bstore (by rfl) _ _ _ (by rfl) w.heap.size 64 (by rfl) _ _ (by rfl) hR 9 (by rfl) (by kernel_rfl) (by rfl) (by intro x hx; simp at hx; rcases hx with rfl | rfl | rfl | rfl | rfl | rfl | rfl | rfl | rfl <;> rfl) ?_; intro w9 hR9 hU9; replace hR := hR9; replace hB := hU9.below hB (Nat.le_refl _); clear hR9 hU9)
                  | (refine wpList_bstore (by rfl) _ _ _ (by rfl) w.heap.size 64 (by rfl) _ _ (by rfl) (hR.alloc _) 9 (by rfl) (by kernel_rfl) (by rfl) (by intro x hx; simp at hx; rcases hx with rfl | rfl | rfl | rfl | rfl | rfl | rfl | rfl | rfl <;> rfl) ?_; intro w9 hR9 hU9; replace hR := hR9; replace hB := hU9.below (hB.alloc hB.size _) (Nat.le_refl _); clear hR9 hU9))
                exact bodyPost_ret (v := .tuple #[fdV fd0, .int .i64 0]) (results_box2 (by rfl) _ _ w.heap.size 64 _ _ _ (by rfl) hR (by rfl) Tryz.underlying64 (by rfl) 9 (by rfl) (by kernel_rfl)) rfl ⟨by rw [HN.out]; rfl, hB⟩
              | true =>
                have HN : Hid (standRd (245 :: 95 :: k :: t) = some (f, k.toNat + 7)) := by
                  show _ = _; simp only [standRd, if_neg hfl, if_pos hq]; rw [hf]; rfl
                clear hf hb3
                go_wp2_with (first
                  | (refine wpList_bstore (by rfl) _ _ _ (by rfl) w.heap.size 64 (by rfl) _ _ (by rfl) hR 9 (by rfl) (by kernel_rfl) (by rfl) (by intro x hx; simp at hx; rcases hx with rfl | rfl | rfl | rfl | rfl | rfl | rfl | rfl | rfl <;> rfl) ?_; intro w9 hR9 hU9; replace hR := hR9; replace hB := hU9.below hB (Nat.le_refl _); clear hR9 hU9)
                  | (refine wpList_bstore (by rfl) _ _ _ (by rfl) w.heap.size 64 (by rfl) _ _ (by rfl) (hR.alloc _) 9 (by rfl) (by kernel_rfl) (by rfl) (by intro x hx; simp at hx; rcases hx with rfl | rfl | rfl | rfl | rfl | rfl | rfl | rfl | rfl <;> rfl) ?_; intro w9 hR9 hU9; replace hR := hR9; replace hB := hU9.below (hB.alloc hB.size _) (Nat.le_refl _); clear hR9 hU9))
                exact bodyPost_ret (v := .tuple #[fdV (f.putI i), .int .i64 ((k.toNat + 7 : Nat) : Int)]) (results_box2 (by rfl) _ _ w.heap.size 64 _ _ _ (by rfl) hR (by rfl) Tryz.underlying64 (by rfl) 9 (by rfl) (by kernel_rfl)) rfl ⟨by rw [HN.out]; rfl, hB⟩
            · have hqb : ((str (fourI (crc pSum (k :: t.take k.toNat)))).toList != (str ((t.drop k.toNat).take 4)).toList) = true := by
                rw [bne, str_beq, Bool.not_eq_true', beq_eq_false_iff_ne]; exact hq
              have hqc : ((str (fourI (crc pSum (k :: t.take k.toNat)))).toList == (str ((t.drop k.toNat).take 4)).toList) = false := by
                rw [str_beq, beq_eq_false_iff_ne]; exact hq
              have HN : Hid (standRd (245 :: 95 :: k :: t) = none) := by
                show _ = _; simp only [standRd, if_neg hfl, if_neg hq]; rfl
              clear hq
              go_wp2_with (refine wpList_bstore (by rfl) _ _ _ (by rfl) w.heap.size 64 (by rfl) _ _ (by rfl) hR 9 (by rfl) (by kernel_rfl) (by rfl) (by intro x hx; simp at hx; rcases hx with rfl | rfl | rfl | rfl | rfl | rfl | rfl | rfl | rfl <;> rfl) ?_; intro w9 hR9 hU9; replace hR := hR9; replace hB := hU9.below hB (Nat.le_refl _); clear hR9 hU9)
              exact bodyPost_ret (v := .tuple #[fdV fd0, .int .i64 0]) (results_box2 (by rfl) _ _ w.heap.size 64 _ _ _ (by rfl) hR (by rfl) Tryz.underlying64 (by rfl) 9 (by rfl) (by kernel_rfl)) rfl ⟨by rw [HN.out]; rfl, hB⟩
      · have hx' : ((str b)[i]'l0).toNat = 245 := by rw [ex, hx]; rfl
        have hy' : ((((str b)[i + 1]'l1).toNat : Int) != 95) = true := by
          rw [bne_iff_ne, ey]; intro e; exact hy (UInt8.toNat_inj.1 (by show y.toNat = 95; omega))
        have HN : Hid (standRd (x :: y :: k :: t) = none) := by show _ = _; simp [standRd, hy]
        clear hz hd ex ey ek
        go_enter Tryz.func34, Tryz.ntmps34
        go_wp2_with fail
        exact bodyPost_ret (v := .tuple #[fdV fd0, .int .i64 0]) (results_box2 (by rfl) _ _ w.heap.size 64 _ _ _ (by rfl) hR (by rfl) Tryz.underlying64 (by rfl) 9 (by rfl) (by kernel_rfl)) rfl ⟨by rw [HN.out]; rfl, hB⟩
    · have hx' : ((((str b)[i]'l0).toNat : Int) != 245) = true := by
        rw [bne_iff_ne, ex]; intro e; exact hx (UInt8.toNat_inj.1 (by show x.toNat = 245; omega))
      have HN : Hid (standRd (x :: y :: k :: t) = none) := by show _ = _; simp [standRd, hx]
      clear hz hd ex ey ek
      go_enter Tryz.func34, Tryz.ntmps34
      go_wp2_with fail
      exact bodyPost_ret (v := .tuple #[fdV fd0, .int .i64 0]) (results_box2 (by rfl) _ _ w.heap.size 64 _ _ _ (by rfl) hR (by rfl) Tryz.underlying64 (by rfl) 9 (by rfl) (by kernel_rfl)) rfl ⟨by rw [HN.out]; rfl, hB⟩
end Go.Proofs.YtdjpkgaicmklmaaGreat

