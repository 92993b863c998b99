/- A record's bytes and a frame: the reference's written and Frame, walked. -/
import Derived.Test.YtmafnghokmcijaaT
import Derived.Test.YtmafnghokmcijaaP
import Derived.Deep.RegionHeld3
namespace Go.Proofs.Ytmafnghokmcijaa
open Go.RowKit
attribute [local go_sem] str_size str_append mk_append_str str_append_mk

abbrev BoxF (w : World) (f : Fd) (wr : World) : Prop := Below (w.heap.size + 1) (w.alloc (.cells f.cells.toArray 54)) wr
theorem SF {w : World} {f : Fd} {wr : World} (hb : BoxF w f wr) :
    wr.cell? ⟨w.heap.size, 1, none⟩ = some (.int .i64 f.kind) ∧ wr.cell? ⟨w.heap.size, 2, none⟩ = some (.int .i64 f.seq) ∧ wr.cell? ⟨w.heap.size, 3, none⟩ = some (.int .i64 f.base) ∧ wr.cell? ⟨w.heap.size, 4, none⟩ = some (.int .i64 f.id) ∧
    wr.cell? ⟨w.heap.size, 5, none⟩ = some (.int .i64 f.site) ∧ wr.cell? ⟨w.heap.size, 6, none⟩ = some (.int .i64 f.count) ∧ wr.cell? ⟨w.heap.size, 7, none⟩ = some (.bool f.gone) ∧ wr.cell? ⟨w.heap.size, 8, none⟩ = some (.string f.text) :=
  ⟨boxN hb 1, boxN hb 2, boxN hb 3, boxN hb 4, boxN hb 5, boxN hb 6, boxN hb 7, boxN hb 8⟩

theorem add_str {P : Program} (a b c : List UInt8) (hc : a ++ b = c) (h : c.length ≤ 9223372036854775807) (w : World) : (Op.stringOp .add (str a) (str b)).run P w = .ok (.string (str c)) w := by
  subst hc
  rw [← str_append]
  exact run_string_add_sum _ _ _ (by rw [str_size, str_size]; simpa using h)

set_option maxRecDepth 100000 in
set_option maxHeartbeats 4000000 in
theorem written_clock (c : Ck) (w : World) (h1 : Num c.site) (h2 : Num c.count) :
    Calls Try.prog 84 #[.agg (fdClock c).cells.toArray] w fun e w' => e = .returned (.string (str (recClock c))) ∧ Below w.heap.size w w' := by
  obtain ⟨p1, p2⟩ := h1
  obtain ⟨q1, q2⟩ := h2
  have l1 := numB_length c.site
  have l2 := numB_length c.count
  have E : Hid ((byt 1 :: (numB c.site ++ numB c.count)) = recClock c) := rfl
  have hb0 : BoxF w (fdClock c) (w.alloc (.cells (fdClock c).cells.toArray 54)) := Below.refl _ _
  have hbX : BoxF w (fdClock c) ((w.alloc (.cells (fdClock c).cells.toArray 54)).alloc (.cells #[.int .u8 1] 5)).drew := (hb0.alloc (by simp) _).drew
  have a1 := fun w' => add_str (P := Try.prog) [byt 1] (numB c.site) (byt 1 :: numB c.site) rfl (by simp; omega) w'
  have a2 := fun w' => add_str (P := Try.prog) (byt 1 :: numB c.site) (numB c.count) (byt 1 :: (numB c.site ++ numB c.count)) rfl (by simp; omega) w'
  unfold fdClock at *
  go_enter Try.func84, Try.ntmps84
  go_wp2_with (refine wpList_toString (by rfl) 110 9 5 _ (by rfl) Try.underlying110 Try.underlying5 Try.underlying9 _ _ _ (by rfl) [1] rfl ?_ ?_; exact new_cells2 _ _ _ _)
  go_region_held3 (fun w' => w'.cell? ⟨w.heap.size, 5, none⟩ = some (.int .i64 c.site) ∧ w'.cell? ⟨w.heap.size, 6, none⟩ = some (.int .i64 c.count))
    (first | (go_keep; done) | (exact ⟨boxN hbX 5, boxN hbX 6⟩))
    (first | (go_at_call 97; refine (rnumber_any _ _ (by first | exact p1 | exact q1) (by first | exact p2 | exact q2)).mono ?_; rintro e w' ⟨rfl, hb2⟩; have hbX := box_step hbX hb2))
  clear a1 a2
  go_wp2_with fail
  go_ret
  exact ⟨ret_str E.out, box_old hbX⟩

set_option maxRecDepth 100000 in
set_option maxHeartbeats 4000000 in
theorem written_edit (c : Ed) (w : World) (h1 : Num c.id) (ht : c.text.size ≤ 1000000) :
    Calls Try.prog 84 #[.agg (fdEdit c).cells.toArray] w fun e w' => e = .returned (.string (str (recEdit c))) ∧ Below w.heap.size w w' := by
  obtain ⟨p1, p2⟩ := h1
  obtain ⟨t, htt⟩ : ∃ t, c.text = str t := ⟨c.text.data.toList, (str_data _).symm⟩
  have E : Hid ((byt 3 :: (numB c.id ++ t)) = recEdit c) := by show _ = _; unfold recEdit; rw [htt]; rfl
  unfold fdEdit
  rw [htt] at ht ⊢
  rw [str_size] at ht
  have l1 := numB_length c.id
  have hb0 : BoxF w ⟨0, 3, 0, 0, c.id, 0, 0, false, str t⟩ (w.alloc (.cells (Fd.cells ⟨0, 3, 0, 0, c.id, 0, 0, false, str t⟩).toArray 54)) := Below.refl _ _
  have hbX : BoxF w ⟨0, 3, 0, 0, c.id, 0, 0, false, str t⟩ ((w.alloc (.cells (Fd.cells ⟨0, 3, 0, 0, c.id, 0, 0, false, str t⟩).toArray 54)).alloc (.cells #[.int .u8 3] 5)).drew := (hb0.alloc (by simp) _).drew
  have a1 := fun w' => add_str (P := Try.prog) [byt 3] (numB c.id) (byt 3 :: numB c.id) rfl (by simp; omega) w'
  have a2 := fun w' => add_str (P := Try.prog) (byt 3 :: numB c.id) t (byt 3 :: (numB c.id ++ t)) rfl (by simp; omega) w'
  clear htt
  go_enter Try.func84, Try.ntmps84
  go_wp2_with (refine wpList_toString (by rfl) 110 9 5 _ (by rfl) Try.underlying110 Try.underlying5 Try.underlying9 _ _ _ (by rfl) [3] rfl ?_ ?_; exact new_cells2 _ _ _ _)
  go_region_held3 (fun w' => w'.cell? ⟨w.heap.size, 4, none⟩ = some (.int .i64 c.id) ∧ w'.cell? ⟨w.heap.size, 8, none⟩ = some (.string (str t)))
    (first | (go_keep; done) | (exact ⟨boxN hbX 4, boxN hbX 8⟩))
    (first | (go_at_call 97; refine (rnumber_any _ _ p1 p2).mono ?_; rintro e w' ⟨rfl, hb2⟩; have hbX := box_step hbX hb2))
  clear a1 a2
  go_wp2_with fail
  go_ret
  exact ⟨ret_str E.out, box_old hbX⟩

set_option maxRecDepth 100000 in
set_option maxHeartbeats 4000000 in
theorem written_card (c : Cd) (w : World) (h1 : Num c.id) (h2 : Num c.site) (h3 : Num c.count) (ht : c.text.size ≤ 1000000) :
    Calls Try.prog 84 #[.agg (fdCard c).cells.toArray] w fun e w' => e = .returned (.string (str (recCard c))) ∧ Below w.heap.size w w' := by
  obtain ⟨p1, p2⟩ := h1
  obtain ⟨q1, q2⟩ := h2
  obtain ⟨r1, r2⟩ := h3
  obtain ⟨t, htt⟩ : ∃ t, c.text = str t := ⟨c.text.data.toList, (str_data _).symm⟩
  have E : Hid ((byt 2 :: (numB c.id ++ (numB c.site ++ (numB c.count ++ ((if c.gone then 1 else 0) :: t))))) = recCard c) := by show _ = _; unfold recCard; rw [htt]; rfl
  unfold fdCard
  rw [htt] at ht ⊢
  rw [str_size] at ht
  have l1 := numB_length c.id
  have l2 := numB_length c.site
  have l3 := numB_length c.count
  clear htt
  obtain ⟨id, site, count, gone, text⟩ := c
  simp only at *
  have hb0 : BoxF w ⟨0, 2, 0, 0, id, site, count, gone, str t⟩ (w.alloc (.cells (Fd.cells ⟨0, 2, 0, 0, id, site, count, gone, str t⟩).toArray 54)) := Below.refl _ _
  have hbX : BoxF w ⟨0, 2, 0, 0, id, site, count, gone, str t⟩ ((w.alloc (.cells (Fd.cells ⟨0, 2, 0, 0, id, site, count, gone, str t⟩).toArray 54)).alloc (.cells #[.int .u8 2] 5)).drew := (hb0.alloc (by simp) _).drew
  have a1 := fun w' => add_str (P := Try.prog) [byt 2] (numB id) (byt 2 :: numB id) rfl (by simp; omega) w'
  have a2 := fun w' => add_str (P := Try.prog) (byt 2 :: numB id) (numB site) (byt 2 :: (numB id ++ numB site)) rfl (by simp; omega) w'
  have a3 := fun w' => add_str (P := Try.prog) (byt 2 :: (numB id ++ numB site)) (numB count) (byt 2 :: (numB id ++ (numB site ++ numB count))) (by simp) (by simp; omega) w'
  have a4 : ∀ w', (Op.stringOp .add (str (byt 2 :: (numB id ++ (numB site ++ numB count)))) ⟨#[0]⟩).run Try.prog w' = .ok (.string (str (byt 2 :: (numB id ++ (numB site ++ (numB count ++ [0])))))) w' := fun w' => add_str (P := Try.prog) _ [0] _ (by simp) (by simp; omega) w'
  have a5 : ∀ w', (Op.stringOp .add (str (byt 2 :: (numB id ++ (numB site ++ numB count)))) ⟨#[1]⟩).run Try.prog w' = .ok (.string (str (byt 2 :: (numB id ++ (numB site ++ (numB count ++ [1])))))) w' := fun w' => add_str (P := Try.prog) _ [1] _ (by simp) (by simp; omega) w'
  have a6 := fun w' => add_str (P := Try.prog) (byt 2 :: (numB id ++ (numB site ++ (numB count ++ [0])))) t (byt 2 :: (numB id ++ (numB site ++ (numB count ++ (0 :: t))))) (by simp) (by simp; omega) w'
  have a7 := fun w' => add_str (P := Try.prog) (byt 2 :: (numB id ++ (numB site ++ (numB count ++ [1])))) t (byt 2 :: (numB id ++ (numB site ++ (numB count ++ (1 :: t))))) (by simp) (by simp; omega) w'
  cases gone
  all_goals
    go_enter Try.func84, Try.ntmps84
    go_wp2_with (refine wpList_toString (by rfl) 110 9 5 _ (by rfl) Try.underlying110 Try.underlying5 Try.underlying9 _ _ _ (by rfl) [2] rfl ?_ ?_; exact new_cells2 _ _ _ _)
    go_region_held3 (fun w' => w'.cell? ⟨w.heap.size, 4, none⟩ = some (.int .i64 id) ∧ w'.cell? ⟨w.heap.size, 5, none⟩ = some (.int .i64 site) ∧ w'.cell? ⟨w.heap.size, 6, none⟩ = some (.int .i64 count) ∧ w'.cell? ⟨w.heap.size, 8, none⟩ = some (.string (str t)))
      (first | (go_keep; done) | (exact ⟨boxN hbX 4, boxN hbX 5, boxN hbX 6, boxN hbX 8⟩))
      (first | (go_at_call 97; refine (rnumber_any _ _ (by first | exact p1 | exact q1 | exact r1) (by first | exact p2 | exact q2 | exact r2)).mono ?_; rintro e w' ⟨rfl, hb2⟩; have hbX := box_step hbX hb2))
    clear a1 a2 a3 a4 a5 a6 a7
    go_wp2_with fail
    go_ret
    exact ⟨ret_str E.out, box_old hbX⟩

set_option maxRecDepth 100000 in
set_option maxHeartbeats 4000000 in
theorem written_head (seq base : Int) (w : World) (h1 : Num seq) (h2 : 0 ≤ base) (h3 : base ≤ 4294967295) :
    Calls Try.prog 84 #[.agg (fdHead seq base).cells.toArray] w fun e w' => e = .returned (.string (str (recHead seq base))) ∧ Below w.heap.size w w' := by
  obtain ⟨p1, p2⟩ := h1
  have l1 := numB_length seq
  have l2 : (fourI base).length ≤ 4 := Nat.le_refl _
  have hb0 : BoxF w (fdHead seq base) (w.alloc (.cells (fdHead seq base).cells.toArray 54)) := Below.refl _ _
  have hb1 : BoxF w (fdHead seq base) ((w.alloc (.cells (fdHead seq base).cells.toArray 54)).alloc (.cells #[.int .u8 4] 5)) := hb0.alloc (by simp) _
  clear hb0
  unfold fdHead at *
  by_cases hs : seq = 0
  · have hs2 : seq ≤ 0 := by omega
    have E : Hid ((byt 4 :: numB seq) = recHead seq base) := by show _ = _; unfold recHead; rw [if_pos hs]; simp; rfl
    clear hs
    go_enter Try.func84, Try.ntmps84
    go_wp2_with (refine wpList_toString (by rfl) 110 9 5 _ (by rfl) Try.underlying110 Try.underlying5 Try.underlying9 _ _ _ (by rfl) [4] rfl ?_ ?_; exact new_cells2 _ _ _ _)
    refine (rnumber_any seq _ p1 p2).mono ?_
    rintro e w1 ⟨rfl, hh⟩
    have hb2 := box_step hb1 hh
    clear hh hb1
    have x2 : w1.cell? ⟨w.heap.size, 2, none⟩ = some (.int .i64 seq) := boxN hb2 2
    go_wp2_with fail
    go_ret
    exact ⟨ret_str E.out, box_old hb2⟩
  · have hs2 : 0 < seq := by omega
    have E : Hid ((byt 4 :: (numB seq ++ fourI base)) = recHead seq base) := by show _ = _; unfold recHead; rw [if_neg hs]; rfl
    clear hs
    go_enter Try.func84, Try.ntmps84
    go_wp2_with (refine wpList_toString (by rfl) 110 9 5 _ (by rfl) Try.underlying110 Try.underlying5 Try.underlying9 _ _ _ (by rfl) [4] rfl ?_ ?_; exact new_cells2 _ _ _ _)
    refine (rnumber_any seq _ p1 p2).mono ?_
    rintro e w1 ⟨rfl, hh⟩
    have hb2 := box_step hb1 hh
    clear hh hb1
    have x2 : w1.cell? ⟨w.heap.size, 2, none⟩ = some (.int .i64 seq) := boxN hb2 2
    have x3 : w1.cell? ⟨w.heap.size, 3, none⟩ = some (.int .i64 base) := boxN hb2 3
    go_wp2_with fail
    refine (rfour_any base _ h2 h3).mono ?_
    rintro e w2 ⟨rfl, hh⟩
    have hb3 := box_step hb2 hh
    clear hh hb2 x2 x3
    go_wp2_with fail
    go_ret
    exact ⟨ret_str (by rw [← E.out]), box_old hb3⟩

/-- A record that may be written. -/
def FdOk (f : Fd) : Prop :=
  (∃ s b, f = fdHead s b ∧ Num s ∧ 0 ≤ b ∧ b ≤ 4294967295) ∨ (∃ c : Ck, f = fdClock c ∧ Num c.site ∧ Num c.count) ∨
  (∃ c : Cd, f = fdCard c ∧ Num c.id ∧ Num c.site ∧ Num c.count ∧ c.text.size ≤ 60) ∨ (∃ c : Ed, f = fdEdit c ∧ Num c.id ∧ c.text.size ≤ 60)

theorem written_any (f : Fd) (w : World) (h : FdOk f) :
    Calls Try.prog 84 #[.agg f.cells.toArray] w fun e w' => e = .returned (.string (str (recF f))) ∧ Below w.heap.size w w' := by
  rcases h with ⟨s, b, rfl, h1, h2, h3⟩ | ⟨c, rfl, h1, h2⟩ | ⟨c, rfl, h1, h2, h3, h4⟩ | ⟨c, rfl, h1, h2⟩
  · exact written_head s b w h1 h2 h3
  · exact written_clock c w h1 h2
  · exact written_card c w h1 h2 h3 (by omega)
  · exact written_edit c w h1 (by omega)
end Go.Proofs.Ytmafnghokmcijaa
