/- Frames and bundles of both, walked. -/
import Derived.Test.YtmafnghokmcijaaU
import Derived.Test.YtmafnghokmcijaaN
namespace Go.Proofs.Ytmafnghokmcijaa
open Go.RowKit
attribute [local go_sem] str_size str_append mk_append_str str_append_mk

/-- A frame. -/
def frameB (r : List UInt8) : List UInt8 := 245 :: 95 :: (byt r.length :: (r ++ fourI (crc pSum (byt r.length :: r))))
/-- A bundle of records. -/
def bodyB (l : List Fd) : List UInt8 := 80 :: 82 :: 67 :: 49 :: l.flatMap (fun f => frameB (recF f))
def bundleB (l : List Fd) : List UInt8 := bodyB l ++ fourI (crc pSeal (bodyB l))

theorem frameB_length (r : List UInt8) : (frameB r).length = r.length + 7 := by simp [frameB, fourI]
theorem bodyB_succ (l : List Fd) (f : Fd) : bodyB (l ++ [f]) = bodyB l ++ frameB (recF f) := by simp [bodyB]

theorem recF_length {f : Fd} (h : FdOk f) : (recF f).length ≤ 100 := by
  rcases h with ⟨s, b, rfl, h1, h2, h3⟩ | ⟨c, rfl, h1, h2⟩ | ⟨c, rfl, h1, h2, h3, h4⟩ | ⟨c, rfl, h1, h2⟩
  · have := numB_length s
    rw [recF_head]; unfold recHead; split <;> simp [fourI] <;> omega
  · have := numB_length c.site; have := numB_length c.count
    rw [recF_clock]; unfold recClock; simp; omega
  · have := numB_length c.id; have := numB_length c.site; have := numB_length c.count
    rw [recF_card]; unfold recCard; simp
    have e : c.text.data.size = c.text.size := rfl
    omega
  · have := numB_length c.id
    rw [recF_edit]; unfold recEdit; simp
    have e : c.text.data.size = c.text.size := rfl
    omega

theorem bodyB_length (l : List Fd) (h : ∀ f, f ∈ l → FdOk f) : (bodyB l).length ≤ 4 + 107 * l.length := by
  have : ∀ l : List Fd, (∀ f, f ∈ l → FdOk f) → (l.flatMap (fun f => frameB (recF f))).length ≤ 107 * l.length := by
    intro l
    induction l with
    | nil => intro _; simp
    | cons f l ih =>
      intro h
      have h1 := recF_length (h f (by simp))
      have h2 := ih (fun x hx => h x (by simp [hx]))
      simp only [List.flatMap_cons, List.length_append, frameB_length, List.length_cons]
      omega
  have := this l h
  simp only [bodyB, List.length_cons]
  omega

theorem crc_le (p : Nat) (hp : p < 4294967296) (l : List UInt8) : 0 ≤ ((crc p l : Nat) : Int) ∧ ((crc p l : Nat) : Int) ≤ 4294967295 := by
  have := crc_lt hp l; omega

set_option maxRecDepth 100000 in
set_option maxHeartbeats 1000000 in
theorem frame_any (r : List UInt8) (w : World) (hr : r.length ≤ 255) :
    Calls Try.prog 57 #[.string (str r)] w fun e w' => e = .returned (.string (str (frameB r))) ∧ Below w.heap.size w w' := by
  have E : Hid (245 :: 95 :: (byt r.length :: (r ++ fourI (crc pSum (byt r.length :: r)))) = frameB r) := rfl
  have l4 : ∀ n, (fourI n).length ≤ 4 := fun _ => Nat.le_refl _
  go_enter Try.func57, Try.ntmps57
  go_wp2_with fail
  refine (oneByte_any _ _ (by omega) (by omega)).mono ?_
  rintro e w1 ⟨rfl, hb1⟩
  go_wp2_with fail
  refine (sum_any (byt r.length :: r) _ (by simp; omega)).mono ?_
  rintro e w2 ⟨rfl, rfl⟩
  obtain ⟨c1, c2⟩ := crc_le pSum (by decide) (byt r.length :: r)
  generalize crc pSum (byt r.length :: r) = C at *
  go_wp2_with fail
  refine (fourBytes_any _ _ c1 c2).mono ?_
  rintro e w3 ⟨rfl, hb3⟩
  have l5 := l4 (C : Int)
  generalize fourI (C : Int) = t at *
  clear l4
  go_wp2_with fail
  go_ret
  exact ⟨ret_str E.out, hb1.trans (hb3.mono hb1.size)⟩

set_option maxRecDepth 100000 in
set_option maxHeartbeats 1000000 in
theorem rframe_any (f : Fd) (w : World) (h : FdOk f) :
    Calls Try.prog 61 #[.agg f.cells.toArray] w fun e w' => e = .returned (.string (str (frameB (recF f)))) ∧ Below w.heap.size w w' := by
  have hr := recF_length h
  have hb0 : BoxF w f (w.alloc (.cells f.cells.toArray 54)) := Below.refl _ _
  have hw := written_any f (w.alloc (.cells f.cells.toArray 54)) h
  go_enter Try.func61, Try.ntmps61
  go_wp2_with fail
  refine hw.mono ?_
  rintro e w1 ⟨rfl, hh⟩
  have hb1 := box_step hb0 hh
  clear hh hb0
  generalize hrr : recF f = r at *
  have HR : Hid (recF f = r) := hrr
  clear hrr
  have E : Hid (245 :: 95 :: (byt r.length :: (r ++ fourI (crc pSum (byt r.length :: r)))) = frameB r) := rfl
  have l4 : ∀ n, (fourI n).length ≤ 4 := fun _ => Nat.le_refl _
  go_wp2_with (refine wpList_toString (by rfl) 110 9 5 _ (by rfl) Try.underlying110 Try.underlying5 Try.underlying9 _ _ _ (by rfl) [(r.length : Int)] rfl ?_ ?_; exact new_cells _ _ _)
  have hb2 := hb1.alloc (by have := hb1.size; simpa using this) (.cells #[.int .u8 (r.length : Int)] 5)
  refine (rsum_any (byt r.length :: r) _ (by simp; omega)).mono ?_
  rintro e w2 ⟨rfl, hh⟩
  have hb3 := box_step hb2 hh
  clear hh hb2 hb1
  obtain ⟨c1, c2⟩ := crc_le pSum (by decide) (byt r.length :: r)
  generalize crc pSum (byt r.length :: r) = C at *
  go_wp2_with fail
  refine (rfour_any _ _ c1 c2).mono ?_
  rintro e w3 ⟨rfl, hh⟩
  have hb4 := box_step hb3 hh
  clear hh hb3
  have l5 := l4 (C : Int)
  generalize fourI (C : Int) = t at *
  clear l4
  go_wp2_with fail
  go_ret
  exact ⟨ret_str (by rw [HR.out]; exact E.out), box_old hb4⟩

theorem Fit.ok {R : Rep} (hF : Fit R) {s b : Int} (hs : Num s) (hb1 : 0 ≤ b) (hb2 : b ≤ 4294967295) : ∀ f, f ∈ recsOf s b R → FdOk f := by
  intro f h
  simp only [recsOf, recs3, recs2, recs1, List.mem_append, List.mem_cons, List.mem_map, List.mem_range] at h
  rcases h with ((rfl | ⟨i, hi, rfl⟩) | ⟨i, hi, rfl⟩) | ⟨i, hi, rfl⟩
  · exact Or.inl ⟨s, b, rfl, hs, hb1, hb2⟩
  · obtain ⟨g1, g2⟩ := hF.c1 i hi
    exact Or.inr (Or.inl ⟨_, rfl, g1, g2⟩)
  · obtain ⟨g1, g2, g3, g4⟩ := hF.d1 i hi
    exact Or.inr (Or.inr (Or.inl ⟨_, rfl, g1, g2, g3, g4⟩))
  · obtain ⟨g1, g2⟩ := hF.e1 i hi
    exact Or.inr (Or.inr (Or.inr ⟨_, rfl, g1, g2⟩))

set_option maxRecDepth 100000 in
set_option maxHeartbeats 4000000 in
theorem bundle_any (s b : Int) (R : Rep) (a1 a2 a3 : Option Addr) (k1 k2 k3 : Nat) (w : World) (hR : Has w R a1 a2 a3) (hF : Fit R) (hs : Num s) (hb1 : 0 ≤ b) (hb2 : b ≤ 4294967295) :
    Calls Try.prog 30 #[.agg (lnkA s b R a1 a2 a3 k1 k2 k3)] w fun e w' => e = .returned (.string (str (bundleB (recsOf s b R)))) ∧ Below w.heap.size w w' := by
  have m1 := hF.n1; have m2 := hF.n2; have m3 := hF.n3
  have h0 : BoxL w s b R a1 a2 a3 k1 k2 k3 (w.alloc (.cells (lnkA s b R a1 a2 a3 k1 k2 k3) 65)) := Below.refl _ _
  have hrec := recordsOf_any s b R a1 a2 a3 k1 k2 k3 (w.alloc (.cells (lnkA s b R a1 a2 a3 k1 k2 k3) 65)) (hR.below (box_old h0)) hF hs hb1 hb2
  go_enter Try.func30, Try.ntmps30
  go_wp2_with fail
  refine hrec.mono ?_
  rintro e w1 ⟨ad, cap, N, rfl, hN, hv, hh⟩
  have h1 := box_old (box_step h0 hh)
  clear hh h0 hrec
  have hok := hF.ok hs hb1 hb2
  have hNb : N ≤ 3000001 := by rw [hN, recsOf_length]; omega
  generalize hll : recsOf s b R = l at *
  have HLL : Hid (recsOf s b R = l) := hll
  clear hll
  have HN : Hid (N = l.length) := hN
  have HO : Hid (∀ f, f ∈ l → FdOk f) := hok
  clear hN hok
  go_wp2_with fail
  go_loopw [4, 5, 6] (fun v u _ wr => ∃ (k : Nat) (B : List UInt8), k ≤ N ∧ u = .int .i64 k ∧ v = .string (str B) ∧ B = bodyB (l.take k) ∧ B.length ≤ 400000000 ∧ Below w1.heap.size w1 wr) (fun _ u _ _ => N - (intOf u).toNat)
  case atStart => exact ⟨0, [80, 82, 67, 49], Nat.zero_le _, rfl, rfl, rfl, by simp, Below.refl _ _⟩
  case round =>
    obtain ⟨k, B, hk, rfl, rfl, hB, hBl, hb⟩ := hrel
    have HB : Hid (B = bodyB (l.take k)) := hB
    clear hB
    by_cases hlt : k < N
    · have hl : k < l.length := by rw [← HN.out]; exact hlt
      have hvr := hv.keep hb
      obtain ⟨bb, o, _, hbl, hix, hc, _, _⟩ := hvr.at (P := Try.prog) (t := 83) (by kernel_rfl) (by kernel_rfl) hlt (k : Int) rfl
      have hcell : wr.cell? ⟨bb, o, none⟩ = some (.string (str (recF l[k]))) := by
        have := hc 0 (by omega)
        rw [Nat.add_zero, Nat.mul_one, Nat.add_zero, List.getElem?_map, List.getElem?_eq_getElem hl] at this
        exact this
      have hfk := HO.out l[k] (List.getElem_mem hl)
      have hfl := recF_length hfk
      have hbod : bodyB (l.take (k + 1)) = B ++ frameB (recF l[k]) := by
        rw [List.take_succ_eq_append_getElem hl, bodyB_succ, HB.out]
      have hbl2 := bodyB_length (l.take (k + 1)) (fun f hf => HO.out f (List.mem_of_mem_take hf))
      rw [hbod] at hbl2
      have hfr := frameB_length (recF l[k])
      have hk3 : (l.take (k + 1)).length ≤ 3000001 := by rw [List.length_take]; have := HN.out; omega
      have hbl3 : (B ++ frameB (recF l[k])).length ≤ 400000000 := by omega
      have HD : Hid (bodyB (l.take (k + 1)) = B ++ frameB (recF l[k])) := hbod
      clear hc hbod hbl2 hk3 hvr HB hfk
      generalize recF l[k] = r at *
      have hfr2 : (frameB r).length ≤ 200 := by omega
      clear hfr
      go_wp2_with fail
      refine (frame_any r _ (by omega)).mono ?_
      rintro e w2 ⟨rfl, hh⟩
      have hb3 : Below w1.heap.size w1 w2 := hb.trans (hh.mono hb.size)
      clear hh
      generalize frameB r = fr at *
      rw [List.length_append] at hbl3
      go_wp2_with fail
      go_roundw
      case rel => exact ⟨k + 1, B ++ fr, by omega, by go_num, rfl, HD.out.symm, by simp; omega, hb3⟩
      case measure => simp [intOf]; omega
    · have e1 : k = N := by omega
      have E : Hid (B = bodyB l) := by
        have h := HB.out
        rw [e1, HN.out, List.take_of_length_le (Nat.le_refl _)] at h; exact h
      clear e1 HB
      go_wp2_with fail
      refine (seal_any B _ (by omega)).mono ?_
      rintro e w2 ⟨rfl, rfl⟩
      obtain ⟨c1, c2⟩ := crc_le pSeal (by decide) B
      have F : Hid (B ++ fourI (crc pSeal B) = bundleB l) := by show _ = _; rw [E.out]; rfl
      generalize crc pSeal B = C at *
      go_wp2_with fail
      refine (fourBytes_any _ _ c1 c2).mono ?_
      rintro e w3 ⟨rfl, hh⟩
      have l5 : (fourI (C : Int)).length ≤ 4 := Nat.le_refl _
      generalize fourI (C : Int) = t at *
      go_wp2_with fail
      go_ret
      exact ⟨ret_str (by rw [HLL.out]; exact F.out), h1.trans ((hb.trans (hh.mono hb.size)).mono h1.size)⟩
end Go.Proofs.Ytmafnghokmcijaa
