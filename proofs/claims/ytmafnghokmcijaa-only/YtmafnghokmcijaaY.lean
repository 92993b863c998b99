/- The reference's bundle, walked. -/
import Derived.Test.YtmafnghokmcijaaX
namespace Go.Proofs.Ytmafnghokmcijaa
open Go.RowKit
attribute [local go_sem] str_size str_append mk_append_str str_append_mk

set_option maxRecDepth 100000 in
set_option maxHeartbeats 4000000 in
theorem rbundle_any (s b : Int) (R : Rep) (a1 a2 a3 : Option Addr) (k1 k2 k3 : Nat) (w : World) (hR : Has w R a1 a2 a3) (hF : Fit R) (hs : Num s) (hb1 : 0 ≤ b) (hb2 : b ≤ 4294967295) :
    Calls Try.prog 31 #[.agg (lnkA s b R a1 a2 a3 k1 k2 k3)] w fun e w' => e = .returned (.string (str (bundleB (recsOf s b R)))) ∧ Below w.heap.size w w' := by
  have m1 := hF.n1; have m2 := hF.n2; have m3 := hF.n3
  have h0 : BoxL w s b R a1 a2 a3 k1 k2 k3 (w.alloc (.cells (lnkA s b R a1 a2 a3 k1 k2 k3) 65)) := Below.refl _ _
  have hrec := records_any s b R a1 a2 a3 k1 k2 k3 (w.alloc (.cells (lnkA s b R a1 a2 a3 k1 k2 k3) 65)) (hR.below (box_old h0)) hF
  go_enter Try.func31, Try.ntmps31
  go_wp2_with fail
  refine hrec.mono ?_
  rintro e w1 ⟨ad, cap, N, rfl, hN, hv, hh⟩
  have h1 := box_old (box_step h0 hh)
  clear hh h0 hrec
  have hok := hF.ok hs hb1 hb2
  have hNb : N ≤ 3000001 := by rw [hN, recsOf_length]; omega
  generalize hll : recsOf s b R = l at *
  have HLL : Hid (recsOf s b R = l) := hll
  clear hll
  have HN : Hid (N = l.length) := hN
  have HO : Hid (∀ f, f ∈ l → FdOk f) := hok
  clear hN hok
  go_wp2_with fail
  go_loopw [3, 5, 6] (fun v u _ wr => ∃ (k : Nat) (B : List UInt8), k ≤ N ∧ u = .int .i64 k ∧ v = .string (str B) ∧ B = bodyB (l.take k) ∧ B.length ≤ 400000000 ∧ Below w1.heap.size w1 wr) (fun _ u _ _ => N - (intOf u).toNat)
  case atStart => exact ⟨0, [80, 82, 67, 49], Nat.zero_le _, rfl, rfl, rfl, by simp, Below.refl _ _⟩
  case round =>
    obtain ⟨k, B, hk, rfl, rfl, hB, hBl, hb⟩ := hrel
    have HB : Hid (B = bodyB (l.take k)) := hB
    clear hB
    by_cases hlt : k < N
    · have hl : k < l.length := by rw [← HN.out]; exact hlt
      have hvr := hv.keep hb
      obtain ⟨bb, o, _, hbl, hix, hc, _, _⟩ := hvr.at (P := Try.prog) (t := 47) (by kernel_rfl) (by kernel_rfl) hlt (k : Int) rfl
      have hcj : ∀ j, j < 9 → wr.cell? ⟨bb, o + j, none⟩ = l[k].cells[j]? := fun j hj => by
        rw [hc j hj]
        have hE : Even 9 (l.map Fd.cells) := by intro x hx; obtain ⟨y, _, rfl⟩ := List.mem_map.1 hx; rfl
        have h9 := hE.at k j hj (by simpa using hl)
        rw [show fcells l = (l.map Fd.cells).flatten from rfl, h9]
        simp [List.getD, hl]
      have c0 : wr.cell? ⟨bb, o, none⟩ = some (.int .i64 l[k].at_) := hcj 0 (by omega)
      have c1 : wr.cell? ⟨bb, o + 1, none⟩ = some (.int .i64 l[k].kind) := hcj 1 (by omega)
      have c2 : wr.cell? ⟨bb, o + 2, none⟩ = some (.int .i64 l[k].seq) := hcj 2 (by omega)
      have c3 : wr.cell? ⟨bb, o + 3, none⟩ = some (.int .i64 l[k].base) := hcj 3 (by omega)
      have c4 : wr.cell? ⟨bb, o + 4, none⟩ = some (.int .i64 l[k].id) := hcj 4 (by omega)
      have c5 : wr.cell? ⟨bb, o + 5, none⟩ = some (.int .i64 l[k].site) := hcj 5 (by omega)
      have c6 : wr.cell? ⟨bb, o + 6, none⟩ = some (.int .i64 l[k].count) := hcj 6 (by omega)
      have c7 : wr.cell? ⟨bb, o + 7, none⟩ = some (.bool l[k].gone) := hcj 7 (by omega)
      have c8 : wr.cell? ⟨bb, o + 8, none⟩ = some (.string l[k].text) := hcj 8 (by omega)
      have hfk := HO.out l[k] (List.getElem_mem hl)
      have hfl := recF_length hfk
      have hbod : bodyB (l.take (k + 1)) = B ++ frameB (recF l[k]) := by
        rw [List.take_succ_eq_append_getElem hl, bodyB_succ, HB.out]
      have hbl2 := bodyB_length (l.take (k + 1)) (fun f hf => HO.out f (List.mem_of_mem_take hf))
      rw [hbod] at hbl2
      have hfr := frameB_length (recF l[k])
      have hk3 : (l.take (k + 1)).length ≤ 3000001 := by rw [List.length_take]; have := HN.out; omega
      have hbl3 : (B ++ frameB (recF l[k])).length ≤ 400000000 := by omega
      have HD : Hid (bodyB (l.take (k + 1)) = B ++ frameB (recF l[k])) := hbod
      have hfr2 : (frameB (recF l[k])).length ≤ 200 := by omega
      have hcall := fun w0 => rframe_any l[k] w0 hfk
      have HCa : Hid (∀ w0, Calls Try.prog 61 #[.agg l[k].cells.toArray] w0 fun e w' => e = .returned (.string (str (frameB (recF l[k])))) ∧ Below w0.heap.size w0 w') := hcall
      clear hc hcj hbod hbl2 hk3 hvr HB hfk hfr hfl hcall
      generalize frameB (recF l[k]) = fr at *
      generalize l[k] = fk at *
      go_wp2_with fail
      refine (HCa.out _).mono ?_
      rintro e w2 ⟨rfl, hh⟩
      have hb3 : Below w1.heap.size w1 w2 := hb.trans (hh.mono hb.size)
      clear hh
      rw [List.length_append] at hbl3
      go_wp2_with fail
      go_roundw
      case rel => exact ⟨k + 1, B ++ fr, by omega, by go_num, rfl, HD.out.symm, by simp; omega, hb3⟩
      case measure => simp [intOf]; omega
    · have e1 : k = N := by omega
      have E : Hid (B = bodyB l) := by
        have h := HB.out
        rw [e1, HN.out, List.take_of_length_le (Nat.le_refl _)] at h; exact h
      clear e1 HB
      go_wp2_with fail
      refine (rseal_any B _ (by omega)).mono ?_
      rintro e w2 ⟨rfl, hs2⟩
      obtain ⟨c1, c2⟩ := crc_le pSeal (by decide) B
      have F : Hid (B ++ fourI (crc pSeal B) = bundleB l) := by show _ = _; rw [E.out]; rfl
      generalize crc pSeal B = C at *
      go_wp2_with fail
      refine (rfour_any _ _ c1 c2).mono ?_
      rintro e w3 ⟨rfl, hh⟩
      have l5 : (fourI (C : Int)).length ≤ 4 := Nat.le_refl _
      generalize fourI (C : Int) = t at *
      go_wp2_with fail
      go_ret
      exact ⟨ret_str (by rw [HLL.out]; exact F.out), h1.trans ((hb.trans ((hs2.mono hb.size).trans (hh.mono (Nat.le_trans hb.size hs2.size)))).mono h1.size)⟩
end Go.Proofs.Ytmafnghokmcijaa
