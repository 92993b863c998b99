/- A link's records in their order: the reference's records, walked. -/
import Derived.Test.YtmafnghokmcijaaR
namespace Go.Proofs.Ytmafnghokmcijaa
open Go.RowKit

def fcells (l : List Fd) : List Value := (l.map Fd.cells).flatten
theorem fcells_append (a b : List Fd) : fcells (a ++ b) = fcells a ++ fcells b := by simp [fcells]
theorem fcells_one (f : Fd) : fcells [f] = f.cells := by simp [fcells]

theorem new_cells2 (w : World) (o : Obj) (cs : List Value) (t : TypeId) : ∀ j u, cs[j]? = some u → ((w.alloc o).alloc (.cells cs.toArray t)).cell? ((⟨w.heap.size + 1, 0, none⟩ : Addr).add j) = some u := by
  intro j u h
  have := new_cells (w.alloc o) cs t j u h
  rwa [World.size_alloc] at this

set_option maxRecDepth 100000 in
set_option maxHeartbeats 4000000 in
theorem records_any (s b : Int) (R : Rep) (a1 a2 a3 : Option Addr) (k1 k2 k3 : Nat) (w : World) (hR : Has w R a1 a2 a3) (hF : Fit R) :
    Calls Try.prog 60 #[.agg (lnkA s b R a1 a2 a3 k1 k2 k3)] w fun e w' => ∃ ad cap N, e = .returned (.slice ad N cap) ∧ N = (recsOf s b R).length ∧ Vec w' w.heap.size 54 9 ad N cap (fcells (recsOf s b R)) ∧ Below w.heap.size w w' := by
  have m1 := hF.n1; have m2 := hF.n2; have m3 := hF.n3
  have h0 : BoxL w s b R a1 a2 a3 k1 k2 k3 (w.alloc (.cells (lnkA s b R a1 a2 a3 k1 k2 k3) 65)) := Below.refl _ _
  have z0 : w.heap.size + 1 ≤ (w.alloc (.cells (lnkA s b R a1 a2 a3 k1 k2 k3) 65)).heap.size := by simp
  have hv0 : Vec ((w.alloc (.cells (lnkA s b R a1 a2 a3 k1 k2 k3) 65)).alloc (.cells (fdHead s b).cells.toArray 54)) (w.heap.size + 1) 54 9 (some ⟨w.heap.size + 1, 0, none⟩) 1 1 (fcells (recs1 s b R 0)) := by
    have := Vec.lit (w.alloc (.cells (lnkA s b R a1 a2 a3 k1 k2 k3) 65)) (w.heap.size + 1) 54 9 1 (fdHead s b).cells z0 (by omega) rfl
    rw [World.size_alloc] at this
    simpa [recs1, fcells] using this
  have h1 := h0.alloc z0 (.cells (fdHead s b).cells.toArray 54)
  have HV : Hid (Vec ((w.alloc (.cells (lnkA s b R a1 a2 a3 k1 k2 k3) 65)).alloc (.cells (fdHead s b).cells.toArray 54)) (w.heap.size + 1) 54 9 (some ⟨w.heap.size + 1, 0, none⟩) 1 1 (fcells (recs1 s b R 0))) := hv0
  have HB : Hid (BoxL w s b R a1 a2 a3 k1 k2 k3 ((w.alloc (.cells (lnkA s b R a1 a2 a3 k1 k2 k3) 65)).alloc (.cells (fdHead s b).cells.toArray 54))) := h1
  clear hv0 h0 h1 z0
  go_enter Try.func60, Try.ntmps60
  go_wp2_with fail
  go_loopw [3, 4, 5] (fun v u _ wr => ∃ (k : Nat) (ad : Option Addr) (cap N : Nat), k ≤ R.n1 ∧ u = .int .i64 k ∧ v = .slice ad N cap ∧ N = 1 + k ∧ Vec wr (w.heap.size + 1) 54 9 ad N cap (fcells (recs1 s b R k)) ∧ BoxL w s b R a1 a2 a3 k1 k2 k3 wr) (fun _ u _ _ => R.n1 - (intOf u).toNat)
  case atStart => exact ⟨0, _, _, 1, Nat.zero_le _, rfl, rfl, rfl, HV.out, HB.out⟩
  case round =>
    clear HV HB
    obtain ⟨k, ad, cap, N, hk, rfl, rfl, hN, hv, hb⟩ := hrel
    have HN : Hid (N = 1 + k) := hN
    have hNb : N ≤ 3000001 := by omega
    clear hN
    obtain ⟨x0, x1, x2, x3, x4⟩ := hb.cells
    have z1 : w.heap.size + 1 ≤ wr.heap.size := by have := hb.size; simpa using this
    by_cases hlt : k < R.n1
    · obtain ⟨bb, o, hbl, hix, cs, cc⟩ := (hR.below (box_old hb)).l1.clock k1 hlt
      have hvx : ∀ o1 o2, Vec ((wr.alloc o1).alloc o2) (w.heap.size + 1) 54 9 ad N cap (fcells (recs1 s b R k)) := fun o1 o2 => hv.keep (((Below.refl _ wr).alloc (Nat.le_refl _) _).alloc (by simp) _)
      have HX : Hid (∀ o1 o2, Vec ((wr.alloc o1).alloc o2) (w.heap.size + 1) 54 9 ad N cap (fcells (recs1 s b R k))) := hvx
      clear hvx
      go_wp2_with (at_builtin; refine wpList_push (by rfl) _ _ 47 (by rfl) (w.heap.size + 1) 54 9 80 (.agg #[.int .i64 0, .int .i64 0, .int .i64 0, .int .i64 0, .int .i64 0, .int .i64 0, .int .i64 0, .bool false, .string ⟨#[]⟩]) Try.underlying47 (by kernel_rfl) rfl (by decide) ad N cap _ (by rfl) (HX.out _ _) _ _ (fdClock (R.c k)).cells (by rfl) rfl ?_ ?_ ?_ ?_ ?_ ?_; exact new_cells2 _ _ _ _; (simp [Value.oneCell', fdClock]); (omega); (omega); (simp; omega); intro ad' cap' w' hv' hb' hs')
      have h2 : BoxL w s b R a1 a2 a3 k1 k2 k3 w' := ((hb.alloc z1 _).alloc (by simp; omega) _).trans hb'
      have hv2 : Vec w' (w.heap.size + 1) 54 9 ad' (N + 1) cap' (fcells (recs1 s b R (k + 1))) := by
        rw [recs1_succ, fcells_append, fcells_one]; exact hv'
      go_roundw
      case rel => exact ⟨k + 1, ad', cap', N + 1, by omega, by go_num, rfl, by have := HN.out; omega, hv2, h2⟩
      case measure => simp [intOf]; omega
    · have e1 : k = R.n1 := by omega
      have hv0 : Vec wr (w.heap.size + 1) 54 9 ad N cap (fcells (recs2 s b R 0)) := by
        rw [recs2_zero, ← e1]; exact hv
      have N1 : Hid (N = 1 + R.n1) := by have := HN.out; show _ = _; omega
      clear e1 hv HN hk z1
      go_wp2_with fail
      go_loopw [3, 6, 7] (fun v u _ wr => ∃ (k : Nat) (ad : Option Addr) (cap N : Nat), k ≤ R.n2 ∧ u = .int .i64 k ∧ v = .slice ad N cap ∧ N = 1 + R.n1 + k ∧ Vec wr (w.heap.size + 1) 54 9 ad N cap (fcells (recs2 s b R k)) ∧ BoxL w s b R a1 a2 a3 k1 k2 k3 wr) (fun _ u _ _ => R.n2 - (intOf u).toNat)
      case atStart => exact ⟨0, _, _, N, Nat.zero_le _, rfl, rfl, N1.out, hv0, hb⟩
      case round =>
        clear hv0 hb x0 x1 x2 x3 x4 N1 hNb hlt
        obtain ⟨k, ad, cap, N, hk, rfl, rfl, hN, hv, hb⟩ := hrel
        have HN : Hid (N = 1 + R.n1 + k) := hN
        have hNb : N ≤ 3000001 := by omega
        clear hN
        obtain ⟨x0, x1, x2, x3, x4⟩ := hb.cells
        have z1 : w.heap.size + 1 ≤ wr.heap.size := by have := hb.size; simpa using this
        by_cases hlt : k < R.n2
        · obtain ⟨bb, o, hbl, hix, c1, c2, c3, c4, c5⟩ := (hR.below (box_old hb)).l2.card k2 hlt
          have hvx : ∀ o1 o2, Vec ((wr.alloc o1).alloc o2) (w.heap.size + 1) 54 9 ad N cap (fcells (recs2 s b R k)) := fun o1 o2 => hv.keep (((Below.refl _ wr).alloc (Nat.le_refl _) _).alloc (by simp) _)
          have HX : Hid (∀ o1 o2, Vec ((wr.alloc o1).alloc o2) (w.heap.size + 1) 54 9 ad N cap (fcells (recs2 s b R k))) := hvx
          clear hvx
          go_wp2_with (at_builtin; refine wpList_push (by rfl) _ _ 47 (by rfl) (w.heap.size + 1) 54 9 80 (.agg #[.int .i64 0, .int .i64 0, .int .i64 0, .int .i64 0, .int .i64 0, .int .i64 0, .int .i64 0, .bool false, .string ⟨#[]⟩]) Try.underlying47 (by kernel_rfl) rfl (by decide) ad N cap _ (by rfl) (HX.out _ _) _ _ (fdCard (R.d k)).cells (by rfl) rfl ?_ ?_ ?_ ?_ ?_ ?_; exact new_cells2 _ _ _ _; (simp [Value.oneCell', fdCard]); (omega); (omega); (simp; omega); intro ad' cap' w' hv' hb' hs')
          have h2 : BoxL w s b R a1 a2 a3 k1 k2 k3 w' := ((hb.alloc z1 _).alloc (by simp; omega) _).trans hb'
          have hv2 : Vec w' (w.heap.size + 1) 54 9 ad' (N + 1) cap' (fcells (recs2 s b R (k + 1))) := by
            rw [recs2_succ, fcells_append, fcells_one]; exact hv'
          go_roundw
          case rel => exact ⟨k + 1, ad', cap', N + 1, by omega, by go_num, rfl, by have := HN.out; omega, hv2, h2⟩
          case measure => simp [intOf]; omega
        · have e1 : k = R.n2 := by omega
          have hv0 : Vec wr (w.heap.size + 1) 54 9 ad N cap (fcells (recs3 s b R 0)) := by
            rw [recs3_zero, ← e1]; exact hv
          have N1 : Hid (N = 1 + R.n1 + R.n2) := by have := HN.out; show _ = _; omega
          clear e1 hv HN hk z1
          go_wp2_with fail
          go_loopw [3, 8, 9] (fun v u _ wr => ∃ (k : Nat) (ad : Option Addr) (cap N : Nat), k ≤ R.n3 ∧ u = .int .i64 k ∧ v = .slice ad N cap ∧ N = 1 + R.n1 + R.n2 + k ∧ Vec wr (w.heap.size + 1) 54 9 ad N cap (fcells (recs3 s b R k)) ∧ BoxL w s b R a1 a2 a3 k1 k2 k3 wr) (fun _ u _ _ => R.n3 - (intOf u).toNat)
          case atStart => exact ⟨0, _, _, N, Nat.zero_le _, rfl, rfl, N1.out, hv0, hb⟩
          case round =>
            clear hv0 hb x0 x1 x2 x3 x4 N1 hNb hlt
            obtain ⟨k, ad, cap, N, hk, rfl, rfl, hN, hv, hb⟩ := hrel
            have HN : Hid (N = 1 + R.n1 + R.n2 + k) := hN
            have hNb : N ≤ 3000001 := by omega
            clear hN
            obtain ⟨x0, x1, x2, x3, x4⟩ := hb.cells
            have z1 : w.heap.size + 1 ≤ wr.heap.size := by have := hb.size; simpa using this
            by_cases hlt : k < R.n3
            · obtain ⟨bb, o, hbl, hix, c1, c2⟩ := (hR.below (box_old hb)).l3.edit k3 hlt
              have hvx : ∀ o1 o2, Vec ((wr.alloc o1).alloc o2) (w.heap.size + 1) 54 9 ad N cap (fcells (recs3 s b R k)) := fun o1 o2 => hv.keep (((Below.refl _ wr).alloc (Nat.le_refl _) _).alloc (by simp) _)
              have HX : Hid (∀ o1 o2, Vec ((wr.alloc o1).alloc o2) (w.heap.size + 1) 54 9 ad N cap (fcells (recs3 s b R k))) := hvx
              clear hvx
              go_wp2_with (at_builtin; refine wpList_push (by rfl) _ _ 47 (by rfl) (w.heap.size + 1) 54 9 80 (.agg #[.int .i64 0, .int .i64 0, .int .i64 0, .int .i64 0, .int .i64 0, .int .i64 0, .int .i64 0, .bool false, .string ⟨#[]⟩]) Try.underlying47 (by kernel_rfl) rfl (by decide) ad N cap _ (by rfl) (HX.out _ _) _ _ (fdEdit (R.e k)).cells (by rfl) rfl ?_ ?_ ?_ ?_ ?_ ?_; exact new_cells2 _ _ _ _; (simp [Value.oneCell', fdEdit]); (omega); (omega); (simp; omega); intro ad' cap' w' hv' hb' hs')
              have h2 : BoxL w s b R a1 a2 a3 k1 k2 k3 w' := ((hb.alloc z1 _).alloc (by simp; omega) _).trans hb'
              have hv2 : Vec w' (w.heap.size + 1) 54 9 ad' (N + 1) cap' (fcells (recs3 s b R (k + 1))) := by
                rw [recs3_succ, fcells_append, fcells_one]; exact hv'
              go_roundw
              case rel => exact ⟨k + 1, ad', cap', N + 1, by omega, by go_num, rfl, by have := HN.out; omega, hv2, h2⟩
              case measure => simp [intOf]; omega
            · have e1 : k = R.n3 := by omega
              have hv0 : Vec wr (w.heap.size + 1) 54 9 ad N cap (fcells (recsOf s b R)) := by
                unfold recsOf; rw [← e1]; exact hv
              have N1 : Hid (N = (recsOf s b R).length) := by have := HN.out; show _ = _; rw [recsOf_length]; omega
              clear e1 hv HN hk z1
              go_wp2_with fail
              go_ret
              exact ⟨ad, cap, N, rfl, N1.out, hv0.mono (by omega), box_old hb⟩
end Go.Proofs.Ytmafnghokmcijaa
