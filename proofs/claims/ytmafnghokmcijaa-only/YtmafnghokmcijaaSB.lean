/- A card laid among cards: parcelkeep.placed, walked. -/
import Derived.Test.YtmafnghokmcijaaSA
namespace Go.Proofs.Ytmafnghokmcijaa
open Go.RowKit

def cd0 : Cd := ⟨0, 0, 0, false, ⟨#[]⟩⟩
def ccells (l : List Cd) : List Value := (l.map Cd.cells).flatten
theorem ccells_append (a b : List Cd) : ccells (a ++ b) = ccells a ++ ccells b := by simp [ccells]
theorem ccells_one (c : Cd) : ccells [c] = c.cells := by simp [ccells]
theorem ccells_even (l : List Cd) : Even 5 (l.map Cd.cells) := by intro r h; obtain ⟨y, _, rfl⟩ := List.mem_map.1 h; rfl
theorem ccells_range (l : List Cd) (a k : Nat) (h : a + k ≤ l.length) : ((List.range k).map fun i => (l.getD (a + i) cd0).cells).flatten = ccells ((l.drop a).take k) := by
  unfold ccells
  congr 1
  apply List.ext_getElem
  · simp; omega
  · intro i h1 h2
    simp at h1 h2
    simp [List.getD, List.getElem?_eq_getElem (show a + i < l.length by omega)]

theorem cvec_lies {w : World} {B : Nat} {la : Option Addr} {n cap : Nat} {L : List Cd} (h : Vec w B 59 5 la n cap (ccells L)) (hn : L.length = n) : Lies w la n 5 (fun i => (L.getD i cd0).cells) := by
  refine h.lies (ccells_even L) (by simpa using hn) _ fun i hi => ?_
  have hl : i < L.length := by omega
  simp [List.getD, hl]

theorem ones2' (x : Cd) : ∀ v, v ∈ x.cells → v.oneCell' = true := by intro v h; simp at h; rcases h with rfl | rfl | rfl | rfl | rfl <;> rfl

theorem new_cells5 (w : World) (cs : List Value) (t : TypeId) (N : Nat) {b : Nat} {v0 v1 v2 v3 v4 : Value} (hN : N = w.heap.size) : ∀ j u, cs[j]? = some u → ((((((w.setCell ⟨b, 0, none⟩ v0).setCell ⟨b, 1, none⟩ v1).setCell ⟨b, 2, none⟩ v2).setCell ⟨b, 3, none⟩ v3).setCell ⟨b, 4, none⟩ v4).alloc (.cells cs.toArray t)).cell? ((⟨N, 0, none⟩ : Addr).add j) = some u := by
  intro j u h
  have := new_cells (((((w.setCell ⟨b, 0, none⟩ v0).setCell ⟨b, 1, none⟩ v1).setCell ⟨b, 2, none⟩ v2).setCell ⟨b, 3, none⟩ v3).setCell ⟨b, 4, none⟩ v4) cs t j u h
  have e : (((((w.setCell ⟨b, 0, none⟩ v0).setCell ⟨b, 1, none⟩ v1).setCell ⟨b, 2, none⟩ v2).setCell ⟨b, 3, none⟩ v3).setCell ⟨b, 4, none⟩ v4).heap.size = N := by rw [hN]; simp [World.setCell]
  rw [e] at this
  exact this

/-- A card at its place. -/
def placedL : List Cd → Cd → List Cd
  | [], c => [c]
  | o :: l, c => if o.id < c.id then o :: placedL l c else if o.id = c.id then (if laterB c o then c else o) :: l else c :: o :: l

theorem placedL_split (c : Cd) : ∀ (k : Nat) (L : List Cd), k ≤ L.length → (∀ j, j < k → (L.getD j cd0).id < c.id) → placedL L c = L.take k ++ placedL (L.drop k) c
  | 0, L, _, _ => by simp
  | k + 1, [], h, _ => by simp at h
  | k + 1, o :: L, h, hj => by
    have h0 := hj 0 (by omega)
    simp at h0
    rw [placedL, if_pos h0, placedL_split c k L (by simpa using h) (fun j hjk => by have := hj (j + 1) (by omega); simpa using this)]
    simp

theorem placedL_length (L : List Cd) (c : Cd) : (placedL L c).length ≤ L.length + 1 := by
  induction L with
  | nil => simp [placedL]
  | cons o L ih =>
    simp only [placedL]
    split
    · simp; omega
    · split <;> simp

abbrev BoxC (w : World) (c : Cd) (wr : World) : Prop := Below (w.heap.size + 1) (w.alloc (.cells #[.int .i64 c.id, .int .i64 c.site, .int .i64 c.count, .bool c.gone, .string c.text] 59)) wr

theorem bC_old {w : World} {c : Cd} {wr : World} (hb : BoxC w c wr) : Below w.heap.size w wr := ((Below.refl _ _).alloc (Nat.le_refl _) _).trans (hb.mono (by omega))
theorem bC_step {w : World} {c : Cd} {wr w1 : World} (hb : BoxC w c wr) (h : Below wr.heap.size wr w1) : BoxC w c w1 := hb.trans (h.mono (by have := hb.size; simpa using this))
theorem bC_cells {w : World} {c : Cd} {wr : World} (hb : BoxC w c wr) : wr.cell? ⟨w.heap.size, 0, none⟩ = some (.int .i64 c.id) ∧ wr.cell? ⟨w.heap.size, 1, none⟩ = some (.int .i64 c.site) ∧ wr.cell? ⟨w.heap.size, 2, none⟩ = some (.int .i64 c.count) ∧ wr.cell? ⟨w.heap.size, 3, none⟩ = some (.bool c.gone) ∧ wr.cell? ⟨w.heap.size, 4, none⟩ = some (.string c.text) := by
  refine ⟨?_, ?_, ?_, ?_, ?_⟩
  · rw [hb.cell (p := ⟨w.heap.size, 0, none⟩) (by simp), World.cell?_alloc_new]; rfl
  · rw [hb.cell (p := ⟨w.heap.size, 1, none⟩) (by simp), World.cell?_alloc_new]; rfl
  · rw [hb.cell (p := ⟨w.heap.size, 2, none⟩) (by simp), World.cell?_alloc_new]; rfl
  · rw [hb.cell (p := ⟨w.heap.size, 3, none⟩) (by simp), World.cell?_alloc_new]; rfl
  · rw [hb.cell (p := ⟨w.heap.size, 4, none⟩) (by simp), World.cell?_alloc_new]; rfl
theorem bC_size {w : World} {c : Cd} {wr : World} (hb : BoxC w c wr) : w.heap.size + 1 ≤ wr.heap.size := by have := hb.size; simpa using this

set_option maxRecDepth 100000 in
set_option maxHeartbeats 8000000 in
theorem placed_any (L : List Cd) (c : Cd) (B : Nat) (la : Option Addr) (n lcap : Nat) (w : World) (hv : Vec w B 59 5 la n lcap (ccells L)) (hn : L.length = n) (hn2 : n ≤ 1000000) :
    Calls Try.prog 46 #[.slice la n lcap, cdV c] w fun e w' => ∃ ad cap N, e = .returned (.slice ad N cap) ∧ N = (placedL L c).length ∧ Vec w' w.heap.size 59 5 ad N cap (ccells (placedL L c)) ∧ Below w.heap.size w w' := by
  have hcap := hv.cap_le
  have HL : Hid (Lies w la n 5 (fun i => (L.getD i cd0).cells)) := cvec_lies hv hn
  have HN : Hid (L.length = n) := hn
  clear hn hv
  go_enter Try.func46, Try.ntmps46
  go_wp2
  go_loopw [5] (fun v wr => ∃ k : Nat, k ≤ n ∧ v = .int .i64 k ∧ (∀ j, j < k → (L.getD j cd0).id < c.id) ∧ BoxC w c wr) (fun v _ => n - (intOf v).toNat)
  case atStart => exact ⟨0, Nat.zero_le _, rfl, fun j h => by omega, Below.refl _ _⟩
  case round =>
    obtain ⟨k, hk, rfl, hlo, hb⟩ := hrel
    have HLO : Hid (∀ j, j < k → (L.getD j cd0).id < c.id) := hlo
    clear hlo
    obtain ⟨x0, x1, x2, x3, x4⟩ := bC_cells hb
    have hLr : Lies wr la n 5 (fun i => (L.getD i cd0).cells) := HL.out.below (bC_old hb)
    by_cases hlt : k < n
    · obtain ⟨b, o, hbl, hix, c0, c1, c2, c3, c4⟩ := hLr.card lcap hlt
      have hd1 : decide ((k : Int) < (n : Int)) = true := by simp; omega
      have HLr : Hid (Lies wr la n 5 (fun i => (L.getD i cd0).cells)) := hLr
      clear hLr
      generalize hoo : L.getD k cd0 = oo at *
      have HO : Hid (L.getD k cd0 = oo) := hoo
      clear hoo
      by_cases hid : oo.id < c.id
      · have hd2 : decide (oo.id < c.id) = true := by simp [hid]
        go_wp2
        go_quiet (fail)
        go_wp2
        go_roundw
        case rel => exact ⟨k + 1, by omega, by go_num, fun j hj => by
            by_cases e : j = k
            · subst e; rw [HO.out]; exact hid
            · exact HLO.out j (by omega), below_drewN hb _⟩
        case measure => simp [intOf]; omega
      · have hd2 : decide (oo.id < c.id) = false := by simp; omega
        go_wp2
        go_quiet (fail)
        have z0 := bC_size hb
        have HT : Hid (∀ i, i < n → ((fun i => (L.getD i cd0).cells) i).length = 5) := fun _ _ => rfl
        have HU : Hid (∀ i, i < n → ∀ u, u ∈ (fun i => (L.getD i cd0).cells) i → u.oneCell' = true) := fun i _ => ones2' _
        go_wp2_with (first
          | (at_builtin; refine wpList_pushAll (by rfl) _ _ 23 (by rfl) (w.heap.size + 1) 59 5 48 (.agg #[.int .i64 0, .int .i64 0, .int .i64 0, .bool false, .string ⟨#[]⟩]) Try.underlying23 (by kernel_rfl) rfl (by decide) none 0 0 [] (by rfl) (Vec.nil _ _ _ _) la k lcap (fun i => (L.getD i cd0).cells) (by rfl) ((HLr.out.below (below_drewN (Below.refl _ _) _)).take k hk) (fun i hi => HT.out i (by omega)) (fun i hi => HU.out i (by omega)) ?_ ?_ ?_ k ?_ ?_; (omega); (omega); (exact z0); (omega); intro ad1 cap1 w1 hv1 hb1 hs1; have hq1 : BoxC w c w1 := (below_drewN hb _).trans hb1; have z1 := bC_size hq1; clear x0 x1 x2 x3 x4; obtain ⟨x0, x1, x2, x3, x4⟩ := bC_cells hq1))
        clear hix c0 c1 c2 c3 c4 hbl
        have hv1' : Vec w1 (w.heap.size + 1) 59 5 ad1 k cap1 (ccells (L.take k)) := by
          have hr := ccells_range L 0 k (by rw [HN.out]; omega)
          simp only [Nat.zero_add, List.drop_zero] at hr
          rw [List.nil_append, hr] at hv1; exact hv1
        have hL1 : Lies w1 la n 5 (fun i => (L.getD i cd0).cells) := HL.out.below (bC_old hq1)
        obtain ⟨b, o, hbl, hix, c0, c1, c2, c3, c4⟩ := hL1.card lcap hlt
        rw [HO.out] at c0 c1 c2 c3 c4
        have HL1 : Hid (Lies w1 la n 5 (fun i => (L.getD i cd0).cells)) := hL1
        clear hL1 hv1 hb1 hb HLr
        have hsplit : placedL L c = L.take k ++ placedL (L.drop k) c := placedL_split c k L (by rw [HN.out]; omega) HLO.out
        have hdrop : L.drop k = oo :: L.drop (k + 1) := by
          have hkl : k < L.length := by rw [HN.out]; exact hlt
          rw [List.drop_eq_getElem_cons hkl, ← HO.out]; simp [List.getD, hkl]
        have HS : Hid (placedL L c = L.take k ++ placedL (L.drop k) c) := hsplit
        have HD : Hid (L.drop k = oo :: L.drop (k + 1)) := hdrop
        clear hsplit hdrop
        by_cases hide : oo.id = c.id
        · have hd3 : (oo.id == c.id) = true := by simp [hide]
          go_wp2_with fail
          go_quiet (fail)
          have hqW : BoxC w c (w1.drewN nq) := below_drewN hq1 nq
          have hvW : Vec (w1.drewN nq) (w.heap.size + 1) 59 5 ad1 k cap1 (ccells (L.take k)) := hv1'.keep (below_drewN (Below.refl _ _) _)
          have hLW : Lies (w1.drewN nq) la n 5 (fun i => (L.getD i cd0).cells) := HL1.out.below (below_drewN (Below.refl _ _) _)
          generalize w1.drewN nq = W at *
          clear hix c0 c1 c2 c3 c4 hbl x0 x1 x2 x3 x4 hv1' hq1 z1 HL1
          obtain ⟨x0, x1, x2, x3, x4⟩ := bC_cells hqW
          obtain ⟨b, o, hbl, hix, c0, c1, c2, c3, c4⟩ := hLW.card lcap hlt
          rw [HO.out] at c0 c1 c2 c3 c4
          have zW := bC_size hqW
          have hwW : w.heap.size < W.heap.size := by omega
          have HI : Hid (oo.id = c.id) := hide
          clear hide
          go_wp2_with fail
          refine (later_any c oo _).mono ?_
          rintro e w2 ⟨rfl, hh⟩
          have hq2 : BoxC W oo w2 := (Below.refl _ _).trans (hh.mono (by simp))
          have hbW2 : Below W.heap.size W w2 := bC_old hq2
          have hqC : BoxC w c w2 := bC_step hqW hbW2
          obtain ⟨y0, y1, y2, y3, y4⟩ := bC_cells hq2
          have fz : ∀ j, w2.frozen? ⟨W.heap.size, j, none⟩ = false := fun j => by
            rw [hq2.frozen (p := ⟨W.heap.size, j, none⟩) (by simp)]; simp
          have f0 := fz 0; have f1 := fz 1; have f2 := fz 2; have f3 := fz 3; have f4 := fz 4
          have z2 := bC_size hq2
          clear fz hh hix c0 c1 c2 c3 c4 hbl x0 x1 x2 x3 x4
          obtain ⟨x0, x1, x2, x3, x4⟩ := bC_cells hqC
          have hown2 : Own w2 W.heap.size 59 5 [oo.cells] := ⟨by intro r hr; simp at hr; subst hr; rfl, by
            rw [hq2.block W.heap.size (by omega)]
            show (W.heap.push _)[W.heap.size]? = _
            rw [Array.getElem?_push_size]; rfl⟩
          cases hla : laterB c oo
          · have HLA : Hid (laterB c oo = false) := hla
            have HV2 : Hid (∀ o, Vec (w2.alloc o) (w.heap.size + 1) 59 5 ad1 k cap1 (ccells (L.take k))) := fun o => hvW.keep (hbW2.alloc hbW2.size o)
            have HQ2 : Hid (∀ o, BoxC w c (w2.alloc o)) := fun o => Below.alloc hqC (by omega) o
            clear hown2
            go_wp2_with (first
              | (at_builtin; refine wpList_push (by rfl) _ _ 23 (by rfl) (w.heap.size + 1) 59 5 48 (.agg #[.int .i64 0, .int .i64 0, .int .i64 0, .bool false, .string ⟨#[]⟩]) Try.underlying23 (by kernel_rfl) rfl (by decide) ad1 k cap1 _ (by rfl) (HV2.out _) _ _ oo.cells (by rfl) rfl ?_ ?_ ?_ ?_ ?_ ?_; exact new_cells _ _ _; exact ones2' _; (omega); (omega); (simp; omega); intro ad2 cap2 w3 hv2 hb3 hs3; have hq3 : BoxC w c w3 := Below.trans (HQ2.out _) hb3; have z3 := bC_size hq3)
              | (at_builtin; refine wpList_pushAll (by rfl) _ _ 23 (by rfl) (w.heap.size + 1) 59 5 48 (.agg #[.int .i64 0, .int .i64 0, .int .i64 0, .bool false, .string ⟨#[]⟩]) Try.underlying23 (by kernel_rfl) rfl (by decide) ad2 (k + 1) cap2 _ (by rfl) hv2 _ (n - (k + 1)) (lcap - (k + 1)) (fun i => (L.getD (k + 1 + i) cd0).cells) (by rfl) ((HL.out.below (bC_old hq3)).drop lcap (k + 1) hcap) (fun _ _ => rfl) (fun _ _ => ones2' _) ?_ ?_ ?_ (k + 1 + (n - (k + 1))) rfl ?_; (omega); (omega); (exact z3); intro ad3 cap3 w4 hv3 hb4 hs4))
            all_goals
              have hfin : placedL L c = L.take k ++ ([oo] ++ L.drop (k + 1)) := by
                rw [HS.out, HD.out, placedL, if_neg (by have := HI.out; omega), if_pos HI.out, HLA.out]; rfl
              have HLen : Hid (k + 1 + (n - (k + 1)) = (placedL L c).length) := by
                show _ = _; rw [hfin]; simp [HN.out]; omega
              have hfinal : Vec w4 w.heap.size 59 5 ad3 (k + 1 + (n - (k + 1))) cap3 (ccells (placedL L c)) := by
                have hr := ccells_range L (k + 1) (n - (k + 1)) (by rw [HN.out]; omega)
                have ht : (L.drop (k + 1)).take (n - (k + 1)) = L.drop (k + 1) := List.take_of_length_le (by rw [List.length_drop, HN.out]; exact Nat.le_refl _)
                rw [hr, ht] at hv3
                have h := hv3.mono (show w.heap.size ≤ w.heap.size + 1 by omega)
                rw [hfin, ccells_append, ccells_append, ccells_one, ← List.append_assoc]; exact h
              clear hfin
              go_ret
              exact ⟨ad3, cap3, _, rfl, HLen.out, hfinal, bC_old (hq3.trans hb4)⟩
          · have HLA : Hid (laterB c oo = true) := hla
            go_wp2_with (first
              | (at_builtin; refine wpList_push (by rfl) _ _ 23 (by rfl) (w.heap.size + 1) 59 5 48 (.agg #[.int .i64 0, .int .i64 0, .int .i64 0, .bool false, .string ⟨#[]⟩]) Try.underlying23 (by kernel_rfl) rfl (by decide) ad1 k cap1 _ (by rfl) (HV2.out _) _ _ c.cells (by rfl) rfl ?_ ?_ ?_ ?_ ?_ ?_; exact new_cells _ _ _; exact ones2' _; (omega); (omega); (simp; omega); intro ad2 cap2 w3 hv2 hb3 hs3; have hq3 : BoxC w c w3 := Below.trans (HQ2.out _) hb3; have z3 := bC_size hq3)
              | (at_builtin; refine wpList_pushAll (by rfl) _ _ 23 (by rfl) (w.heap.size + 1) 59 5 48 (.agg #[.int .i64 0, .int .i64 0, .int .i64 0, .bool false, .string ⟨#[]⟩]) Try.underlying23 (by kernel_rfl) rfl (by decide) ad2 (k + 1) cap2 _ (by rfl) hv2 _ (n - (k + 1)) (lcap - (k + 1)) (fun i => (L.getD (k + 1 + i) cd0).cells) (by rfl) ((HL.out.below (bC_old hq3)).drop lcap (k + 1) hcap) (fun _ _ => rfl) (fun _ _ => ones2' _) ?_ ?_ ?_ (k + 1 + (n - (k + 1))) rfl ?_; (omega); (omega); (exact z3); intro ad3 cap3 w4 hv3 hb4 hs4)
              | (refine wpList_store_rows (by rfl) _ _ 59 (by rfl) 59 5 (by kernel_rfl) W.heap.size 0 _ (by rfl) (by rfl) c.cells (by rfl) rfl (ones2' c) [oo.cells] hown2 (by simp) ?_; intro w5 ow uw; have hbW5 : Below W.heap.size W w5 := uw.below hbW2 (Nat.le_refl _); have hqC5 : BoxC w c w5 := bC_step hqW hbW5; have y0' : w5.cell? ⟨W.heap.size, 0, none⟩ = some (.int .i64 c.id) := ow.cell 0 0 (by simp) (by omega); have y1' : w5.cell? ⟨W.heap.size, 1, none⟩ = some (.int .i64 c.site) := ow.cell 0 1 (by simp) (by omega); have y2' : w5.cell? ⟨W.heap.size, 2, none⟩ = some (.int .i64 c.count) := ow.cell 0 2 (by simp) (by omega); have y3' : w5.cell? ⟨W.heap.size, 3, none⟩ = some (.bool c.gone) := ow.cell 0 3 (by simp) (by omega); have y4' : w5.cell? ⟨W.heap.size, 4, none⟩ = some (.string c.text) := ow.cell 0 4 (by simp) (by omega); have z5 : w.heap.size + 1 ≤ w5.heap.size := bC_size hqC5; have HV2 : Hid (∀ o, Vec (w5.alloc o) (w.heap.size + 1) 59 5 ad1 k cap1 (ccells (L.take k))) := fun o => hvW.keep (hbW5.alloc hbW5.size o); have HQ2 : Hid (∀ o, BoxC w c (w5.alloc o)) := fun o => Below.alloc hqC5 z5 o; clear hown2 y0 y1 y2 y3 y4 f0 f1 f2 f3 f4 ow uw x0 x1 x2 x3 x4))
            all_goals
              have hfin : placedL L c = L.take k ++ ([c] ++ L.drop (k + 1)) := by
                rw [HS.out, HD.out, placedL, if_neg (by have := HI.out; omega), if_pos HI.out, HLA.out]; rfl
              have HLen : Hid (k + 1 + (n - (k + 1)) = (placedL L c).length) := by
                show _ = _; rw [hfin]; simp [HN.out]; omega
              have hfinal : Vec w4 w.heap.size 59 5 ad3 (k + 1 + (n - (k + 1))) cap3 (ccells (placedL L c)) := by
                have hr := ccells_range L (k + 1) (n - (k + 1)) (by rw [HN.out]; omega)
                have ht : (L.drop (k + 1)).take (n - (k + 1)) = L.drop (k + 1) := List.take_of_length_le (by rw [List.length_drop, HN.out]; exact Nat.le_refl _)
                rw [hr, ht] at hv3
                have h := hv3.mono (show w.heap.size ≤ w.heap.size + 1 by omega)
                rw [hfin, ccells_append, ccells_append, ccells_one, ← List.append_assoc]; exact h
              clear hfin
              go_ret
              exact ⟨ad3, cap3, _, rfl, HLen.out, hfinal, bC_old (hq3.trans hb4)⟩
        · have hd3 : (oo.id == c.id) = false := by simp [hide]
          have hfin : placedL L c = L.take k ++ ([c] ++ L.drop k) := by
            rw [HS.out, HD.out, placedL, if_neg (by omega), if_neg hide]; rfl
          have HF : Hid (placedL L c = L.take k ++ ([c] ++ L.drop k)) := hfin
          clear hfin hide
          go_wp2_with fail
          go_quiet (fail)
          go_wp2_with (first
            | (at_builtin; refine wpList_push (by rfl) _ _ 23 (by rfl) (w.heap.size + 1) 59 5 48 (.agg #[.int .i64 0, .int .i64 0, .int .i64 0, .bool false, .string ⟨#[]⟩]) Try.underlying23 (by kernel_rfl) rfl (by decide) ad1 k cap1 _ (by rfl) (hv1'.keep (((Below.refl _ w1).alloc (Nat.le_refl _) _).trans (below_drewN (Below.refl _ _) _))) _ _ c.cells (by rfl) rfl ?_ ?_ ?_ ?_ ?_ ?_; exact new_cells (w1.drewN _) _ _; exact ones2' _; (omega); (omega); (simp; omega); intro ad2 cap2 w2 hv2 hb2 hs2; have hq2 : BoxC w c w2 := (Below.alloc (below_drewN hq1 _) z1 _).trans hb2; have z2 := bC_size hq2; clear hv1')
            | (at_builtin; refine wpList_pushAll (by rfl) _ _ 23 (by rfl) (w.heap.size + 1) 59 5 48 (.agg #[.int .i64 0, .int .i64 0, .int .i64 0, .bool false, .string ⟨#[]⟩]) Try.underlying23 (by kernel_rfl) rfl (by decide) ad2 (k + 1) cap2 _ (by rfl) hv2 _ (n - k) (lcap - k) (fun i => (L.getD (k + i) cd0).cells) (by rfl) ((HL.out.below (bC_old hq2)).drop' lcap k hcap (by omega)) (fun _ _ => rfl) (fun _ _ => ones2' _) ?_ ?_ ?_ (k + 1 + (n - k)) rfl ?_; (omega); (omega); (exact z2); intro ad3 cap3 w3 hv3 hb3 hs3))
          have hfinal : Vec w3 w.heap.size 59 5 ad3 (k + 1 + (n - k)) cap3 (ccells (placedL L c)) := by
            have hr := ccells_range L k (n - k) (by rw [HN.out]; omega)
            have ht : (L.drop k).take (n - k) = L.drop k := List.take_of_length_le (by rw [List.length_drop, HN.out]; exact Nat.le_refl _)
            rw [hr, ht] at hv3
            have h := hv3.mono (show w.heap.size ≤ w.heap.size + 1 by omega)
            rw [HF.out, ccells_append, ccells_append, ccells_one, ← List.append_assoc]; exact h
          have hlen : k + 1 + (n - k) = (placedL L c).length := by
            rw [HF.out]; simp [HN.out]; omega
          have HLen : Hid (k + 1 + (n - k) = (placedL L c).length) := hlen
          clear hlen
          go_ret
          exact ⟨ad3, cap3, _, rfl, HLen.out, hfinal, bC_old (hq2.trans hb3)⟩
    · have hd1 : decide ((k : Int) < (n : Int)) = false := by simp; omega
      have HLr : Hid (Lies wr la n 5 (fun i => (L.getD i cd0).cells)) := hLr
      have z0 := bC_size hb
      have hkn : k = n := by omega
      have hfin : placedL L c = L.take k ++ ([c] ++ L.drop k) := by
        rw [placedL_split c k L (by rw [HN.out]; omega) HLO.out, List.drop_of_length_le (by rw [HN.out]; omega)]; rfl
      have HF : Hid (placedL L c = L.take k ++ ([c] ++ L.drop k)) := hfin
      have HKN : Hid (k = n) := hkn
      clear hLr hfin hkn
      go_wp2
      go_quiet (fail)
      go_wp2_with (first
        | (at_builtin; refine wpList_pushAll (by rfl) _ _ 23 (by rfl) (w.heap.size + 1) 59 5 48 (.agg #[.int .i64 0, .int .i64 0, .int .i64 0, .bool false, .string ⟨#[]⟩]) Try.underlying23 (by kernel_rfl) rfl (by decide) none 0 0 [] (by rfl) (Vec.nil _ _ _ _) la k lcap (fun i => (L.getD i cd0).cells) (by rfl) ((HLr.out.below (below_drewN (Below.refl _ _) _)).take k hk) (fun _ _ => rfl) (fun _ _ => ones2' _) ?_ ?_ ?_ k ?_ ?_; (omega); (omega); (exact z0); (omega); intro ad1 cap1 w1 hv1 hb1 hs1; have hq1 : BoxC w c w1 := (below_drewN hb _).trans hb1; have z1 := bC_size hq1; clear x0 x1 x2 x3 x4; obtain ⟨x0, x1, x2, x3, x4⟩ := bC_cells hq1))
      have hv1' : Vec w1 (w.heap.size + 1) 59 5 ad1 k cap1 (ccells (L.take k)) := by
        have hr := ccells_range L 0 k (by rw [HN.out]; omega)
        simp only [Nat.zero_add, List.drop_zero] at hr
        rw [List.nil_append, hr] at hv1; exact hv1
      clear hv1 hb1
      go_quiet (fail)
      have hqW : BoxC w c (w1.drewN nq) := below_drewN hq1 nq
      have hvW : Vec (w1.drewN nq) (w.heap.size + 1) 59 5 ad1 k cap1 (ccells (L.take k)) := hv1'.keep (below_drewN (Below.refl _ _) _)
      generalize w1.drewN nq = W at *
      clear x0 x1 x2 x3 x4 hv1' hq1 z1
      obtain ⟨x0, x1, x2, x3, x4⟩ := bC_cells hqW
      have zW := bC_size hqW
      go_wp2_with (first
        | (at_builtin; refine wpList_push (by rfl) _ _ 23 (by rfl) (w.heap.size + 1) 59 5 48 (.agg #[.int .i64 0, .int .i64 0, .int .i64 0, .bool false, .string ⟨#[]⟩]) Try.underlying23 (by kernel_rfl) rfl (by decide) ad1 k cap1 _ (by rfl) (hvW.keep ((Below.refl _ W).alloc (Nat.le_refl _) _)) _ _ c.cells (by rfl) rfl ?_ ?_ ?_ ?_ ?_ ?_; exact new_cells _ _ _; exact ones2' _; (omega); (omega); (simp; omega); intro ad2 cap2 w2 hv2 hb2 hs2; have hq2 : BoxC w c w2 := (Below.alloc hqW zW _).trans hb2; have z2 := bC_size hq2)
        | (at_builtin; refine wpList_pushAll (by rfl) _ _ 23 (by rfl) (w.heap.size + 1) 59 5 48 (.agg #[.int .i64 0, .int .i64 0, .int .i64 0, .bool false, .string ⟨#[]⟩]) Try.underlying23 (by kernel_rfl) rfl (by decide) ad2 (k + 1) cap2 _ (by rfl) hv2 _ (n - k) (lcap - k) (fun i => (L.getD (k + i) cd0).cells) (by rfl) ((HL.out.below (bC_old hq2)).drop lcap k hcap) (fun _ _ => rfl) (fun _ _ => ones2' _) ?_ ?_ ?_ (k + 1 + (n - k)) rfl ?_; (omega); (omega); (exact z2); intro ad3 cap3 w3 hv3 hb3 hs3))
      all_goals
        have hfinal : Vec w3 w.heap.size 59 5 ad3 (k + 1 + (n - k)) cap3 (ccells (placedL L c)) := by
          have hr := ccells_range L k (n - k) (by rw [HN.out]; omega)
          have ht : (L.drop k).take (n - k) = L.drop k := List.take_of_length_le (by rw [List.length_drop, HN.out]; exact Nat.le_refl _)
          rw [hr, ht] at hv3
          have h := hv3.mono (show w.heap.size ≤ w.heap.size + 1 by omega)
          rw [HF.out, ccells_append, ccells_append, ccells_one, ← List.append_assoc]; exact h
        have HLen : Hid (k + 1 + (n - k) = (placedL L c).length) := by
          show _ = _; rw [HF.out]; simp [HN.out]; omega
        go_ret
        exact ⟨ad3, cap3, _, rfl, HLen.out, hfinal, bC_old (hq2.trans hb3)⟩
end Go.Proofs.Ytmafnghokmcijaa
