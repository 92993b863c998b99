/- Texts of the proof, one behind the other; what each holds is said at its head. -/
import Derived.Test.YtdjpkgaicmklmabPartMissing0
import Derived.Laws.Bits64
/- A card laid among cards: parcelkeep.placed, walked. -/
namespace Go.Proofs.Ytdjpkgaicmklmab
open Go.RowKit

def cd0 : Cd := ⟨0, 0, 0, false, ⟨#[]⟩⟩
def ccells (l : List Cd) : List Value := (l.map Cd.cells).flatten
theorem ccells_append (a b : List Cd) : ccells (a ++ b) = ccells a ++ ccells b := by simp [ccells]
theorem ccells_one (c : Cd) : ccells [c] = c.cells := by simp [ccells]
theorem ccells_even (l : List Cd) : Even 5 (l.map Cd.cells) := by intro r h; obtain ⟨y, _, rfl⟩ := List.mem_map.1 h; rfl
theorem ccells_range (l : List Cd) (a k : Nat) (h : a + k ≤ l.length) : ((List.range k).map fun i => (l.getD (a + i) cd0).cells).flatten = ccells ((l.drop a).take k) := by
  unfold ccells
  congr 1
  apply List.ext_getElem
  · simp; omega
  · intro i h1 h2
    simp at h1 h2
    simp [List.getD, List.getElem?_eq_getElem (show a + i < l.length by omega)]

theorem cvec_lies {w : World} {B : Nat} {la : Option Addr} {n cap : Nat} {L : List Cd} (h : Vec w B 68 5 la n cap (ccells L)) (hn : L.length = n) : Lies w la n 5 (fun i => (L.getD i cd0).cells) := by
  refine h.lies (ccells_even L) (by simpa using hn) _ fun i hi => ?_
  have hl : i < L.length := by omega
  simp [List.getD, hl]

theorem ones2' (x : Cd) : ∀ v, v ∈ x.cells → v.oneCell' = true := by intro v h; simp at h; rcases h with rfl | rfl | rfl | rfl | rfl <;> rfl

theorem new_cells5 (w : World) (cs : List Value) (t : TypeId) (N : Nat) {b : Nat} {v0 v1 v2 v3 v4 : Value} (hN : N = w.heap.size) : ∀ j u, cs[j]? = some u → ((((((w.setCell ⟨b, 0, none⟩ v0).setCell ⟨b, 1, none⟩ v1).setCell ⟨b, 2, none⟩ v2).setCell ⟨b, 3, none⟩ v3).setCell ⟨b, 4, none⟩ v4).alloc (.cells cs.toArray t)).cell? ((⟨N, 0, none⟩ : Addr).add j) = some u := by
  intro j u h
  have := new_cells (((((w.setCell ⟨b, 0, none⟩ v0).setCell ⟨b, 1, none⟩ v1).setCell ⟨b, 2, none⟩ v2).setCell ⟨b, 3, none⟩ v3).setCell ⟨b, 4, none⟩ v4) cs t j u h
  have e : (((((w.setCell ⟨b, 0, none⟩ v0).setCell ⟨b, 1, none⟩ v1).setCell ⟨b, 2, none⟩ v2).setCell ⟨b, 3, none⟩ v3).setCell ⟨b, 4, none⟩ v4).heap.size = N := by rw [hN]; simp [World.setCell]
  rw [e] at this
  exact this

/-- A card at its place. -/
def placedL : List Cd → Cd → List Cd
  | [], c => [c]
  | o :: l, c => if o.id < c.id then o :: placedL l c else if o.id = c.id then (if laterB c o then c else o) :: l else c :: o :: l

theorem placedL_split (c : Cd) : ∀ (k : Nat) (L : List Cd), k ≤ L.length → (∀ j, j < k → (L.getD j cd0).id < c.id) → placedL L c = L.take k ++ placedL (L.drop k) c
  | 0, L, _, _ => by simp
  | k + 1, [], h, _ => by simp at h
  | k + 1, o :: L, h, hj => by
    have h0 := hj 0 (by omega)
    simp at h0
    rw [placedL, if_pos h0, placedL_split c k L (by simpa using h) (fun j hjk => by have := hj (j + 1) (by omega); simpa using this)]
    simp

theorem placedL_length (L : List Cd) (c : Cd) : (placedL L c).length ≤ L.length + 1 := by
  induction L with
  | nil => simp [placedL]
  | cons o L ih =>
    simp only [placedL]
    split
    · simp; omega
    · split <;> simp

abbrev BoxC (w : World) (c : Cd) (wr : World) : Prop := Below (w.heap.size + 1) (w.alloc (.cells #[.int .i64 c.id, .int .i64 c.site, .int .i64 c.count, .bool c.gone, .string c.text] 68)) wr

theorem bC_old {w : World} {c : Cd} {wr : World} (hb : BoxC w c wr) : Below w.heap.size w wr := ((Below.refl _ _).alloc (Nat.le_refl _) _).trans (hb.mono (by omega))
theorem bC_step {w : World} {c : Cd} {wr w1 : World} (hb : BoxC w c wr) (h : Below wr.heap.size wr w1) : BoxC w c w1 := hb.trans (h.mono (by have := hb.size; simpa using this))
theorem bC_cells {w : World} {c : Cd} {wr : World} (hb : BoxC w c wr) : wr.cell? ⟨w.heap.size, 0, none⟩ = some (.int .i64 c.id) ∧ wr.cell? ⟨w.heap.size, 1, none⟩ = some (.int .i64 c.site) ∧ wr.cell? ⟨w.heap.size, 2, none⟩ = some (.int .i64 c.count) ∧ wr.cell? ⟨w.heap.size, 3, none⟩ = some (.bool c.gone) ∧ wr.cell? ⟨w.heap.size, 4, none⟩ = some (.string c.text) := by
  refine ⟨?_, ?_, ?_, ?_, ?_⟩
  · rw [hb.cell (p := ⟨w.heap.size, 0, none⟩) (by simp), World.cell?_alloc_new]; rfl
  · rw [hb.cell (p := ⟨w.heap.size, 1, none⟩) (by simp), World.cell?_alloc_new]; rfl
  · rw [hb.cell (p := ⟨w.heap.size, 2, none⟩) (by simp), World.cell?_alloc_new]; rfl
  · rw [hb.cell (p := ⟨w.heap.size, 3, none⟩) (by simp), World.cell?_alloc_new]; rfl
  · rw [hb.cell (p := ⟨w.heap.size, 4, none⟩) (by simp), World.cell?_alloc_new]; rfl
theorem bC_size {w : World} {c : Cd} {wr : World} (hb : BoxC w c wr) : w.heap.size + 1 ≤ wr.heap.size := by have := hb.size; simpa using this

set_option maxRecDepth 100000 in
set_option maxHeartbeats 8000000 in
theorem placed_any (L : List Cd) (c : Cd) (B : Nat) (la : Option Addr) (n lcap : Nat) (w : World) (hv : Vec w B 68 5 la n lcap (ccells L)) (hn : L.length = n) (hn2 : n ≤ 1000000) :
    Calls Try.prog 30 #[.slice la n lcap, cdV c] w fun e w' => ∃ ad cap N, e = .returned (.slice ad N cap) ∧ N = (placedL L c).length ∧ Vec w' w.heap.size 68 5 ad N cap (ccells (placedL L c)) ∧ Below w.heap.size w w' := by
  have hcap := hv.cap_le
  have HL : Hid (Lies w la n 5 (fun i => (L.getD i cd0).cells)) := cvec_lies hv hn
  have HN : Hid (L.length = n) := hn
  clear hn hv
  go_enter Try.func30, Try.ntmps30
  go_wp2
  go_loopw [5] (fun v wr => ∃ k : Nat, k ≤ n ∧ v = .int .i64 k ∧ (∀ j, j < k → (L.getD j cd0).id < c.id) ∧ BoxC w c wr) (fun v _ => n - (intOf v).toNat)
  case atStart => exact ⟨0, Nat.zero_le _, rfl, fun j h => by omega, Below.refl _ _⟩
  case round =>
    obtain ⟨k, hk, rfl, hlo, hb⟩ := hrel
    have HLO : Hid (∀ j, j < k → (L.getD j cd0).id < c.id) := hlo
    clear hlo
    obtain ⟨x0, x1, x2, x3, x4⟩ := bC_cells hb
    have hLr : Lies wr la n 5 (fun i => (L.getD i cd0).cells) := HL.out.below (bC_old hb)
    by_cases hlt : k < n
    · obtain ⟨b, o, hbl, hix, c0, c1, c2, c3, c4⟩ := hLr.card lcap hlt
      have hd1 : decide ((k : Int) < (n : Int)) = true := by simp; omega
      have HLr : Hid (Lies wr la n 5 (fun i => (L.getD i cd0).cells)) := hLr
      clear hLr
      generalize hoo : L.getD k cd0 = oo at *
      have HO : Hid (L.getD k cd0 = oo) := hoo
      clear hoo
      by_cases hid : oo.id < c.id
      · have hd2 : decide (oo.id < c.id) = true := by simp [hid]
        go_wp2
        go_quiet (fail)
        go_wp2
        go_roundw
        case rel => exact ⟨k + 1, by omega, by go_num, fun j hj => by
            by_cases e : j = k
            · subst e; rw [HO.out]; exact hid
            · exact HLO.out j (by omega), below_drewN hb _⟩
        case measure => simp [intOf]; omega
      · have hd2 : decide (oo.id < c.id) = false := by simp; omega
        go_wp2
        go_quiet (fail)
        have z0 := bC_size hb
        have HT : Hid (∀ i, i < n → ((fun i => (L.getD i cd0).cells) i).length = 5) := fun _ _ => rfl
        have HU : Hid (∀ i, i < n → ∀ u, u ∈ (fun i => (L.getD i cd0).cells) i → u.oneCell' = true) := fun i _ => ones2' _
        go_wp2_with (first
          | (at_builtin; refine wpList_pushAll (by rfl) _ _ 25 (by rfl) (w.heap.size + 1) 68 5 48 (.agg #[.int .i64 0, .int .i64 0, .int .i64 0, .bool false, .string ⟨#[]⟩]) Try.underlying25 (by kernel_rfl) rfl (by decide) none 0 0 [] (by rfl) (Vec.nil _ _ _ _) la k lcap (fun i => (L.getD i cd0).cells) (by rfl) ((HLr.out.below (below_drewN (Below.refl _ _) _)).take k hk) (fun i hi => HT.out i (by omega)) (fun i hi => HU.out i (by omega)) ?_ ?_ ?_ k ?_ ?_; (omega); (omega); (exact z0); (omega); intro ad1 cap1 w1 hv1 hb1 hs1; have hq1 : BoxC w c w1 := (below_drewN hb _).trans hb1; have z1 := bC_size hq1; clear x0 x1 x2 x3 x4; obtain ⟨x0, x1, x2, x3, x4⟩ := bC_cells hq1))
        clear hix c0 c1 c2 c3 c4 hbl
        have hv1' : Vec w1 (w.heap.size + 1) 68 5 ad1 k cap1 (ccells (L.take k)) := by
          have hr := ccells_range L 0 k (by rw [HN.out]; omega)
          simp only [Nat.zero_add, List.drop_zero] at hr
          rw [List.nil_append, hr] at hv1; exact hv1
        have hL1 : Lies w1 la n 5 (fun i => (L.getD i cd0).cells) := HL.out.below (bC_old hq1)
        obtain ⟨b, o, hbl, hix, c0, c1, c2, c3, c4⟩ := hL1.card lcap hlt
        rw [HO.out] at c0 c1 c2 c3 c4
        have HL1 : Hid (Lies w1 la n 5 (fun i => (L.getD i cd0).cells)) := hL1
        clear hL1 hv1 hb1 hb HLr
        have hsplit : placedL L c = L.take k ++ placedL (L.drop k) c := placedL_split c k L (by rw [HN.out]; omega) HLO.out
        have hdrop : L.drop k = oo :: L.drop (k + 1) := by
          have hkl : k < L.length := by rw [HN.out]; exact hlt
          rw [List.drop_eq_getElem_cons hkl, ← HO.out]; simp [List.getD, hkl]
        have HS : Hid (placedL L c = L.take k ++ placedL (L.drop k) c) := hsplit
        have HD : Hid (L.drop k = oo :: L.drop (k + 1)) := hdrop
        clear hsplit hdrop
        by_cases hide : oo.id = c.id
        · have hd3 : (oo.id == c.id) = true := by simp [hide]
          go_wp2_with fail
          go_quiet (fail)
          have hqW : BoxC w c (w1.drewN nq) := below_drewN hq1 nq
          have hvW : Vec (w1.drewN nq) (w.heap.size + 1) 68 5 ad1 k cap1 (ccells (L.take k)) := hv1'.keep (below_drewN (Below.refl _ _) _)
          have hLW : Lies (w1.drewN nq) la n 5 (fun i => (L.getD i cd0).cells) := HL1.out.below (below_drewN (Below.refl _ _) _)
          generalize w1.drewN nq = W at *
          clear hix c0 c1 c2 c3 c4 hbl x0 x1 x2 x3 x4 hv1' hq1 z1 HL1
          obtain ⟨x0, x1, x2, x3, x4⟩ := bC_cells hqW
          obtain ⟨b, o, hbl, hix, c0, c1, c2, c3, c4⟩ := hLW.card lcap hlt
          rw [HO.out] at c0 c1 c2 c3 c4
          have zW := bC_size hqW
          have hwW : w.heap.size < W.heap.size := by omega
          have HI : Hid (oo.id = c.id) := hide
          clear hide
          go_wp2_with fail
          refine (later_any c oo _).mono ?_
          rintro e w2 ⟨rfl, hh⟩
          have hq2 : BoxC W oo w2 := (Below.refl _ _).trans (hh.mono (by simp))
          have hbW2 : Below W.heap.size W w2 := bC_old hq2
          have hqC : BoxC w c w2 := bC_step hqW hbW2
          obtain ⟨y0, y1, y2, y3, y4⟩ := bC_cells hq2
          have fz : ∀ j, w2.frozen? ⟨W.heap.size, j, none⟩ = false := fun j => by
            rw [hq2.frozen (p := ⟨W.heap.size, j, none⟩) (by simp)]; simp
          have f0 := fz 0; have f1 := fz 1; have f2 := fz 2; have f3 := fz 3; have f4 := fz 4
          have z2 := bC_size hq2
          clear fz hh hix c0 c1 c2 c3 c4 hbl x0 x1 x2 x3 x4
          obtain ⟨x0, x1, x2, x3, x4⟩ := bC_cells hqC
          have hown2 : Own w2 W.heap.size 68 5 [oo.cells] := ⟨by intro r hr; simp at hr; subst hr; rfl, by
            rw [hq2.block W.heap.size (by omega)]
            show (W.heap.push _)[W.heap.size]? = _
            rw [Array.getElem?_push_size]; rfl⟩
          cases hla : laterB c oo
          · have HLA : Hid (laterB c oo = false) := hla
            have HV2 : Hid (∀ o, Vec (w2.alloc o) (w.heap.size + 1) 68 5 ad1 k cap1 (ccells (L.take k))) := fun o => hvW.keep (hbW2.alloc hbW2.size o)
            have HQ2 : Hid (∀ o, BoxC w c (w2.alloc o)) := fun o => Below.alloc hqC (by omega) o
            clear hown2
            go_wp2_with (first
              | (at_builtin; refine wpList_push (by rfl) _ _ 25 (by rfl) (w.heap.size + 1) 68 5 48 (.agg #[.int .i64 0, .int .i64 0, .int .i64 0, .bool false, .string ⟨#[]⟩]) Try.underlying25 (by kernel_rfl) rfl (by decide) ad1 k cap1 _ (by rfl) (HV2.out _) _ _ oo.cells (by rfl) rfl ?_ ?_ ?_ ?_ ?_ ?_; exact new_cells _ _ _; exact ones2' _; (omega); (omega); (simp; omega); intro ad2 cap2 w3 hv2 hb3 hs3; have hq3 : BoxC w c w3 := Below.trans (HQ2.out _) hb3; have z3 := bC_size hq3)
              | (at_builtin; refine wpList_pushAll (by rfl) _ _ 25 (by rfl) (w.heap.size + 1) 68 5 48 (.agg #[.int .i64 0, .int .i64 0, .int .i64 0, .bool false, .string ⟨#[]⟩]) Try.underlying25 (by kernel_rfl) rfl (by decide) ad2 (k + 1) cap2 _ (by rfl) hv2 _ (n - (k + 1)) (lcap - (k + 1)) (fun i => (L.getD (k + 1 + i) cd0).cells) (by rfl) ((HL.out.below (bC_old hq3)).drop lcap (k + 1) hcap) (fun _ _ => rfl) (fun _ _ => ones2' _) ?_ ?_ ?_ (k + 1 + (n - (k + 1))) rfl ?_; (omega); (omega); (exact z3); intro ad3 cap3 w4 hv3 hb4 hs4))
            all_goals
              have hfin : placedL L c = L.take k ++ ([oo] ++ L.drop (k + 1)) := by
                rw [HS.out, HD.out, placedL, if_neg (by have := HI.out; omega), if_pos HI.out, HLA.out]; rfl
              have HLen : Hid (k + 1 + (n - (k + 1)) = (placedL L c).length) := by
                show _ = _; rw [hfin]; simp [HN.out]; omega
              have hfinal : Vec w4 w.heap.size 68 5 ad3 (k + 1 + (n - (k + 1))) cap3 (ccells (placedL L c)) := by
                have hr := ccells_range L (k + 1) (n - (k + 1)) (by rw [HN.out]; omega)
                have ht : (L.drop (k + 1)).take (n - (k + 1)) = L.drop (k + 1) := List.take_of_length_le (by rw [List.length_drop, HN.out]; exact Nat.le_refl _)
                rw [hr, ht] at hv3
                have h := hv3.mono (show w.heap.size ≤ w.heap.size + 1 by omega)
                rw [hfin, ccells_append, ccells_append, ccells_one, ← List.append_assoc]; exact h
              clear hfin
              go_ret
              exact ⟨ad3, cap3, _, rfl, HLen.out, hfinal, bC_old (hq3.trans hb4)⟩
          · have HLA : Hid (laterB c oo = true) := hla
            go_wp2_with (first
              | (at_builtin; refine wpList_push (by rfl) _ _ 25 (by rfl) (w.heap.size + 1) 68 5 48 (.agg #[.int .i64 0, .int .i64 0, .int .i64 0, .bool false, .string ⟨#[]⟩]) Try.underlying25 (by kernel_rfl) rfl (by decide) ad1 k cap1 _ (by rfl) (HV2.out _) _ _ c.cells (by rfl) rfl ?_ ?_ ?_ ?_ ?_ ?_; exact new_cells _ _ _; exact ones2' _; (omega); (omega); (simp; omega); intro ad2 cap2 w3 hv2 hb3 hs3; have hq3 : BoxC w c w3 := Below.trans (HQ2.out _) hb3; have z3 := bC_size hq3)
              | (at_builtin; refine wpList_pushAll (by rfl) _ _ 25 (by rfl) (w.heap.size + 1) 68 5 48 (.agg #[.int .i64 0, .int .i64 0, .int .i64 0, .bool false, .string ⟨#[]⟩]) Try.underlying25 (by kernel_rfl) rfl (by decide) ad2 (k + 1) cap2 _ (by rfl) hv2 _ (n - (k + 1)) (lcap - (k + 1)) (fun i => (L.getD (k + 1 + i) cd0).cells) (by rfl) ((HL.out.below (bC_old hq3)).drop lcap (k + 1) hcap) (fun _ _ => rfl) (fun _ _ => ones2' _) ?_ ?_ ?_ (k + 1 + (n - (k + 1))) rfl ?_; (omega); (omega); (exact z3); intro ad3 cap3 w4 hv3 hb4 hs4)
              | (refine wpList_store_rows (by rfl) _ _ 68 (by rfl) 68 5 (by kernel_rfl) W.heap.size 0 _ (by rfl) (by rfl) c.cells (by rfl) rfl (ones2' c) [oo.cells] hown2 (by simp) ?_; intro w5 ow uw; have hbW5 : Below W.heap.size W w5 := uw.below hbW2 (Nat.le_refl _); have hqC5 : BoxC w c w5 := bC_step hqW hbW5; have y0' : w5.cell? ⟨W.heap.size, 0, none⟩ = some (.int .i64 c.id) := ow.cell 0 0 (by simp) (by omega); have y1' : w5.cell? ⟨W.heap.size, 1, none⟩ = some (.int .i64 c.site) := ow.cell 0 1 (by simp) (by omega); have y2' : w5.cell? ⟨W.heap.size, 2, none⟩ = some (.int .i64 c.count) := ow.cell 0 2 (by simp) (by omega); have y3' : w5.cell? ⟨W.heap.size, 3, none⟩ = some (.bool c.gone) := ow.cell 0 3 (by simp) (by omega); have y4' : w5.cell? ⟨W.heap.size, 4, none⟩ = some (.string c.text) := ow.cell 0 4 (by simp) (by omega); have z5 : w.heap.size + 1 ≤ w5.heap.size := bC_size hqC5; have HV2 : Hid (∀ o, Vec (w5.alloc o) (w.heap.size + 1) 68 5 ad1 k cap1 (ccells (L.take k))) := fun o => hvW.keep (hbW5.alloc hbW5.size o); have HQ2 : Hid (∀ o, BoxC w c (w5.alloc o)) := fun o => Below.alloc hqC5 z5 o; clear hown2 y0 y1 y2 y3 y4 f0 f1 f2 f3 f4 ow uw x0 x1 x2 x3 x4))
            all_goals
              have hfin : placedL L c = L.take k ++ ([c] ++ L.drop (k + 1)) := by
                rw [HS.out, HD.out, placedL, if_neg (by have := HI.out; omega), if_pos HI.out, HLA.out]; rfl
              have HLen : Hid (k + 1 + (n - (k + 1)) = (placedL L c).length) := by
                show _ = _; rw [hfin]; simp [HN.out]; omega
              have hfinal : Vec w4 w.heap.size 68 5 ad3 (k + 1 + (n - (k + 1))) cap3 (ccells (placedL L c)) := by
                have hr := ccells_range L (k + 1) (n - (k + 1)) (by rw [HN.out]; omega)
                have ht : (L.drop (k + 1)).take (n - (k + 1)) = L.drop (k + 1) := List.take_of_length_le (by rw [List.length_drop, HN.out]; exact Nat.le_refl _)
                rw [hr, ht] at hv3
                have h := hv3.mono (show w.heap.size ≤ w.heap.size + 1 by omega)
                rw [hfin, ccells_append, ccells_append, ccells_one, ← List.append_assoc]; exact h
              clear hfin
              go_ret
              exact ⟨ad3, cap3, _, rfl, HLen.out, hfinal, bC_old (hq3.trans hb4)⟩
        · have hd3 : (oo.id == c.id) = false := by simp [hide]
          have hfin : placedL L c = L.take k ++ ([c] ++ L.drop k) := by
            rw [HS.out, HD.out, placedL, if_neg (by omega), if_neg hide]; rfl
          have HF : Hid (placedL L c = L.take k ++ ([c] ++ L.drop k)) := hfin
          clear hfin hide
          go_wp2_with fail
          go_quiet (fail)
          go_wp2_with (first
            | (at_builtin; refine wpList_push (by rfl) _ _ 25 (by rfl) (w.heap.size + 1) 68 5 48 (.agg #[.int .i64 0, .int .i64 0, .int .i64 0, .bool false, .string ⟨#[]⟩]) Try.underlying25 (by kernel_rfl) rfl (by decide) ad1 k cap1 _ (by rfl) (hv1'.keep (((Below.refl _ w1).alloc (Nat.le_refl _) _).trans (below_drewN (Below.refl _ _) _))) _ _ c.cells (by rfl) rfl ?_ ?_ ?_ ?_ ?_ ?_; exact new_cells (w1.drewN _) _ _; exact ones2' _; (omega); (omega); (simp; omega); intro ad2 cap2 w2 hv2 hb2 hs2; have hq2 : BoxC w c w2 := (Below.alloc (below_drewN hq1 _) z1 _).trans hb2; have z2 := bC_size hq2; clear hv1')
            | (at_builtin; refine wpList_pushAll (by rfl) _ _ 25 (by rfl) (w.heap.size + 1) 68 5 48 (.agg #[.int .i64 0, .int .i64 0, .int .i64 0, .bool false, .string ⟨#[]⟩]) Try.underlying25 (by kernel_rfl) rfl (by decide) ad2 (k + 1) cap2 _ (by rfl) hv2 _ (n - k) (lcap - k) (fun i => (L.getD (k + i) cd0).cells) (by rfl) ((HL.out.below (bC_old hq2)).drop' lcap k hcap (by omega)) (fun _ _ => rfl) (fun _ _ => ones2' _) ?_ ?_ ?_ (k + 1 + (n - k)) rfl ?_; (omega); (omega); (exact z2); intro ad3 cap3 w3 hv3 hb3 hs3))
          have hfinal : Vec w3 w.heap.size 68 5 ad3 (k + 1 + (n - k)) cap3 (ccells (placedL L c)) := by
            have hr := ccells_range L k (n - k) (by rw [HN.out]; omega)
            have ht : (L.drop k).take (n - k) = L.drop k := List.take_of_length_le (by rw [List.length_drop, HN.out]; exact Nat.le_refl _)
            rw [hr, ht] at hv3
            have h := hv3.mono (show w.heap.size ≤ w.heap.size + 1 by omega)
            rw [HF.out, ccells_append, ccells_append, ccells_one, ← List.append_assoc]; exact h
          have hlen : k + 1 + (n - k) = (placedL L c).length := by
            rw [HF.out]; simp [HN.out]; omega
          have HLen : Hid (k + 1 + (n - k) = (placedL L c).length) := hlen
          clear hlen
          go_ret
          exact ⟨ad3, cap3, _, rfl, HLen.out, hfinal, bC_old (hq2.trans hb3)⟩
    · have hd1 : decide ((k : Int) < (n : Int)) = false := by simp; omega
      have HLr : Hid (Lies wr la n 5 (fun i => (L.getD i cd0).cells)) := hLr
      have z0 := bC_size hb
      have hkn : k = n := by omega
      have hfin : placedL L c = L.take k ++ ([c] ++ L.drop k) := by
        rw [placedL_split c k L (by rw [HN.out]; omega) HLO.out, List.drop_of_length_le (by rw [HN.out]; omega)]; rfl
      have HF : Hid (placedL L c = L.take k ++ ([c] ++ L.drop k)) := hfin
      have HKN : Hid (k = n) := hkn
      clear hLr hfin hkn
      go_wp2
      go_quiet (fail)
      go_wp2_with (first
        | (at_builtin; refine wpList_pushAll (by rfl) _ _ 25 (by rfl) (w.heap.size + 1) 68 5 48 (.agg #[.int .i64 0, .int .i64 0, .int .i64 0, .bool false, .string ⟨#[]⟩]) Try.underlying25 (by kernel_rfl) rfl (by decide) none 0 0 [] (by rfl) (Vec.nil _ _ _ _) la k lcap (fun i => (L.getD i cd0).cells) (by rfl) ((HLr.out.below (below_drewN (Below.refl _ _) _)).take k hk) (fun _ _ => rfl) (fun _ _ => ones2' _) ?_ ?_ ?_ k ?_ ?_; (omega); (omega); (exact z0); (omega); intro ad1 cap1 w1 hv1 hb1 hs1; have hq1 : BoxC w c w1 := (below_drewN hb _).trans hb1; have z1 := bC_size hq1; clear x0 x1 x2 x3 x4; obtain ⟨x0, x1, x2, x3, x4⟩ := bC_cells hq1))
      have hv1' : Vec w1 (w.heap.size + 1) 68 5 ad1 k cap1 (ccells (L.take k)) := by
        have hr := ccells_range L 0 k (by rw [HN.out]; omega)
        simp only [Nat.zero_add, List.drop_zero] at hr
        rw [List.nil_append, hr] at hv1; exact hv1
      clear hv1 hb1
      go_quiet (fail)
      have hqW : BoxC w c (w1.drewN nq) := below_drewN hq1 nq
      have hvW : Vec (w1.drewN nq) (w.heap.size + 1) 68 5 ad1 k cap1 (ccells (L.take k)) := hv1'.keep (below_drewN (Below.refl _ _) _)
      generalize w1.drewN nq = W at *
      clear x0 x1 x2 x3 x4 hv1' hq1 z1
      obtain ⟨x0, x1, x2, x3, x4⟩ := bC_cells hqW
      have zW := bC_size hqW
      go_wp2_with (first
        | (at_builtin; refine wpList_push (by rfl) _ _ 25 (by rfl) (w.heap.size + 1) 68 5 48 (.agg #[.int .i64 0, .int .i64 0, .int .i64 0, .bool false, .string ⟨#[]⟩]) Try.underlying25 (by kernel_rfl) rfl (by decide) ad1 k cap1 _ (by rfl) (hvW.keep ((Below.refl _ W).alloc (Nat.le_refl _) _)) _ _ c.cells (by rfl) rfl ?_ ?_ ?_ ?_ ?_ ?_; exact new_cells _ _ _; exact ones2' _; (omega); (omega); (simp; omega); intro ad2 cap2 w2 hv2 hb2 hs2; have hq2 : BoxC w c w2 := (Below.alloc hqW zW _).trans hb2; have z2 := bC_size hq2)
        | (at_builtin; refine wpList_pushAll (by rfl) _ _ 25 (by rfl) (w.heap.size + 1) 68 5 48 (.agg #[.int .i64 0, .int .i64 0, .int .i64 0, .bool false, .string ⟨#[]⟩]) Try.underlying25 (by kernel_rfl) rfl (by decide) ad2 (k + 1) cap2 _ (by rfl) hv2 _ (n - k) (lcap - k) (fun i => (L.getD (k + i) cd0).cells) (by rfl) ((HL.out.below (bC_old hq2)).drop lcap k hcap) (fun _ _ => rfl) (fun _ _ => ones2' _) ?_ ?_ ?_ (k + 1 + (n - k)) rfl ?_; (omega); (omega); (exact z2); intro ad3 cap3 w3 hv3 hb3 hs3))
      all_goals
        have hfinal : Vec w3 w.heap.size 68 5 ad3 (k + 1 + (n - k)) cap3 (ccells (placedL L c)) := by
          have hr := ccells_range L k (n - k) (by rw [HN.out]; omega)
          have ht : (L.drop k).take (n - k) = L.drop k := List.take_of_length_le (by rw [List.length_drop, HN.out]; exact Nat.le_refl _)
          rw [hr, ht] at hv3
          have h := hv3.mono (show w.heap.size ≤ w.heap.size + 1 by omega)
          rw [HF.out, ccells_append, ccells_append, ccells_one, ← List.append_assoc]; exact h
        have HLen : Hid (k + 1 + (n - k) = (placedL L c).length) := by
          show _ = _; rw [HF.out]; simp [HN.out]; omega
        go_ret
        exact ⟨ad3, cap3, _, rfl, HLen.out, hfinal, bC_old (hq2.trans hb3)⟩
end Go.Proofs.Ytdjpkgaicmklmab

/- The replica that has seen some first writes: the plain function. -/
namespace Go.Proofs.Ytdjpkgaicmklmab
open Go.RowKit

/-- A write, as plain data. -/
structure Wr where
  site : Int
  id : Int
  gone : Bool
  text : ByteArray
abbrev Wr.cells (x : Wr) : List Value := [.int .i64 x.site, .int .i64 x.id, .bool x.gone, .string x.text]

theorem Lies.wr {w : World} {a : Option Addr} {n : Nat} {c : Nat → Wr} (h : Lies w a n 4 (fun i => (c i).cells)) (cap : Nat) {k : Nat} (hk : k < n) :
    ∃ b o, b < w.heap.size ∧ (∀ w', (Instr.indexAt 22 (.slice a n cap) (.int .i64 (k : Int))).run Try.prog w' = .ok (.pointer (some ⟨b, o, none⟩)) w') ∧
      w.cell? ⟨b, o, none⟩ = some (.int .i64 (c k).site) ∧ w.cell? ⟨b, o + 1, none⟩ = some (.int .i64 (c k).id) ∧ w.cell? ⟨b, o + 2, none⟩ = some (.bool (c k).gone) ∧ w.cell? ⟨b, o + 3, none⟩ = some (.string (c k).text) := by
  obtain ⟨b, o, hb, hi, hc⟩ := h.at cap (P := Try.prog) (t := 22) (by kernel_rfl) (by kernel_rfl) hk
  exact ⟨b, o, hb, hi, hc 0 _ (by omega) rfl, hc 1 _ (by omega) rfl, hc 2 _ (by omega) rfl, hc 3 _ (by omega) rfl⟩

/-- What State is handed. -/
structure Seen where
  n : Nat
  w : Nat → Wr
  m : Nat
  f : Nat → Int

/-- The card of a write. -/
def cardOf (x : Wr) (k : Nat) (c : Int) : Cd := ⟨numOf x.id, siteL.getD k 0, c, x.gone, if x.gone then ⟨#[]⟩ else cutB x.text⟩
def siteIx (x : Wr) : Nat := (pickI x.site 8).toNat
/-- One write more: counts and cards. -/
def stepS (S : Seen) (st : List Int × List Cd) (x : Wr) : List Int × List Cd :=
  if seenI S.m S.f (siteIx x) ≤ st.1.getD (siteIx x) 0 then st
  else (st.1.set (siteIx x) (st.1.getD (siteIx x) 0 + 1), placedL st.2 (cardOf x (siteIx x) (st.1.getD (siteIx x) 0 + 1)))
def runS (S : Seen) : Nat → List Int × List Cd
  | 0 => (List.replicate 8 0, [])
  | i + 1 => stepS S (runS S i) (S.w i)

theorem runS_length (S : Seen) : ∀ i, (runS S i).1.length = 8
  | 0 => by simp [runS]
  | i + 1 => by
    have := runS_length S i
    simp only [runS, stepS]
    split
    · exact this
    · simpa using this
theorem runS_cards (S : Seen) : ∀ i, (runS S i).2.length ≤ i
  | 0 => by simp [runS]
  | i + 1 => by
    have := runS_cards S i
    simp only [runS, stepS]
    split
    · omega
    · have h := placedL_length (runS S i).2 (cardOf (S.w i) (siteIx (S.w i)) ((runS S i).1.getD (siteIx (S.w i)) 0 + 1)); simp only; omega
theorem siteIx_lt (x : Wr) : siteIx x < 8 := by
  have := pickI_lt x.site 8 (by decide); unfold siteIx; omega
theorem siteIx_eq (x : Wr) : pickI x.site 8 = (siteIx x : Int) := by
  have := pickI_lt x.site 8 (by decide); unfold siteIx; omega
theorem runS_counts (S : Seen) : ∀ i k, 0 ≤ (runS S i).1.getD k 0 ∧ (runS S i).1.getD k 0 ≤ i
  | 0, k => by
    have : (List.replicate 8 (0 : Int)).getD k 0 = 0 := by
      rw [List.getD, List.getElem?_replicate]; split <;> rfl
    simp only [runS, this]; omega
  | i + 1, k => by
    have h := runS_counts S i k
    simp only [runS, stepS]
    split
    · omega
    · simp only
      by_cases e : k = siteIx (S.w i)
      · subst e
        have hl : siteIx (S.w i) < (runS S i).1.length := by rw [runS_length]; exact siteIx_lt _
        have : ((runS S i).1.set (siteIx (S.w i)) ((runS S i).1.getD (siteIx (S.w i)) 0 + 1)).getD (siteIx (S.w i)) 0 = (runS S i).1.getD (siteIx (S.w i)) 0 + 1 := by
          simp [List.getD, hl]
        rw [this]; omega
      · have : ((runS S i).1.set (siteIx (S.w i)) ((runS S i).1.getD (siteIx (S.w i)) 0 + 1)).getD k 0 = (runS S i).1.getD k 0 := by
          simp only [List.getD]; rw [List.getElem?_set_ne (fun h => e h.symm)]
        rw [this]; omega

/-- The clocks of counts, the first k sites. -/
def clocksTo (cn : List Int) : Nat → List Ck
  | 0 => []
  | k + 1 => clocksTo cn k ++ (if 0 < cn.getD k 0 then [⟨siteL.getD k 0, cn.getD k 0⟩] else [])
def editsTo (ef : Nat → Wr) (k : Nat) : List Ed := (List.range k).map fun i => ⟨numOf (ef i).id, cutB (ef i).text⟩
theorem editsTo_succ (ef : Nat → Wr) (k : Nat) : editsTo ef (k + 1) = editsTo ef k ++ [⟨numOf (ef k).id, cutB (ef k).text⟩] := by simp [editsTo, List.range_succ]
theorem clocksTo_length (cn : List Int) : ∀ k, (clocksTo cn k).length ≤ k
  | 0 => by simp [clocksTo]
  | k + 1 => by
    have := clocksTo_length cn k
    simp only [clocksTo, List.length_append]; split <;> simp <;> omega

def ck0 : Ck := ⟨0, 0⟩
def ed0 : Ed := ⟨0, ⟨#[]⟩⟩
/-- A replica of lists. -/
def repOf (a : List Ck) (b : List Cd) (c : List Ed) : Rep := ⟨a.length, b.length, c.length, fun i => a.getD i ck0, fun i => b.getD i cd0, fun i => c.getD i ed0⟩
/-- The replica that has seen. -/
def stateR (S : Seen) (ne : Nat) (ef : Nat → Wr) : Rep := repOf (clocksTo (runS S (min S.n 40)).1 8) (runS S (min S.n 40)).2 (editsTo ef (min ne 8))
def kcells (l : List Ck) : List Value := (l.map Ck.cells).flatten
def ecells (l : List Ed) : List Value := (l.map Ed.cells).flatten
theorem kcells_append (a b : List Ck) : kcells (a ++ b) = kcells a ++ kcells b := by simp [kcells]
theorem ecells_append (a b : List Ed) : ecells (a ++ b) = ecells a ++ ecells b := by simp [ecells]
theorem kvec_lies {w : World} {B : Nat} {la : Option Addr} {n cap : Nat} {L : List Ck} (h : Vec w B 72 2 la n cap (kcells L)) (hn : L.length = n) : Lies w la n 2 (fun i => (L.getD i ck0).cells) := by
  refine h.lies (by intro r h; obtain ⟨y, _, rfl⟩ := List.mem_map.1 h; rfl) (by simpa using hn) _ fun i hi => ?_
  have hl : i < L.length := by omega
  simp [List.getD, hl]
theorem evec_lies {w : World} {B : Nat} {la : Option Addr} {n cap : Nat} {L : List Ed} (h : Vec w B 61 2 la n cap (ecells L)) (hn : L.length = n) : Lies w la n 2 (fun i => (L.getD i ed0).cells) := by
  refine h.lies (by intro r h; obtain ⟨y, _, rfl⟩ := List.mem_map.1 h; rfl) (by simpa using hn) _ fun i hi => ?_
  have hl : i < L.length := by omega
  simp [List.getD, hl]
end Go.Proofs.Ytdjpkgaicmklmab

/- The sum of bytes, plainly: a register of 32 bits; by bits, by bytes, and by long division. -/
namespace Go.Proofs.Ytdjpkgaicmklmab

/-- One bit is taken in; p: the polynomial without its first term. -/
def cst (p r : Nat) (b : Bool) : Nat := if (r.testBit 31 != b) then (2 * r % 4294967296) ^^^ p else 2 * r % 4294967296
def crcB (p r : Nat) (l : List Bool) : Nat := l.foldl (cst p) r
def bitsOf (x : UInt8) : List Bool := [x.toNat.testBit 7, x.toNat.testBit 6, x.toNat.testBit 5, x.toNat.testBit 4, x.toNat.testBit 3, x.toNat.testBit 2, x.toNat.testBit 1, x.toNat.testBit 0]
def allBits (l : List UInt8) : List Bool := l.flatMap bitsOf
/-- The sum (or seal) of bytes. -/
def crc (p : Nat) (l : List UInt8) : Nat := crcB p 4294967295 (allBits l) ^^^ 4294967295
def pSum : Nat := 79764919
def pSeal : Nat := 517762881

theorem cst_lt {p r : Nat} {b : Bool} (hp : p < 4294967296) : cst p r b < 4294967296 := by
  unfold cst
  split
  · exact Nat.xor_lt_two_pow (n := 32) (by omega) hp
  · omega
theorem crcB_lt {p : Nat} (hp : p < 4294967296) : ∀ (l : List Bool) {r : Nat}, r < 4294967296 → crcB p r l < 4294967296
  | [], _, h => h
  | _ :: l, _, _ => crcB_lt hp l (cst_lt hp)
theorem crc_lt {p : Nat} (hp : p < 4294967296) (l : List UInt8) : crc p l < 4294967296 := Nat.xor_lt_two_pow (n := 32) (crcB_lt hp _ (by omega)) (by omega)
theorem crcB_append (p r : Nat) (a b : List Bool) : crcB p r (a ++ b) = crcB p (crcB p r a) b := by simp [crcB]

theorem allBits_append (a b : List UInt8) : allBits (a ++ b) = allBits a ++ allBits b := by simp [allBits]
theorem allBits_one (x : UInt8) : allBits [x] = bitsOf x := by simp [allBits]
theorem allBits_length (l : List UInt8) : (allBits l).length = 8 * l.length := by
  induction l with
  | nil => rfl
  | cons x l ih => rw [show x :: l = [x] ++ l from rfl, allBits_append, allBits_one]; simp [ih, bitsOf]; omega

/-- The program's way: the register is shifted; if it runs over, the polynomial (with its first term) is laid upon it. -/
def div1 (p r : Nat) : Nat := if 4294967295 < 2 * r then (2 * r) ^^^ (p + 4294967296) else 2 * r

/-- Bits from the bit 31 down. -/
def high : List Bool → Nat
  | [] => 0
  | b :: l => (if b then 2147483648 else 0) + high l / 2

theorem high_lt : ∀ l, high l < 4294967296
  | [] => by simp [high]
  | b :: l => by have := high_lt l; simp only [high]; split <;> omega

theorem bit_high_top (b : Bool) (l : List Bool) : (high (b :: l)).testBit 31 = b := by
  have := high_lt l
  cases b
  · simp only [high]; exact Nat.testBit_lt_two_pow (by simp; omega)
  · simp only [high, if_true]
    rw [show (2147483648 : Nat) = 2 ^ 31 by decide, Nat.testBit_two_pow_add_eq]
    rw [Nat.testBit_lt_two_pow (by omega)]; rfl

/-- As long as what lies behind has even values: 'high l' ends in a nought for l shorter than 32. -/
theorem high_even : ∀ (l : List Bool) (k : Nat), l.length ≤ k → k ≤ 32 → high l % 2 ^ (32 - k) = 0
  | [], k, _, _ => by simp [high]
  | b :: l, k, h, hk => by
    have hl := high_even l (k - 1) (by simp at h; omega) (by omega)
    simp only [List.length_cons] at h
    have e : 32 - (k - 1) = (32 - k) + 1 := by omega
    rw [e, Nat.pow_succ] at hl
    have h1 : 2 ^ (32 - k) * 2 ∣ high l := Nat.dvd_of_mod_eq_zero hl
    obtain ⟨c, hc⟩ := h1
    simp only [high]
    have h2 : high l / 2 = 2 ^ (32 - k) * c := by rw [hc, Nat.mul_assoc, Nat.mul_comm 2 c, ← Nat.mul_assoc]; exact Nat.mul_div_cancel _ (by omega)
    have h3 : 2 ^ (32 - k) ∣ 2147483648 := by
      rw [show (2147483648 : Nat) = 2 ^ 31 by decide]
      exact Nat.pow_dvd_pow 2 (by omega)
    rw [h2]
    apply Nat.mod_eq_zero_of_dvd
    refine Nat.dvd_add ?_ (Nat.dvd_mul_right _ _)
    split
    · exact h3
    · exact Nat.dvd_zero _

theorem high_shift (b : Bool) (l : List Bool) (h : l.length ≤ 31) : 2 * high (b :: l) % 4294967296 = high l := by
  have he := high_even l 31 h (by omega)
  have := high_lt l
  simp only [high]
  simp at he
  split <;> omega

theorem xor_two_mul (a b : Nat) : 2 * (a ^^^ b) = (2 * a) ^^^ (2 * b) := by
  apply Nat.eq_of_testBit_eq
  intro i
  cases i with
  | zero => simp
  | succ i =>
    rw [Nat.testBit_xor, Nat.testBit_succ, Nat.testBit_succ, Nat.testBit_succ, Nat.mul_div_cancel_left _ (by omega), Nat.mul_div_cancel_left _ (by omega), Nat.mul_div_cancel_left _ (by omega), Nat.testBit_xor]

theorem xor_mod (a b : Nat) : (a ^^^ b) % 4294967296 = (a % 4294967296) ^^^ (b % 4294967296) := Nat.xor_mod_two_pow (n := 32)

theorem div1_step (p r : Nat) (b : Bool) (l : List Bool) (hp : p < 4294967296) (hr : r < 4294967296) (hl : l.length ≤ 31) : div1 p (r ^^^ high (b :: l)) = cst p r b ^^^ high l := by
  have hs : r ^^^ high (b :: l) < 4294967296 := Nat.xor_lt_two_pow (n := 32) hr (high_lt _)
  have htop : (r ^^^ high (b :: l)).testBit 31 = (r.testBit 31 != b) := by
    rw [Nat.testBit_xor, bit_high_top]
  have hmod : 2 * (r ^^^ high (b :: l)) % 4294967296 = (2 * r % 4294967296) ^^^ high l := by
    rw [xor_two_mul, xor_mod, high_shift b l hl]
  generalize r ^^^ high (b :: l) = s at hs htop hmod
  have hgt : (4294967295 < 2 * s) ↔ s.testBit 31 = true := by
    constructor
    · intro h
      rw [show s = 2 ^ 31 + (s - 2 ^ 31) by omega, Nat.testBit_two_pow_add_eq, Nat.testBit_lt_two_pow (by omega)]; rfl
    · intro h
      have := Nat.ge_two_pow_of_testBit h
      omega
  unfold div1 cst
  rw [← htop]
  by_cases h : s.testBit 31 = true
  · rw [if_pos (hgt.2 h), if_pos h]
    have h2 : 2 * s = 2 * s % 4294967296 + 4294967296 := by have := hgt.2 h; omega
    have e : (2 * s % 4294967296 + 4294967296) ^^^ (p + 4294967296) = (2 * s % 4294967296) ^^^ p := by
      have h1 : 2 * s % 4294967296 < 2 ^ 32 := by omega
      apply Nat.eq_of_testBit_eq
      intro i
      rw [Nat.add_comm _ 4294967296, Nat.add_comm p 4294967296, show (4294967296 : Nat) = 2 ^ 32 by decide]
      rcases Nat.lt_trichotomy i 32 with hi | hi | hi
      · rw [Nat.testBit_xor, Nat.testBit_xor, Nat.testBit_two_pow_add_gt hi, Nat.testBit_two_pow_add_gt hi]
      · subst hi
        rw [Nat.testBit_xor, Nat.testBit_xor, Nat.testBit_two_pow_add_eq, Nat.testBit_two_pow_add_eq, Nat.testBit_lt_two_pow h1, Nat.testBit_lt_two_pow (by omega : p < 2 ^ 32)]; rfl
      · have ha : 2 ^ 32 + 2 * s % 2 ^ 32 < 2 ^ i := Nat.lt_of_lt_of_le (by omega : _ < 2 ^ 33) (Nat.pow_le_pow_right (by omega) (by omega))
        have hb : 2 ^ 32 + p < 2 ^ i := Nat.lt_of_lt_of_le (by omega : _ < 2 ^ 33) (Nat.pow_le_pow_right (by omega) (by omega))
        rw [Nat.testBit_xor, Nat.testBit_xor, Nat.testBit_lt_two_pow ha, Nat.testBit_lt_two_pow hb, Nat.testBit_lt_two_pow (by omega : 2 * s % 2 ^ 32 < 2 ^ i), Nat.testBit_lt_two_pow (by omega : p < 2 ^ i)]
    rw [← h2] at e
    rw [e, hmod, Nat.xor_assoc, Nat.xor_assoc, Nat.xor_comm (high l)]
  · rw [if_neg (fun hh => h (hgt.1 hh)), if_neg h, ← hmod]
    have : ¬ 4294967295 < 2 * s := fun hh => h (hgt.1 hh)
    omega

/-- So many shifts. -/
def divN (p : Nat) : Nat → Nat → Nat
  | 0, r => r
  | k + 1, r => divN p k (div1 p r)

theorem divN_high (p : Nat) (hp : p < 4294967296) (b : List Bool) : ∀ (a : List Bool) (r : Nat), r < 4294967296 → (a ++ b).length ≤ 32 → divN p a.length (r ^^^ high (a ++ b)) = crcB p r a ^^^ high b
  | [], r, _, _ => by simp [divN, crcB]
  | x :: a, r, hr, hl => by
    simp only [List.cons_append, List.length_cons] at hl ⊢
    rw [divN, div1_step p r x (a ++ b) hp hr (by omega), divN_high p hp b a _ (cst_lt hp) (by omega)]
    rfl

theorem byte_high (x : UInt8) : x.toNat * 16777216 = high (bitsOf x) := by
  have hx := x.toNat_lt
  have e : ∀ n : Nat, n < 256 → n * 16777216 = high [n.testBit 7, n.testBit 6, n.testBit 5, n.testBit 4, n.testBit 3, n.testBit 2, n.testBit 1, n.testBit 0] := by decide +kernel
  exact e _ (by simpa using hx)

theorem divN_byte (p : Nat) (hp : p < 4294967296) (x : UInt8) (r : Nat) (hr : r < 4294967296) : divN p 8 (r ^^^ (x.toNat * 16777216)) = crcB p r (bitsOf x) := by
  rw [byte_high]
  have := divN_high p hp [] (bitsOf x) r hr (by simp [bitsOf])
  rw [List.append_nil] at this
  rw [show (8 : Nat) = (bitsOf x).length from rfl, this]
  simp [high]

theorem bits_xor_i64 (a b : Nat) (ha : a < 9223372036854775808) (hb : b < 9223372036854775808) : bits .xor .i64 (a : Int) (b : Int) = ((a ^^^ b : Nat) : Int) := by
  have hx : a ^^^ b < 2 ^ 63 := Nat.xor_lt_two_pow (by omega) (by omega)
  have h1 : (BitVec.ofInt 64 (a : Int)).toNat = a := by
    rw [BitVec.ofInt_natCast, BitVec.toNat_ofNat]; exact Nat.mod_eq_of_lt (by omega)
  have h2 : (BitVec.ofInt 64 (b : Int)).toNat = b := by
    rw [BitVec.ofInt_natCast, BitVec.toNat_ofNat]; exact Nat.mod_eq_of_lt (by omega)
  show IntKind.i64.wrap ((BitVec.ofInt 64 (a : Int) ^^^ BitVec.ofInt 64 (b : Int)).toNat : Int) = _
  rw [BitVec.toNat_xor, h1, h2]
  simp [IntKind.wrap, IntKind.bits, IntKind.signed]
  omega

theorem bits_and_one (a : Nat) (ha : a < 9223372036854775808) : bits .and .i64 (a : Int) 1 = ((a % 2 : Nat) : Int) := by
  have h1 : (BitVec.ofInt 64 (a : Int)).toNat = a := by
    rw [BitVec.ofInt_natCast, BitVec.toNat_ofNat]; exact Nat.mod_eq_of_lt (by omega)
  show IntKind.i64.wrap ((BitVec.ofInt 64 (a : Int) &&& BitVec.ofInt 64 1).toNat : Int) = _
  have h2 : (BitVec.ofInt 64 (1 : Int)).toNat = 1 := by decide
  rw [BitVec.toNat_and, h1, h2, Nat.and_one_is_mod]
  simp [IntKind.wrap, IntKind.bits, IntKind.signed]
  omega

theorem bit_test (a k : Nat) (ha : a < 9223372036854775808) : (bits .and .i64 ((a : Int) / 2 ^ k) 1 == 1) = a.testBit k := by
  have e : ((a : Int) / 2 ^ k) = ((a / 2 ^ k : Nat) : Int) := by
    rw [Int.natCast_ediv, Int.natCast_pow]; rfl
  rw [e, bits_and_one _ (Nat.lt_of_le_of_lt (Nat.div_le_self _ _) ha), Nat.testBit_eq_decide_div_mod_eq]
  by_cases h : a / 2 ^ k % 2 = 1
  · simp [h]
  · have h0 : a / 2 ^ k % 2 = 0 := by omega
    simp [h0]

theorem bitsOf_at (x : UInt8) (j : Nat) (h : j < 8) : (bitsOf x)[j]? = some (x.toNat.testBit (7 - j)) := by
  have : j = 0 ∨ j = 1 ∨ j = 2 ∨ j = 3 ∨ j = 4 ∨ j = 5 ∨ j = 6 ∨ j = 7 := by omega
  rcases this with rfl | rfl | rfl | rfl | rfl | rfl | rfl | rfl <;> rfl
theorem bitsOf_take (x : UInt8) (j : Nat) (h : j < 8) : (bitsOf x).take (j + 1) = (bitsOf x).take j ++ [x.toNat.testBit (7 - j)] := by
  have hl : j < (bitsOf x).length := h
  rw [List.take_succ_eq_append_getElem hl]
  have := bitsOf_at x j h
  rw [List.getElem?_eq_getElem hl] at this
  simp at this
  rw [this]
end Go.Proofs.Ytdjpkgaicmklmab

/- The program's bytes: oneByte, FourBytes, goneByte, Number, walked. -/
namespace Go.Proofs.Ytdjpkgaicmklmab
open Go.RowKit

theorem ret_str {a b : List UInt8} (h : a = b) : Ending.returned (.string (str a)) = .returned (.string (str b)) := by rw [h]

set_option maxRecDepth 100000 in
set_option maxHeartbeats 1000000 in
theorem oneByte_any (n : Int) (w : World) (h0 : 0 ≤ n) (h1 : n ≤ 255) :
    Calls Try.prog 78 #[.int .i64 n] w fun e w' => e = .returned (.string (str [byt n])) ∧ Below w.heap.size w w' := by
  go_enter Try.func78, Try.ntmps78
  go_wp2_with (refine wpList_toString (by rfl) 75 9 5 _ (by rfl) Try.underlying75 Try.underlying5 Try.underlying9 _ _ _ (by rfl) [n] rfl ?_ ?_; exact new_cells _ _ _)
  go_ret
  exact ⟨rfl, (Below.refl _ _).alloc (Nat.le_refl _) _⟩

/-- A sum as bytes. -/
def fourI (n : Int) : List UInt8 := [byt (n / 16777216), byt (n / 65536 % 256), byt (n / 256 % 256), byt (n % 256)]

set_option maxRecDepth 100000 in
set_option maxHeartbeats 1000000 in
theorem fourBytes_any (n : Int) (w : World) (h0 : 0 ≤ n) (h1 : n ≤ 4294967295) :
    Calls Try.prog 50 #[.int .i64 n] w fun e w' => e = .returned (.string (str (fourI n))) ∧ Below w.heap.size w w' := by
  go_enter Try.func50, Try.ntmps50
  go_wp2_with (refine wpList_toString (by rfl) 75 9 5 _ (by rfl) Try.underlying75 Try.underlying5 Try.underlying9 _ _ _ (by rfl) [n / 16777216, n / 65536 % 256, n / 256 % 256, n % 256] rfl ?_ ?_; exact new_cells _ _ _)
  go_ret
  exact ⟨rfl, (Below.refl _ _).alloc (Nat.le_refl _) _⟩

theorem goneByte_any (b : Bool) (w : World) :
    Calls Try.prog 95 #[.bool b] w fun e w' => e = .returned (.string (str [if b then 1 else 0])) ∧ Below w.heap.size w w' := by
  cases b
  · go_enter Try.func95, Try.ntmps95
    go_wp2_with (go_at_call 78; refine (oneByte_any _ _ (by decide) (by decide)).mono ?_; rintro e w' ⟨rfl, hb⟩)
    go_ret
    exact ⟨rfl, hb⟩
  · go_enter Try.func95, Try.ntmps95
    go_wp2_with (go_at_call 78; refine (oneByte_any _ _ (by decide) (by decide)).mono ?_; rintro e w' ⟨rfl, hb⟩)
    go_ret
    exact ⟨rfl, hb⟩

/-- A number's bytes, by at most so many steps. -/
def numI : Nat → Int → List Int
  | 0, n => [n]
  | k + 1, n => if n < 128 then [n] else (n % 128 + 128) :: numI k (n / 128)
def numB (n : Int) : List UInt8 := (numI 9 n).map byt

theorem numI_small (k : Nat) (n : Int) (h : n < 128) : numI k n = [n] := by
  cases k with
  | zero => rfl
  | succ k => simp [numI, h]
theorem numI_length : ∀ (k : Nat) (n : Int), (numI k n).length ≤ k + 1
  | 0, n => by simp [numI]
  | k + 1, n => by
    simp only [numI]; split
    · simp
    · have := numI_length k (n / 128); simp; omega

set_option maxRecDepth 100000 in
set_option maxHeartbeats 2000000 in
theorem number_any (n : Int) (w : World) (h0 : 0 ≤ n) (h1 : n ≤ 9223372036854775807) :
    Calls Try.prog 94 #[.int .i64 n] w fun e w' => e = .returned (.string (str (numB n))) ∧ Below w.heap.size w w' := by
  go_enter Try.func94, Try.ntmps94
  go_wp2
  go_loopw [0, 3] (fun v u wr => ∃ (k : Nat) (y : Int) (ad : Option Addr) (cap : Nat) (ns : List Int) (N : Nat), v = .int .i64 y ∧ u = .slice ad N cap ∧ 0 ≤ y ∧ y ≤ 9223372036854775807 ∧ y < 128 ^ (k + 1) ∧ ns ++ numI k y = numI 9 n ∧ N + k = 9 ∧
      Vec wr w.heap.size 5 1 ad N cap (ns.map (Value.int .u8)) ∧ Below w.heap.size w wr) (fun v _ _ => (intOf v).toNat)
  case atStart => exact ⟨9, n, _, 0, [], 0, rfl, rfl, h0, h1, by omega, rfl, rfl, Vec.lit w _ _ _ 0 [] (Nat.le_refl _) (by omega) (by simp), (Below.refl _ _).alloc (Nat.le_refl _) _⟩
  case round =>
    obtain ⟨k, y, ad, cap, ns, N, rfl, rfl, y0, y1, hy, hns, hk, hv, hb⟩ := hrel
    have HY : Hid (y < 128 ^ (k + 1)) := hy
    have HN : Hid (ns ++ numI k y = numI 9 n) := hns
    have HK : Hid (N + k = 9) := hk
    have hN : N ≤ 9 := by omega
    have hz := hb.size
    clear hy hns hk
    by_cases hlt : 128 ≤ y
    · go_wp2_with (at_builtin; refine wpList_push (by rfl) _ _ 75 (by rfl) w.heap.size 5 1 1 (.int .u8 0) Try.underlying75 (by kernel_rfl) rfl (by decide) ad N cap _ (by rfl) (hv.keep ((Below.refl _ _).alloc (Nat.le_refl _) _)) _ _ [.int .u8 (y % 128 + 128)] (by rfl) rfl ?_ ?_ ?_ ?_ ?_ ?_; exact new_cells _ _ _; (simp [Value.oneCell']); (omega); (omega); (simp; omega); intro ad' cap' w' hv' hb' hs')
      have hb2 : Below w.heap.size w w' := hb.trans (((Below.refl _ wr).alloc (Nat.le_refl _) _).mono hz |>.trans hb')
      have hk1 : ∃ j, k = j + 1 := by
        rcases k with _ | j
        · have := HY.out; simp at this; omega
        · exact ⟨j, rfl⟩
      obtain ⟨j, rfl⟩ := hk1
      have e1 : numI (j + 1) y = (y % 128 + 128) :: numI j (y / 128) := by simp only [numI]; rw [if_neg (by omega)]
      have e2 : ns ++ [y % 128 + 128] ++ numI j (y / 128) = numI 9 n := by rw [← HN.out, e1]; simp
      have e3 : y / 128 < 128 ^ (j + 1) := by
        have h := HY.out
        rw [Int.pow_succ] at h
        exact Int.ediv_lt_of_lt_mul (by omega) h
      have e4 : N + 1 + j = 9 := by have := HK.out; omega
      go_roundw
      case rel => exact ⟨j, y / 128, ad', cap', ns ++ [y % 128 + 128], N + 1, rfl, rfl, by omega, by omega, e3, e2, e4, by simpa using hv', hb2⟩
      case measure => simp [intOf]; omega
    · go_wp2_with (first
        | (at_builtin; refine wpList_push (by rfl) _ _ 75 (by rfl) w.heap.size 5 1 1 (.int .u8 0) Try.underlying75 (by kernel_rfl) rfl (by decide) ad N cap _ (by rfl) (hv.keep ((Below.refl _ _).alloc (Nat.le_refl _) _)) _ _ [.int .u8 y] (by rfl) rfl ?_ ?_ ?_ ?_ ?_ ?_; exact new_cells _ _ _; (simp [Value.oneCell']); (omega); (omega); (simp; omega); intro ad' cap' w' hv' hb' hs'; have hv2 : Vec w' w.heap.size 5 1 ad' (N + 1) cap' ((ns ++ [y]).map (Value.int .u8)) := (by simpa using hv'); clear hv')
        | (refine wpList_toString_vec (by rfl) 75 9 5 _ (by rfl) Try.underlying75 Try.underlying5 Try.underlying9 w.heap.size (N + 1) cap' ad' (by rfl) (ns ++ [y]) hv2 ?_ ?_; (omega)))
      have hb2 : Below w.heap.size w w' := hb.trans (((Below.refl _ wr).alloc (Nat.le_refl _) _).mono hz |>.trans hb')
      have e1 : ns ++ [y] = numI 9 n := by rw [← HN.out, numI_small k y (by omega)]
      go_ret
      exact ⟨ret_str (by unfold numB; rw [← e1]; simp), hb2⟩
end Go.Proofs.Ytdjpkgaicmklmab

/- Bits turned over within 32 consecutive ones turn the sum: without the program. -/
namespace Go.Proofs.Ytdjpkgaicmklmab

theorem div1_inj {p x y : Nat} (hp : p % 2 = 1) (h : div1 p x = div1 p y) : x = y := by
  have par : ∀ z : Nat, ((2 * z) ^^^ (p + 4294967296)) % 2 = 1 := by
    intro z
    have := Nat.xor_mod_two_pow (a := 2 * z) (b := p + 4294967296) (n := 1)
    rw [Nat.pow_one] at this
    rw [this, show 2 * z % 2 = 0 by omega, show (p + 4294967296) % 2 = 1 by omega]
    rfl
  unfold div1 at h
  split at h <;> split at h
  · have h2 := congrArg (fun z => z ^^^ (p + 4294967296)) h
    simp only [Nat.xor_assoc, Nat.xor_self, Nat.xor_zero] at h2
    omega
  · have := par x; rw [h] at this; omega
  · have := par y; rw [← h] at this; omega
  · omega
theorem divN_inj {p : Nat} (hp : p % 2 = 1) : ∀ (k : Nat) {x y : Nat}, divN p k x = divN p k y → x = y
  | 0, _, _, h => h
  | k + 1, _, _, h => div1_inj hp (divN_inj hp k h)
theorem high_inj : ∀ (l m : List Bool), l.length = m.length → l.length ≤ 32 → high l = high m → l = m
  | [], [], _, _, _ => rfl
  | [], _ :: _, h, _, _ => by simp at h
  | _ :: _, [], h, _, _ => by simp at h
  | b :: l, c :: m, hl, h32, h => by
    have hb : b = c := by rw [← bit_high_top b l, ← bit_high_top c m, h]
    subst hb
    simp only [List.length_cons] at hl h32
    have e1 := high_even l 31 (by omega) (by omega)
    have e2 := high_even m 31 (by omega) (by omega)
    simp only [high] at h
    rw [high_inj l m (by omega) (by omega) (by omega)]
theorem crcB_short {p : Nat} (hp : p < 4294967296) (r : Nat) (hr : r < 4294967296) (e : List Bool) (he : e.length ≤ 32) : crcB p r e = divN p e.length (r ^^^ high e) := by
  have := divN_high p hp [] e r hr (by simpa using he)
  rw [List.append_nil] at this
  rw [this]; simp [high]
theorem cst_inj {p x y : Nat} {b : Bool} (hp : p < 4294967296) (ho : p % 2 = 1) (hx : x < 4294967296) (hy : y < 4294967296) (h : cst p x b = cst p y b) : x = y := by
  have ex := crcB_short hp x hx [b] (by simp)
  have ey := crcB_short hp y hy [b] (by simp)
  have : divN p 1 (x ^^^ high [b]) = divN p 1 (y ^^^ high [b]) := by
    rw [← List.length_singleton (a := b), ← ex, ← ey]; exact h
  have h2 := divN_inj ho 1 this
  have h3 := congrArg (fun z => z ^^^ high [b]) h2
  simpa [Nat.xor_assoc] using h3
theorem crcB_inj {p : Nat} (hp : p < 4294967296) (ho : p % 2 = 1) : ∀ (c : List Bool) {x y : Nat}, x < 4294967296 → y < 4294967296 → crcB p x c = crcB p y c → x = y
  | [], _, _, _, _, h => h
  | _ :: c, _, _, hx, hy, h => cst_inj hp ho hx hy (crcB_inj hp ho c (cst_lt hp) (cst_lt hp) h)
/-- Bits that part within 32 consecutive ones part the registers. -/
theorem burst {p : Nat} (hp : p < 4294967296) (ho : p % 2 = 1) (r : Nat) (hr : r < 4294967296) (a e e' c : List Bool) (hl : e.length = e'.length) (h32 : e.length ≤ 32) (h : crcB p r (a ++ e ++ c) = crcB p r (a ++ e' ++ c)) : e = e' := by
  have ha := crcB_lt hp a hr
  rw [crcB_append, crcB_append, crcB_append p r (a ++ e') c, crcB_append p r a e'] at h
  have h1 := crcB_inj hp ho c (crcB_lt hp e ha) (crcB_lt hp e' ha) h
  rw [crcB_short hp _ ha e h32, crcB_short hp _ ha e' (by omega), hl] at h1
  have h2 := divN_inj ho _ h1
  have h3 := congrArg (fun z => crcB p r a ^^^ z) h2
  simp only [← Nat.xor_assoc, Nat.xor_self, Nat.zero_xor] at h3
  exact high_inj e e' hl h32 h3

theorem high_append : ∀ (l m : List Bool), l.length + m.length ≤ 32 → high (l ++ m) = high l + high m / 2 ^ l.length
  | [], m, _ => by simp [high]
  | b :: l, m, h => by
    simp only [List.length_cons] at h
    have e := high_even l 31 (by omega) (by omega)
    simp only [List.cons_append, high, high_append l m (by omega), List.length_cons]
    rw [Nat.pow_succ, ← Nat.div_div_eq_div_mul]
    omega
theorem high_bytes (a b c d : UInt8) : high (allBits [a, b, c, d]) = a.toNat * 16777216 + b.toNat * 65536 + c.toNat * 256 + d.toNat := by
  have e : allBits [a, b, c, d] = bitsOf a ++ (bitsOf b ++ (bitsOf c ++ bitsOf d)) := by simp [allBits]
  rw [e, high_append _ _ (by simp [bitsOf]), high_append _ _ (by simp [bitsOf]), high_append _ _ (by simp [bitsOf])]
  rw [← byte_high, ← byte_high, ← byte_high, ← byte_high]
  simp only [show (bitsOf a).length = 8 from rfl, show (bitsOf b).length = 8 from rfl, show (bitsOf c).length = 8 from rfl]
  omega
theorem bytN (n : Int) (h0 : 0 ≤ n) (h1 : n < 256) : ((byt n).toNat : Int) = n := by
  simp [byt]; omega
theorem high_four (x : Nat) (h : x < 4294967296) : high (allBits (fourI x)) = x := by
  have a := bytN ((x : Int) / 16777216) (by omega) (by omega)
  have b := bytN ((x : Int) / 65536 % 256) (by omega) (by omega)
  have c := bytN ((x : Int) / 256 % 256) (by omega) (by omega)
  have d := bytN ((x : Int) % 256) (by omega) (by omega)
  unfold fourI
  rw [high_bytes]
  omega
/-- Bytes that end in their own sum leave all registers alike. -/
theorem resid {p : Nat} (hp : p < 4294967296) (s : List UInt8) : crcB p 4294967295 (allBits (s ++ fourI (crc p s))) = divN p 32 4294967295 := by
  have hr := crcB_lt hp (allBits s) (r := 4294967295) (by omega)
  have hc := crc_lt hp s
  rw [allBits_append, crcB_append, crcB_short hp _ hr _ (by rw [allBits_length]; simp [fourI]), high_four _ hc, allBits_length]
  simp only [crc, ← Nat.xor_assoc, Nat.xor_self, Nat.zero_xor]
  rfl
/-- Of two strings that end in their own sums and part within 32 consecutive bits alone both are the same. -/
theorem torn {p : Nat} (hp : p < 4294967296) (ho : p % 2 = 1) (s t : List UInt8) (a e e' c : List Bool) (hs : allBits (s ++ fourI (crc p s)) = a ++ e ++ c) (ht : allBits (t ++ fourI (crc p t)) = a ++ e' ++ c) (hl : e.length = e'.length) (h32 : e.length ≤ 32) : e = e' := by
  have h1 := resid hp s
  have h2 := resid hp t
  rw [hs] at h1
  rw [ht] at h2
  exact burst hp ho _ (by omega) a e e' c hl h32 (h1.trans h2.symm)
/-- Bits turned over within 32 consecutive ones turn the sum. -/
theorem crc_turn {p : Nat} (hp : p < 4294967296) (ho : p % 2 = 1) (s t : List UInt8) (a e e' c : List Bool) (hs : allBits s = a ++ e ++ c) (ht : allBits t = a ++ e' ++ c) (hl : e.length = e'.length) (h32 : e.length ≤ 32) (h : crc p s = crc p t) : e = e' := by
  unfold crc at h
  rw [hs, ht] at h
  have h2 := congrArg (fun z => z ^^^ 4294967295) h
  simp only [Nat.xor_assoc, Nat.xor_self, Nat.xor_zero] at h2
  exact burst hp ho _ (by omega) a e e' c hl h32 h2

/-- The register is linear in itself and in the bits. -/
theorem cst_lin (p r r' : Nat) (b b' : Bool) : cst p (r ^^^ r') (b != b') = cst p r b ^^^ cst p r' b' := by
  unfold cst
  rw [Nat.testBit_xor, xor_two_mul, xor_mod]
  generalize 2 * r % 4294967296 = u
  generalize 2 * r' % 4294967296 = v
  have e1 : (u ^^^ p) ^^^ (v ^^^ p) = u ^^^ v := by
    rw [Nat.xor_comm v p, ← Nat.xor_assoc, Nat.xor_assoc u p p, Nat.xor_self, Nat.xor_zero]
  have e2 : (u ^^^ p) ^^^ v = (u ^^^ v) ^^^ p := by rw [Nat.xor_assoc, Nat.xor_comm p v, ← Nat.xor_assoc]
  have e3 : u ^^^ (v ^^^ p) = (u ^^^ v) ^^^ p := by rw [Nat.xor_assoc]
  cases r.testBit 31 <;> cases r'.testBit 31 <;> cases b <;> cases b' <;> simp [e1, e2, e3]
theorem crcB_lin (p : Nat) : ∀ (l m : List Bool) (r r' : Nat), l.length = m.length → crcB p (r ^^^ r') (List.zipWith (· != ·) l m) = crcB p r l ^^^ crcB p r' m
  | [], [], _, _, _ => rfl
  | [], _ :: _, _, _, h => by simp at h
  | _ :: _, [], _, _, h => by simp at h
  | b :: l, c :: m, r, r', h => by
    simp only [List.zipWith_cons_cons, crcB, List.foldl_cons]
    rw [cst_lin]
    exact crcB_lin p l m _ _ (by simpa using h)
/-- What two strings' sums part by hangs on what the strings part by alone. -/
theorem crc_part (p : Nat) (s t : List UInt8) (h : s.length = t.length) : crc p s ^^^ crc p t = crcB p 0 (List.zipWith (· != ·) (allBits s) (allBits t)) := by
  have := crcB_lin p (allBits s) (allBits t) 4294967295 4294967295 (by rw [allBits_length, allBits_length, h])
  rw [Nat.xor_self] at this
  rw [this]
  unfold crc
  rw [Nat.xor_comm (crcB p 4294967295 (allBits t)) 4294967295, ← Nat.xor_assoc, Nat.xor_assoc (crcB p 4294967295 (allBits s)), Nat.xor_self, Nat.xor_zero]
theorem crcB_zeros (p : Nat) : ∀ n, crcB p 0 (List.replicate n false) = 0
  | 0 => rfl
  | n + 1 => by
    simp only [List.replicate_succ, crcB, List.foldl_cons]
    have : cst p 0 false = 0 := by simp [cst]
    rw [this]; exact crcB_zeros p n
/-- What two frames part by whose records part in the last byte, a against b. -/
def d40 : List Bool := bitsOf 3 ++ allBits (fourI (crcB pSum 0 (bitsOf 3)))
theorem strange_seal : crcB pSeal 0 d40 ≠ 0 := by decide +kernel
theorem strange_sum : crcB pSum 0 (d40 ++ allBits (fourI (crcB pSeal 0 d40))) ≠ 0 := by decide +kernel
end Go.Proofs.Ytdjpkgaicmklmab

/- Volumes: Split and Join without the program. -/
namespace Go.Proofs.Ytdjpkgaicmklmab
open Go.RowKit

/-- The head and the bytes of a volume, ahead of its own sum. -/
def volH (i n : Int) (s : Nat) (part : List UInt8) : List UInt8 := [86, 79, 76, 49, byt i, byt n] ++ fourI s ++ part
def volB (i n : Int) (s : Nat) (part : List UInt8) : List UInt8 := volH i n s part ++ fourI (crc pSum (volH i n s part))
/-- How many volumes of m bytes each. -/
def cntB (m k : Nat) : Nat := if k ≤ m then 1 else (k + m - 1) / m
def partB (m i : Nat) (b : List UInt8) : List UInt8 := (b.drop (i * m)).take m
def volsB (m : Nat) (b : List UInt8) : List (List UInt8) :=
  (List.range (cntB m b.length)).map fun (i : Nat) => volB (i : Int) (cntB m b.length) (crc pSum b) (partB m i b)

def numV (v : List UInt8) : Nat := (v.getD 4 0).toNat
def cntV (v : List UInt8) : Nat := (v.getD 5 0).toNat
def idV (v : List UInt8) : List UInt8 := (v.drop 5).take 5
def sumV (v : List UInt8) : List UInt8 := (v.drop 6).take 4
def bodyV (v : List UInt8) : List UInt8 := (v.drop 10).take (v.length - 14)
def volOk (v : List UInt8) : Bool := decide (14 ≤ v.length) && v.take 4 == [86, 79, 76, 49] && decide (numV v < cntV v) && fourI (crc pSum (v.take (v.length - 4))) == v.drop (v.length - 4)

def firstOf (f : Nat → Bool) (n : Nat) : Option Nat := (List.range n).find? f
theorem firstOf_some {f : Nat → Bool} {n i : Nat} : firstOf f n = some i ↔ f i = true ∧ i < n ∧ ∀ j, j < i → f j = false := by
  unfold firstOf; rw [List.find?_range_eq_some]; simp
theorem firstOf_none {f : Nat → Bool} {n : Nat} : firstOf f n = none ↔ ∀ i, i < n → f i = false := by
  unfold firstOf; rw [List.find?_eq_none]; simp

def atV (l : List (List UInt8)) (n : Nat) : Nat := l.findIdx (fun v => numV v == n)
def bad1 (l : List (List UInt8)) (i : Nat) : Bool := !volOk (l.getD i [])
def bad2 (l : List (List UInt8)) (i : Nat) : Bool := idV (l.getD i []) != idV (l.getD 0 [])
def bad3 (l : List (List UInt8)) (i : Nat) : Bool := (l.take i).any fun v => numV v == numV (l.getD i [])
def allV (l : List (List UInt8)) (k : Nat) : List UInt8 := (List.range k).flatMap fun n => bodyV (l.getD (atV l n) [])
structure Jn where
  b : List UInt8
  err : Int
  at_ : Nat
def joinRd (l : List (List UInt8)) : Jn :=
  match firstOf (bad1 l) l.length with
  | some i => ⟨[], 13, i⟩
  | none => match firstOf (bad2 l) l.length with
    | some i => ⟨[], 14, i⟩
    | none => match firstOf (bad3 l) l.length with
      | some i => ⟨[], 15, i⟩
      | none => if l.length = 0 ∨ l.length ≠ cntV (l.getD 0 []) then ⟨[], 16, 0⟩
        else if fourI (crc pSum (allV l l.length)) ≠ sumV (l.getD 0 []) then ⟨[], 8, 0⟩ else ⟨allV l l.length, 0, 0⟩

/-- Numbers below n, none twice, are at most n; n of them are all. -/
theorem below_length : ∀ (n : Nat) (l : List Nat), l.Nodup → (∀ x ∈ l, x < n) → l.length ≤ n
  | 0, [], _, _ => Nat.le_refl 0
  | 0, x :: _, _, h => absurd (h x (by simp)) (by omega)
  | n + 1, l, hd, h => by
    have := below_length n (l.erase n) (hd.erase n) (fun x hx => by
      rw [hd.mem_erase_iff] at hx; have := h x hx.2; omega)
    rw [List.length_erase] at this; split at this <;> omega
theorem below_all {n : Nat} {l : List Nat} (hd : l.Nodup) (h : ∀ x ∈ l, x < n) (hl : l.length = n) {k : Nat} (hk : k < n) : k ∈ l := by
  by_cases hm : k ∈ l
  · exact hm
  · have := below_length n (k :: l) (List.nodup_cons.mpr ⟨hm, hd⟩) (by intro x hx; rcases List.mem_cons.mp hx with rfl | hx; exact hk; exact h x hx)
    simp at this; omega

theorem bad3_none {l : List (List UInt8)} (h : ∀ i, i < l.length → bad3 l i = false) : (l.map numV).Nodup := by
  rw [List.nodup_iff_pairwise_ne, List.pairwise_iff_getElem]
  intro i j hi hj hij he
  simp only [List.length_map] at hi hj
  have := h j hj
  simp only [bad3, List.any_eq_false, beq_iff_eq] at this
  simp only [List.getElem_map] at he
  refine this l[i] ?_ ?_
  · rw [List.mem_take_iff_getElem]; exact ⟨i, by omega, rfl⟩
  · rw [he, List.getD_eq_getElem?_getD, List.getElem?_eq_getElem hj]; rfl
theorem nodup_bad3 {l : List (List UInt8)} (h : (l.map numV).Nodup) (i : Nat) (hi : i < l.length) : bad3 l i = false := by
  rw [List.nodup_iff_pairwise_ne, List.pairwise_iff_getElem] at h
  simp only [bad3, List.any_eq_false, beq_iff_eq]
  intro v hv he
  rw [List.mem_take_iff_getElem] at hv
  obtain ⟨j, hj, rfl⟩ := hv
  refine h j i (by simp; omega) (by simpa using hi) (by omega) ?_
  simp only [List.getElem_map]
  rw [he, List.getD_eq_getElem?_getD, List.getElem?_eq_getElem hi]; rfl

/-- Behind the first three searches each number below the count is there. -/
theorem at_lt {l : List (List UInt8)} (h1 : ∀ i, i < l.length → bad1 l i = false) (h2 : ∀ i, i < l.length → bad2 l i = false) (h3 : ∀ i, i < l.length → bad3 l i = false)
    (hl : l.length = cntV (l.getD 0 [])) {n : Nat} (hn : n < l.length) : atV l n < l.length := by
  have hc : ∀ i, i < l.length → cntV (l.getD i []) = cntV (l.getD 0 []) := by
    intro i hi
    have a := h2 i hi
    simp only [bad2, bne_eq_false_iff_eq] at a
    have hz : ∀ v : List UInt8, cntV v = ((idV v).getD 0 0).toNat := by intro v; unfold cntV idV; simp [List.getElem?_drop]
    rw [hz, hz, a]
  have hm : n ∈ l.map numV := by
    refine below_all (n := l.length) (bad3_none h3) ?_ (by simp) hn
    intro x hx
    rw [List.mem_map] at hx
    obtain ⟨v, hv, rfl⟩ := hx
    obtain ⟨i, hi, rfl⟩ := List.mem_iff_getElem.mp hv
    have a := h1 i hi
    have b := hc i hi
    simp only [bad1, Bool.not_eq_false', List.getD_eq_getElem?_getD, List.getElem?_eq_getElem hi, Option.getD_some] at a
    simp only [List.getD_eq_getElem?_getD, List.getElem?_eq_getElem hi, Option.getD_some] at b hl
    simp only [volOk, Bool.and_eq_true, decide_eq_true_eq] at a
    omega
  unfold atV
  rw [List.findIdx_lt_length]
  rw [List.mem_map] at hm
  obtain ⟨v, hv, he⟩ := hm
  exact ⟨v, hv, by simp [he]⟩
end Go.Proofs.Ytdjpkgaicmklmab

/- Volumes: what Join makes of the volumes of some bytes, without the program. -/
namespace Go.Proofs.Ytdjpkgaicmklmab
open Go.RowKit

theorem fourI_len (s : Int) : (fourI s).length = 4 := rfl
theorem fourI_inj {s t : Nat} (hs : s < 4294967296) (ht : t < 4294967296) (h : fourI s = fourI t) : s = t := by
  rw [← high_four s hs, ← high_four t ht, h]
theorem pSum_lt : pSum < 4294967296 := by decide
theorem pSum_odd : pSum % 2 = 1 := by decide

theorem volH_len (i n : Int) (s : Nat) (p : List UInt8) : (volH i n s p).length = p.length + 10 := by
  simp [volH, fourI]
theorem volB_len (i n : Int) (s : Nat) (p : List UInt8) : (volB i n s p).length = p.length + 14 := by
  simp [volB, volH_len, fourI_len]
theorem byt_nat (i : Nat) (h : i < 256) : (byt i).toNat = i := by
  have := bytN i (by omega) (by omega); omega
theorem volB_num (i n : Nat) (s : Nat) (p : List UInt8) (h : i < 256) : numV (volB i n s p) = i := by
  simp [numV, volB, volH, byt_nat i h]
theorem volB_cnt (i n : Nat) (s : Nat) (p : List UInt8) (h : n < 256) : cntV (volB i n s p) = n := by
  simp [cntV, volB, volH, byt_nat n h]
theorem volB_id (i n : Int) (s : Nat) (p : List UInt8) : idV (volB i n s p) = byt n :: fourI s := by
  simp [idV, volB, volH, fourI]
theorem volB_sum (i n : Int) (s : Nat) (p : List UInt8) : sumV (volB i n s p) = fourI s := by
  simp [sumV, volB, volH, fourI]
theorem volB_body (i n : Int) (s : Nat) (p : List UInt8) : bodyV (volB i n s p) = p := by
  unfold bodyV; rw [volB_len]; simp [volB, volH, fourI]
theorem volB_ok (i n : Nat) (s : Nat) (p : List UInt8) (h : i < n) (hn : n < 256) : volOk (volB i n s p) = true := by
  have e : (volB i n s p).length - 4 = (volH i n s p).length := by rw [volB_len, volH_len]; omega
  unfold volOk
  rw [volB_num i n s p (by omega), volB_cnt i n s p hn, e]
  have a : (volB i n s p).take (volH i n s p).length = volH i n s p := by simp [volB]
  have b : (volB i n s p).drop (volH i n s p).length = fourI (crc pSum (volH i n s p)) := by simp [volB]
  rw [a, b, volB_len]
  simp [h, volB, volH]

theorem cnt_pos (m k : Nat) (hm : 0 < m) : 0 < cntB m k := by
  unfold cntB; split
  · omega
  · exact Nat.div_pos (by omega) hm
theorem cnt_ge (m k : Nat) (hm : 0 < m) : k ≤ cntB m k * m := by
  unfold cntB; split
  · omega
  · have := Nat.div_add_mod (k + m - 1) m; have := Nat.mod_lt (k + m - 1) hm; rw [Nat.mul_comm]; omega
theorem cnt_least (m k : Nat) (hm : 0 < m) : 1 < cntB m k → (cntB m k - 1) * m < k := by
  unfold cntB; split
  · omega
  · intro _
    have := Nat.div_add_mod (k + m - 1) m
    rw [Nat.sub_mul, Nat.mul_comm]; omega
theorem cnt_small (m k : Nat) (hm : 26 ≤ m) (hk : k ≤ 6000) : cntB m k < 256 := by
  by_cases h : 1 < cntB m k
  · have := cnt_least m k (by omega) h
    have : (cntB m k - 1) * 26 ≤ (cntB m k - 1) * m := Nat.mul_le_mul_left _ hm
    omega
  · omega

theorem parts_take (m : Nat) (b : List UInt8) : ∀ k, ((List.range k).flatMap fun i => partB m i b) = b.take (k * m)
  | 0 => by simp
  | k + 1 => by
    rw [List.range_succ, List.flatMap_append, parts_take m b k]
    simp only [List.flatMap_cons, List.flatMap_nil, List.append_nil, partB]
    rw [Nat.add_mul, Nat.one_mul, List.take_add]
theorem parts_all (m : Nat) (b : List UInt8) (hm : 0 < m) : ((List.range (cntB m b.length)).flatMap fun i => partB m i b) = b := by
  rw [parts_take, List.take_of_length_le (cnt_ge m b.length hm)]

theorem vols_len (m : Nat) (b : List UInt8) : (volsB m b).length = cntB m b.length := by simp [volsB]
theorem vols_get (m : Nat) (b : List UInt8) (i : Nat) (h : i < cntB m b.length) : (volsB m b).getD i [] = volB i (cntB m b.length) (crc pSum b) (partB m i b) := by
  simp [volsB, h]
theorem vols_mem {m : Nat} {b v : List UInt8} (h : v ∈ volsB m b) : ∃ i, i < cntB m b.length ∧ v = volB (i : Nat) (cntB m b.length) (crc pSum b) (partB m i b) := by
  simp only [volsB, List.mem_map, List.mem_range] at h
  obtain ⟨i, hi, rfl⟩ := h; exact ⟨i, hi, rfl⟩
theorem vols_nums (m : Nat) (b : List UInt8) (hs : cntB m b.length < 256) : (volsB m b).map numV = List.range (cntB m b.length) := by
  unfold volsB; rw [List.map_map]
  conv => rhs; rw [← List.map_id (List.range _)]
  apply List.map_congr_left; intro i hi
  simp only [List.mem_range] at hi
  simp only [Function.comp_apply, id_eq]
  exact volB_num i _ _ _ (by omega)

theorem volAt_mem {l : List (List UInt8)} {i : Nat} (h : i < l.length) : l.getD i [] ∈ l := by
  rw [List.getD_eq_getElem?_getD, List.getElem?_eq_getElem h]; exact List.getElem_mem h

/-- What lists of volumes of some bytes have in common. -/
structure Of (m : Nat) (b : List UInt8) (l : List (List UInt8)) : Prop where
  all : ∀ v ∈ l, v ∈ volsB m b
  hm : 26 ≤ m
  hb : b.length ≤ 6000
theorem Of.bad1 {m : Nat} {b : List UInt8} {l : List (List UInt8)} (h : Of m b l) (i : Nat) (hi : i < l.length) : bad1 l i = false := by
  obtain ⟨k, hk, e⟩ := vols_mem (h.all _ (volAt_mem hi))
  unfold Ytdjpkgaicmklmab.bad1; rw [e, volB_ok k _ _ _ hk (cnt_small m _ h.hm h.hb)]; rfl
theorem Of.id {m : Nat} {b : List UInt8} {l : List (List UInt8)} (h : Of m b l) (i : Nat) (hi : i < l.length) : idV (l.getD i []) = byt (cntB m b.length : Nat) :: fourI (crc pSum b) := by
  obtain ⟨k, hk, e⟩ := vols_mem (h.all _ (volAt_mem hi))
  rw [e, volB_id]
theorem Of.bad2 {m : Nat} {b : List UInt8} {l : List (List UInt8)} (h : Of m b l) (i : Nat) (hi : i < l.length) : bad2 l i = false := by
  unfold Ytdjpkgaicmklmab.bad2; rw [h.id i hi, h.id 0 (by omega)]; simp
theorem Of.cnt {m : Nat} {b : List UInt8} {l : List (List UInt8)} (h : Of m b l) (i : Nat) (hi : i < l.length) : cntV (l.getD i []) = cntB m b.length := by
  obtain ⟨k, hk, e⟩ := vols_mem (h.all _ (volAt_mem hi))
  rw [e, volB_cnt k _ _ _ (cnt_small m _ h.hm h.hb)]
theorem Of.sum {m : Nat} {b : List UInt8} {l : List (List UInt8)} (h : Of m b l) (i : Nat) (hi : i < l.length) : sumV (l.getD i []) = fourI (crc pSum b) := by
  obtain ⟨k, hk, e⟩ := vols_mem (h.all _ (volAt_mem hi))
  rw [e, volB_sum]

/-- The volumes of some bytes, in any order, make these bytes again. -/
theorem join_perm {m : Nat} {b : List UInt8} {l : List (List UInt8)} (hm : 26 ≤ m) (hb : b.length ≤ 6000) (hp : l.Perm (volsB m b)) : joinRd l = ⟨b, 0, 0⟩ := by
  have hs := cnt_small m _ hm hb
  have h : Of m b l := ⟨fun v hv => hp.mem_iff.mp hv, hm, hb⟩
  have hl : l.length = cntB m b.length := by rw [hp.length_eq, vols_len]
  have h0 : 0 < l.length := by rw [hl]; exact cnt_pos m _ (by omega)
  have hn : (l.map numV).Nodup := (hp.map numV).nodup_iff.mpr (by rw [vols_nums m b hs]; exact List.nodup_range)
  have h1 := h.bad1
  have h2 := h.bad2
  have h3 := nodup_bad3 hn
  have hat : ∀ n, n < l.length → bodyV (l.getD (atV l n) []) = partB m n b := by
    intro n hn'
    have ha := at_lt h1 h2 h3 (by rw [h.cnt 0 h0, hl]) hn'
    obtain ⟨k, hk, e⟩ := vols_mem (h.all _ (volAt_mem ha))
    have hq : numV (l.getD (atV l n) []) = n := by
      have := List.findIdx_getElem (w := ha) (p := fun v => numV v == n)
      rw [List.getD_eq_getElem?_getD, List.getElem?_eq_getElem ha]
      have e2 := of_decide_eq_true (p := numV (l[l.findIdx (fun v => numV v == n)]'ha) = n) (by simpa using this)
      exact e2
    rw [e, volB_num k _ _ _ (by omega)] at hq
    rw [e, volB_body, hq]
  have hA : allV l l.length = b := by
    have : allV l l.length = (List.range l.length).flatMap fun i => partB m i b := by
      unfold allV
      rw [List.flatMap_def, List.flatMap_def]
      congr 1
      apply List.map_congr_left; intro n hn'; exact hat n (List.mem_range.mp hn')
    rw [this, hl, parts_all m b (by omega)]
  unfold joinRd
  rw [firstOf_none.mpr h1, firstOf_none.mpr h2, firstOf_none.mpr h3]
  simp only
  rw [if_neg (by rw [h.cnt 0 h0]; omega), hA, h.sum 0 h0, if_neg (by simp)]

/-- Without one of them they are refused. -/
theorem join_less {m : Nat} {b : List UInt8} {l : List (List UInt8)} (hm : 26 ≤ m) (hb : b.length ≤ 6000) (hp : l.Sublist (volsB m b)) (hl : l.length ≠ cntB m b.length) : joinRd l = ⟨[], 16, 0⟩ := by
  have hs := cnt_small m _ hm hb
  have h : Of m b l := ⟨fun v hv => hp.subset hv, hm, hb⟩
  have hn : (l.map numV).Nodup := List.Nodup.sublist (hp.map numV) (by rw [vols_nums m b hs]; exact List.nodup_range)
  unfold joinRd
  rw [firstOf_none.mpr h.bad1, firstOf_none.mpr h.bad2, firstOf_none.mpr (nodup_bad3 hn)]
  simp only
  rw [if_pos]
  by_cases h0 : l.length = 0
  · exact Or.inl h0
  · right; rw [h.cnt 0 (by omega)]; exact hl

/-- With one twice they are refused, at the second one. -/
theorem join_more {m : Nat} {b v : List UInt8} (hm : 26 ≤ m) (hb : b.length ≤ 6000) (hv : v ∈ volsB m b) : joinRd (volsB m b ++ [v]) = ⟨[], 15, cntB m b.length⟩ := by
  have hs := cnt_small m _ hm hb
  have h : Of m b (volsB m b ++ [v]) := ⟨fun u hu => by rcases List.mem_append.mp hu with hu | hu; exact hu; rw [List.mem_singleton.mp hu]; exact hv, hm, hb⟩
  have hn : ((volsB m b).map numV).Nodup := by rw [vols_nums m b hs]; exact List.nodup_range
  unfold joinRd
  rw [firstOf_none.mpr h.bad1, firstOf_none.mpr h.bad2, (firstOf_some (i := cntB m b.length)).mpr]
  refine ⟨?_, by simp [vols_len], ?_⟩
  · simp only [Ytdjpkgaicmklmab.bad3, ← vols_len, List.take_left', List.any_eq_true, beq_iff_eq]
    exact ⟨v, hv, by simp⟩
  · intro j hj
    have hj' : j < (volsB m b).length := by rw [vols_len]; exact hj
    have := nodup_bad3 hn j hj'
    rw [← this]
    unfold Ytdjpkgaicmklmab.bad3
    rw [List.take_append_of_le_length (by omega), List.getD_eq_getElem?_getD, List.getElem?_append_left hj', ← List.getD_eq_getElem?_getD]

/-- One of them that is no volume any more is told. -/
theorem join_torn {m : Nat} {b v : List UInt8} {i : Nat} (hm : 26 ≤ m) (hb : b.length ≤ 6000) (hi : i < cntB m b.length) (hv : volOk v = false) : joinRd ((volsB m b).set i v) = ⟨[], 13, i⟩ := by
  have h : Of m b (volsB m b) := ⟨fun _ h => h, hm, hb⟩
  unfold joinRd
  rw [(firstOf_some (i := i)).mpr]
  refine ⟨?_, by simp [vols_len, hi], ?_⟩
  · simp [Ytdjpkgaicmklmab.bad1, vols_len, hi, hv]
  · intro j hj
    rw [← h.bad1 j (by rw [vols_len]; omega)]
    simp only [Ytdjpkgaicmklmab.bad1, List.getD_eq_getElem?_getD]
    rw [List.getElem?_set_ne (by omega)]

/-- One of bytes with another sum among them is told; in the first place the one behind it is. -/
theorem join_mixed {m : Nat} {b c : List UInt8} {i : Nat} (hm : 26 ≤ m) (hb : b.length ≤ 6000) (hc : c.length = b.length) (hs : crc pSum b ≠ crc pSum c) (h2 : 1 < cntB m b.length) (hi : i < cntB m b.length) :
    joinRd ((volsB m b).set i ((volsB m c).getD i [])) = ⟨[], 14, if i = 0 then 1 else i⟩ := by
  have hk := cnt_small m _ hm hb
  have hne : fourI (crc pSum b) ≠ fourI (crc pSum c) := fun e => hs (fourI_inj (crc_lt pSum_lt b) (crc_lt pSum_lt c) e)
  have h : Of m b (volsB m b) := ⟨fun _ h => h, hm, hb⟩
  have hcv := vols_get m c i (by rw [hc]; exact hi)
  rw [hc] at hcv
  have hlen : ((volsB m b).set i ((volsB m c).getD i [])).length = cntB m b.length := by simp [vols_len]
  have g0 : ((volsB m b).set i ((volsB m c).getD i [])).getD i [] = volB i (cntB m b.length) (crc pSum c) (partB m i c) := by
    rw [hcv]; simp [vols_len, hi]
  have g1 : ∀ j, j ≠ i → ((volsB m b).set i ((volsB m c).getD i [])).getD j [] = (volsB m b).getD j [] := by
    intro j hj; simp only [List.getD_eq_getElem?_getD]; rw [List.getElem?_set_ne (by omega)]
  have hid : ∀ j, j < cntB m b.length → j ≠ i → idV (((volsB m b).set i ((volsB m c).getD i [])).getD j []) = byt (cntB m b.length : Nat) :: fourI (crc pSum b) := by
    intro j hj hji; rw [g1 j hji, h.id j (by rw [vols_len]; exact hj)]
  have hidi : idV (((volsB m b).set i ((volsB m c).getD i [])).getD i []) = byt (cntB m b.length : Nat) :: fourI (crc pSum c) := by
    rw [g0, volB_id]
  have n1 : ∀ j, j < ((volsB m b).set i ((volsB m c).getD i [])).length → Ytdjpkgaicmklmab.bad1 ((volsB m b).set i ((volsB m c).getD i [])) j = false := by
    intro j hj
    rw [hlen] at hj
    unfold Ytdjpkgaicmklmab.bad1
    by_cases hji : j = i
    · rw [hji, g0, volB_ok i _ _ _ hi hk]; rfl
    · rw [g1 j hji]; exact h.bad1 j (by rw [vols_len]; exact hj)
  unfold joinRd
  rw [firstOf_none.mpr n1, (firstOf_some (i := if i = 0 then 1 else i)).mpr]
  rw [hlen]
  by_cases h0 : i = 0
  · rw [if_pos h0]
    refine ⟨?_, h2, ?_⟩
    · unfold Ytdjpkgaicmklmab.bad2; rw [hid 1 h2 (by omega)]
      have := hidi; rw [h0] at this; rw [h0, this]; simp [hne]
    · intro j hj; unfold Ytdjpkgaicmklmab.bad2; rw [show j = 0 by omega]; simp
  · rw [if_neg h0]
    refine ⟨?_, hi, ?_⟩
    · unfold Ytdjpkgaicmklmab.bad2; rw [hidi, hid 0 (by omega) (fun e => h0 e.symm)]; simp [hne.symm]
    · intro j hj; unfold Ytdjpkgaicmklmab.bad2; rw [hid j (by omega) (by omega), hid 0 (by omega) (fun e => h0 e.symm)]; simp

/-- Some bits turned over within 32 consecutive ones: no volume any more. -/
theorem vol_torn {i n : Nat} {s : Nat} {p v : List UInt8} (a e e' c : List Bool) (hs : allBits (volB i n s p) = a ++ e ++ c) (ht : allBits v = a ++ e' ++ c)
    (hl : e.length = e'.length) (h32 : e.length ≤ 32) (hne : e ≠ e') : volOk v = false := by
  cases hv : volOk v with
  | false => rfl
  | true =>
    exfalso
    simp only [volOk, Bool.and_eq_true, decide_eq_true_eq, beq_iff_eq] at hv
    obtain ⟨⟨⟨h14, _⟩, _⟩, hsum⟩ := hv
    have hv2 : v = v.take (v.length - 4) ++ fourI (crc pSum (v.take (v.length - 4))) := by
      rw [hsum, List.take_append_drop]
    rw [hv2] at ht
    exact hne (torn pSum_lt pSum_odd _ _ a e e' c hs ht hl h32)
end Go.Proofs.Ytdjpkgaicmklmab

/- A list in another order (shuffled): without the program. -/
namespace Go.Proofs.Ytdjpkgaicmklmab
open Go.RowKit

def swapL (l : List (List UInt8)) (a b : Nat) : List (List UInt8) := (l.set a (l.getD b [])).set b (l.getD a [])
theorem swap_len (l : List (List UInt8)) (a b : Nat) : (swapL l a b).length = l.length := by simp [swapL]
theorem swap_perm (l : List (List UInt8)) (a b : Nat) (ha : a < l.length) (hb : b < l.length) : (swapL l a b).Perm l := by
  have ea : l.getD a [] = l[a] := by simp [ha]
  have eb : l.getD b [] = l[b] := by simp [hb]
  have pa : ∀ x, l[a] = x → 0 < l.count x := fun x h => List.count_pos_iff.mpr (h ▸ List.getElem_mem ha)
  rw [List.perm_iff_count]
  intro x
  unfold swapL
  rw [ea, eb, List.count_set (by simpa using hb), List.count_set ha]
  have hg : (l.set a l[b])[b]'(by simpa using hb) = l[b] := by
    rw [List.getElem_set]; split
    · rfl
    · rfl
  rw [hg]
  have := pa x
  by_cases h1 : l[a] = x
  · by_cases h2 : l[b] = x
    · simp [h1, h2]; have := this h1; omega
    · simp [h1, h2]; have := this h1; omega
  · by_cases h2 : l[b] = x
    · simp [h1, h2]
    · simp [h1, h2]
/-- As 'shuffled' does it: the i-th turn changes a chosen place (below the length) with place i mod length. -/
def shufL (f : Nat → Nat) (l : List (List UInt8)) : Nat → List (List UInt8)
  | 0 => l
  | k + 1 => swapL (shufL f l k) (f k) (k % l.length)
theorem shuf_len (f : Nat → Nat) (l : List (List UInt8)) : ∀ k, (shufL f l k).length = l.length
  | 0 => rfl
  | k + 1 => by simp only [shufL]; rw [swap_len, shuf_len f l k]
theorem shuf_perm (f : Nat → Nat) (l : List (List UInt8)) (hf : ∀ k, f k < l.length) : ∀ k, (shufL f l k).Perm l
  | 0 => List.Perm.refl _
  | k + 1 => by
    have h0 : 0 < l.length := Nat.lt_of_le_of_lt (Nat.zero_le _) (hf 0)
    exact (swap_perm _ _ _ (by rw [shuf_len]; exact hf k) (by rw [shuf_len]; exact Nat.mod_lt _ h0)).trans (shuf_perm f l hf k)
end Go.Proofs.Ytdjpkgaicmklmab

/- parcelkeep's volumes and shuffled, walked. -/
namespace Go.Proofs.Ytdjpkgaicmklmab
open Go.RowKit

/-- How long the volumes are. -/
def volN (size : Int) : Int := if 40 ≤ size ∧ size ≤ 4000 then size else 40 + pickI size 60
theorem volN_range (size : Int) : 40 ≤ volN size ∧ volN size ≤ 4000 := by
  unfold volN
  split
  · assumption
  · have := pickI_lt size 60 (by omega); omega

set_option maxRecDepth 100000 in
set_option maxHeartbeats 4000000 in
theorem volumes_any (size : Int) (w : World) (hs : I64 size) :
    Calls Try.prog 12 #[.int .i64 size] w fun e w' => e = .returned (.int .i64 (volN size)) ∧ w' = w := by
  obtain ⟨p1, p2⟩ := pickI_lt size 60 (by omega)
  have HS : Hid (I64 size) := hs
  clear hs
  by_cases h : 40 ≤ size ∧ size ≤ 4000
  · have E : Hid (volN size = size) := by show _ = _; unfold volN; rw [if_pos h]
    obtain ⟨h1, h2⟩ := h
    go_enter Try.func12, Try.ntmps12
    go_wp2_with fail
    go_ret
    exact ⟨by rw [E.out]; rfl, rfl⟩
  · have E : Hid (volN size = 40 + pickI size 60) := by show _ = _; unfold volN; rw [if_neg h]
    by_cases h1 : 40 ≤ size
    · have h2 : ¬ size ≤ 4000 := fun h2 => h ⟨h1, h2⟩
      clear h
      go_enter Try.func12, Try.ntmps12
      go_wp2_with fail
      refine (pick_any size 60 _ HS.out (by omega) (by omega)).mono ?_
      rintro e w' ⟨rfl, hw⟩
      subst hw
      generalize pickI size 60 = p at *
      go_wp2_with fail
      go_ret
      exact ⟨by rw [E.out]; rfl, rfl⟩
    · clear h
      go_enter Try.func12, Try.ntmps12
      go_wp2_with fail
      refine (pick_any size 60 _ HS.out (by omega) (by omega)).mono ?_
      rintro e w' ⟨rfl, hw⟩
      subst hw
      generalize pickI size 60 = p at *
      go_wp2_with fail
      go_ret
      exact ⟨by rw [E.out]; rfl, rfl⟩

theorem range_srows (l : List (List UInt8)) (N : Nat) (hN : N = l.length) : (List.range N).map (fun i => [Value.string (str (l.getD i []))]) ++ (List.replicate N [Value.string ⟨#[]⟩]).drop N = srows l := by
  subst hN
  rw [List.drop_of_length_le (by simp), List.append_nil]
  apply List.ext_getElem?
  intro i
  by_cases hi : i < l.length
  · simp [hi]
  · simp [hi]

/-- What shuffled makes of a list, by raw numbers. -/
def shufR (f : Nat → Int) (l : List (List UInt8)) (k : Nat) : List (List UInt8) := if l.length = 0 then l else shufL (fun i => (pickI (f i) l.length).toNat) l k
theorem shufR_perm (f : Nat → Int) (l : List (List UInt8)) (k : Nat) : (shufR f l k).Perm l := by
  unfold shufR
  split
  · exact List.Perm.refl _
  · exact shuf_perm _ _ (fun i => by have := pickI_lt (f i) l.length (by omega); omega) k

set_option maxRecDepth 100000 in
set_option maxHeartbeats 4000000 in
theorem shuffled_any (l : List (List UInt8)) (ad0 : Option Addr) (N cap0 : Nat) (n : Nat) (f : Nat → Int) (am : Option Addr) (cm : Nat) (w : World) (hL : Lies w ad0 N 1 (fun i => [.string (str (l.getD i []))])) (hN : N = l.length) (hb : N ≤ 1099511627776) (hM : Lies w am n 1 (iCells f)) (hn : n ≤ 140737488355328) (hI : ∀ i, i < n → I64 (f i)) :
    Calls Try.prog 14 #[.slice ad0 N cap0, .slice am n cm] w fun e w' => ∃ g ad, e = .returned (.slice ad N N) ∧ ad = some ⟨g, 0, none⟩ ∧ Own w' g 9 1 (srows (shufR f l n)) ∧ Below w.heap.size w w' := by
  have HN : Hid (N = l.length) := hN
  have HC := range_srows l N hN
  have HCO : Hid ((List.range N).map (fun i => [Value.string (str (l.getD i []))]) ++ (List.replicate N [Value.string ⟨#[]⟩]).drop N = srows l) := HC
  have HM : Hid (Lies w am n 1 (iCells f)) := hM
  have HI : Hid (∀ i, i < n → I64 (f i)) := hI
  clear hN HC hM hI
  go_enter Try.func14, Try.ntmps14
  go_wp2_with (first
    | (at_make; refine wpList_make_ones (by rfl) _ _ 33 (by rfl) 9 (.string ⟨#[]⟩) 16 Try.underlying33 (by kernel_rfl) rfl N _ ?_ (by rfl) (by rfl) ?_ ?_ ?_; (omega); (omega); (omega); intro g ad w1 he hg hl1 o1 hb1)
    | (refine wpList_copy_rows (by rfl) _ _ 33 33 (by rfl) 9 1 Try.underlying33 (by kernel_rfl) g ad he N _ N _ _ (by rfl) (by rfl) (fun i => [.string (str (l.getD i []))]) _ o1 ?_ ?_ (hL.below hb1) ?_ ?_ ?_; (simp); (omega); (intro i _; rfl); (intro i _ v hv; simp at hv; subst hv; rfl); intro w2 o2 u2))
  rw [HCO.out] at o2
  have hb2 := u2.below hb1 hg
  clear o1 hb1 u2 hl1
  have hx2 := srows_bx o2
  clear o2
  by_cases h0 : N = 0
  · have HR : Hid (shufR f l n = l) := by show _ = _; unfold shufR; rw [if_pos (by rw [← HN.out]; exact h0)]
    have HX2 : Hid (Bx w2 g 9 (strs l)) := hx2
    have hN0 : ¬ (0 < (N : Int)) := by omega
    clear h0 hx2
    by_cases hn0 : 0 < n
    · go_loopw [6, 7, 8, 9] (fun u _ _ _ wr => u = .int .i64 0 ∧ wr = w2) (fun _ _ _ _ _ => 0)
      case atStart => exact ⟨rfl, rfl⟩
      case round =>
        obtain ⟨rfl, hw⟩ := hrel
        subst hw
        go_wp2_with fail
        go_ret
        exact ⟨g, ad, rfl, he.out, by rw [HR.out]; exact bx_srows HX2.out, hb2⟩
    · go_loopw [6, 7, 8, 9] (fun u _ _ _ wr => u = .int .i64 0 ∧ wr = w2) (fun _ _ _ _ _ => 0)
      case atStart => exact ⟨rfl, rfl⟩
      case round =>
        obtain ⟨rfl, hw⟩ := hrel
        subst hw
        go_wp2_with fail
        go_ret
        exact ⟨g, ad, rfl, he.out, by rw [HR.out]; exact bx_srows HX2.out, hb2⟩
  · have HR : Hid (shufR f l n = shufL (fun i => (pickI (f i) l.length).toNat) l n) := by show _ = _; unfold shufR; rw [if_neg (by rw [← HN.out]; exact h0)]
    have hN0 : 0 < N := by omega
    go_loopw [6, 7, 8, 9] (fun u _ _ _ wr => ∃ i : Nat, i ≤ n ∧ u = .int .i64 i ∧ Bx wr g 9 (strs (shufL (fun i => (pickI (f i) l.length).toNat) l i)) ∧ Below w.heap.size w wr) (fun u _ _ _ _ => n - (intOf u).toNat)
    case atStart => exact ⟨0, by omega, rfl, hx2, hb2⟩
    case round =>
      obtain ⟨i, hi, rfl, ho, hbw⟩ := hrel
      by_cases hlt : i < n
      · obtain ⟨b, o, hbl, hix, hc⟩ := (HM.out.below hbw).at cm (P := Try.prog) (t := 23) (by kernel_rfl) (by kernel_rfl) hlt
        have c0 : wr.cell? ⟨b, o, none⟩ = some (.int .i64 (f i)) := hc 0 _ (by omega) rfl
        have HIi := HI.out i hlt
        have HII : Hid (I64 (f i)) := HIi
        obtain ⟨p1, p2⟩ := pickI_lt (f i) (N : Int) (by omega)
        obtain ⟨a, ha⟩ : ∃ a : Nat, pickI (f i) (N : Int) = (a : Int) := ⟨(pickI (f i) (N : Int)).toNat, by omega⟩
        have haN : a < N := by omega
        obtain ⟨q, hq⟩ : ∃ q, q = i % N := ⟨_, rfl⟩
        have hqN : q < N := by rw [hq]; exact Nat.mod_lt _ hN0
        have hmod : (i : Int) % (N : Int) = (q : Int) := by rw [hq]; simp
        have htm : Int.tmod (i : Int) (N : Int) = (q : Int) := by rw [hq]; exact Int.ofNat_tmod i N
        have HA : Hid (pickI (f i) (N : Int) = (a : Int)) := ha
        have HL1 : Hid ((shufL (fun i => (pickI (f i) l.length).toNat) l i).length = N) := by show _ = _; rw [shuf_len, HN.out]
        have HS : Hid (shufL (fun i => (pickI (f i) l.length).toNat) l (i + 1) = swapL (shufL (fun i => (pickI (f i) l.length).toNat) l i) a q) := by
          show _ = _
          simp only [shufL]
          rw [← HN.out, ha, hq]; rfl
        clear hc HIi p1 p2 ha hq
        generalize shufL (fun i => (pickI (f i) l.length).toNat) l i = S at *
        go_wp2_with fail
        refine (pick_any (f i) (N : Int) _ HII.out (by omega) (by omega)).mono ?_
        rintro e w' ⟨rfl, hw⟩
        subst hw
        rw [HA.out]
        have x1 := fun w' => Own.idx he (P := Try.prog) (t := 33) (m := 1) N N (by kernel_rfl) (by kernel_rfl) (k := a) haN (a : Int) rfl w'
        have x2 := fun w' => Own.idx he (P := Try.prog) (t := 33) (m := 1) N N (by kernel_rfl) (by kernel_rfl) (k := q) hqN (q : Int) rfl w'
        simp only [Nat.mul_one] at x1 x2
        have ca := (ho.cell a).trans (strs_at (by rw [HL1.out]; exact haN))
        have cq := (ho.cell q).trans (strs_at (by rw [HL1.out]; exact hqN))
        have hlS : (strs S).length = N := by simp [strs]; exact HL1.out
        clear c0 hix
        have HSW : Hid (swapL S a q = (S.set a (S.getD q [])).set q (S.getD a [])) := rfl
        generalize S.getD a [] = va at *
        generalize S.getD q [] = vq at *
        go_wp2_with (first
          | (refine wpList_bput (by rfl) _ _ 9 (by rfl) g 9 a (by rfl) _ (.string (str vq)) (by rfl) ho (by kernel_rfl) (by omega) (by rfl) (by rfl) ?_; intro w5 ho5 hu5; clear ca cq)
          | (refine wpList_bput (by rfl) _ _ 9 (by rfl) g 9 q (by rfl) _ (.string (str va)) (by rfl) ho5 (by kernel_rfl) (by rw [List.length_set]; omega) (by rfl) (by rfl) ?_; intro w6 ho6 hu6))
        rw [strs_set, strs_set] at ho6
        go_roundw
        case rel => exact ⟨i + 1, by omega, by go_num, by rw [HS.out, HSW.out]; exact ho6, hu6.below (hu5.below hbw hg) hg⟩
        case measure => simp [intOf]; omega
      · have hin : i = n := by omega
        subst hin
        go_wp2_with fail
        go_ret
        exact ⟨g, ad, rfl, he.out, by rw [HR.out]; exact bx_srows ho, hbw⟩
end Go.Proofs.Ytdjpkgaicmklmab

/- Lists that came out and that their owner writes over with a mark: append of marks, stores, and what stays. -/
namespace Go.Proofs.Ytdjpkgaicmklmab
open Go.RowKit

/-- n rows of one mark. -/
def rep (n : Nat) (mk : List Value) : List Value := (List.replicate n mk).flatten
theorem rep_length (n : Nat) (mk : List Value) : (rep n mk).length = n * mk.length := by simp [rep]
theorem rep_add (n c : Nat) (mk : List Value) : rep (n + c) mk = rep n mk ++ rep c mk := by simp [rep, ← List.replicate_append_replicate]
theorem rep_one (mk : List Value) : rep 1 mk = mk := by simp [rep]
theorem rep_zero (mk : List Value) : rep 0 mk = [] := rfl
theorem rep_at (mk : List Value) : ∀ (n j : Nat), j < n * mk.length → (rep n mk)[j]? = mk[j % mk.length]?
  | 0, j, h => by simp at h
  | n + 1, j, h => by
    have e : rep (n + 1) mk = mk ++ rep n mk := by simp [rep, List.replicate_succ]
    rw [e]
    by_cases hj : j < mk.length
    · rw [List.getElem?_append_left hj, Nat.mod_eq_of_lt hj]
    · rw [List.getElem?_append_right (by omega), rep_at mk n (j - mk.length) (by rw [Nat.add_mul] at h; omega)]
      congr 1
      conv => rhs; rw [show j = (j - mk.length) + mk.length by omega]
      rw [Nat.add_mod_right]
theorem rep_eq {mk xs : List Value} {n : Nat} (hl : xs.length = n * mk.length) (h : ∀ j, j < n * mk.length → xs[j]? = mk[j % mk.length]?) : xs = rep n mk := by
  apply List.ext_getElem?
  intro j
  by_cases hj : j < n * mk.length
  · rw [h j hj, rep_at mk n j hj]
  · rw [List.getElem?_eq_none (by omega), List.getElem?_eq_none (by rw [rep_length]; omega)]

/-- Nothing but block g is changed of what there was; in it what was marked is so still. -/
structure Kp (g : Option Nat) (mk : List Value) (w w' : World) : Prop where
  os : w'.os = w.os
  tape : w'.tape = w.tape
  output : w'.output = w.output
  size : w.heap.size ≤ w'.heap.size
  block : ∀ k, k < w.heap.size → g ≠ some k → w'.heap[k]? = w.heap[k]?
  mark : ∀ k cur e, g = some k → w.heap[k]? = some (.cells cur e) → ∃ cur', w'.heap[k]? = some (.cells cur' e) ∧ cur'.size = cur.size ∧ ∀ j, cur[j]? = mk[j % mk.length]? → cur'[j]? = mk[j % mk.length]?

theorem Kp.of_below {g : Option Nat} {mk : List Value} {w w' : World} (h : Below w.heap.size w w') : Kp g mk w w' :=
  ⟨h.os, h.tape, h.output, h.size, fun k hk _ => h.block k hk, fun k cur e _ hc => ⟨cur, by rw [h.block k (Array.getElem?_eq_some_iff.1 hc).1]; exact hc, rfl, fun _ h => h⟩⟩
theorem Kp.below {g : Option Nat} {mk : List Value} {B : Nat} {w0 w w' : World} (h : Kp g mk w w') (hb : Below B w0 w) (hB : B ≤ w.heap.size) (hg : ∀ k, g = some k → B ≤ k) : Below B w0 w' :=
  ⟨h.os.trans hb.os, h.tape.trans hb.tape, h.output.trans hb.output, Nat.le_trans hb.size h.size, fun k hk => (h.block k (by omega) (fun e => by have := hg k e; omega)).trans (hb.block k hk)⟩
theorem Bx.kp {w w' : World} {k e : Nat} {cs mk : List Value} {g : Option Nat} (b : Bx w k e cs) (h : Kp g mk w w') (hg : g ≠ some k) : Bx w' k e cs := ⟨by rw [h.block k b.lt hg]; exact b.h⟩
theorem Vec.kpo {w w' : World} {B e m : Nat} {ad : Option Addr} {n cap : Nat} {xs mk : List Value} {g : Option Nat} (h : Vec w B e m ad n cap xs) (hk : Kp g mk w w') (hg : ∀ b, ad = some b → g ≠ some b.block) : Vec w' B e m ad n cap xs := by
  refine ⟨h.1, ?_⟩
  rcases h.2 with h2 | ⟨k, c, cur, hv, hB, hc, r⟩
  · exact Or.inl h2
  · refine Or.inr ⟨k, c, cur, hv, hB, ?_, r⟩
    simp at hv
    rw [hk.block k (Array.getElem?_eq_some_iff.1 hc).1 (hg _ hv.1)]; exact hc
theorem Vec.kp {w w' : World} {B e m : Nat} {ad : Option Addr} {n cap : Nat} {mk mk' : List Value} {g : Option Nat} (h : Vec w B e m ad n cap (rep n mk)) (hm : mk.length = m) (hk : Kp g mk' w w') (hg : ∀ b, ad = some b → g = some b.block → mk = mk') : Vec w' B e m ad n cap (rep n mk) := by
  refine ⟨h.1, ?_⟩
  rcases h.2 with h2 | ⟨k, c, cur, hv, hB, hc, h1, h3, h4, h5⟩
  · exact Or.inl h2
  · have hv' := hv
    simp at hv'
    by_cases hgk : g = some k
    · obtain rfl := hg _ hv'.1 hgk
      obtain ⟨cur', hc', hs, hmk⟩ := hk.mark k cur e hgk hc
      refine Or.inr ⟨k, c, cur', hv, hB, hc', h1, h3, by rw [hs, h4], ?_⟩
      subst hm
      refine rep_eq ?_ ?_
      · simp only [List.length_take, Array.length_toList, hs, h4]
        exact Nat.min_eq_left (Nat.mul_le_mul_right _ h1)
      · intro j hj
        rw [List.getElem?_take_of_lt hj, Array.getElem?_toList]
        apply hmk
        have := rep_at mk n j hj
        rw [← h5, List.getElem?_take_of_lt hj, Array.getElem?_toList] at this
        exact this
    · refine Or.inr ⟨k, c, cur, hv, hB, ?_, h1, h3, h4, h5⟩
      rw [hk.block k (Array.getElem?_eq_some_iff.1 hc).1 hgk]; exact hc

/-- Blocks of two types are two blocks. -/
theorem Vec.apart {w : World} {B B' e e' m m' : Nat} {ad ad' : Option Addr} {n n' cap cap' : Nat} {xs xs' : List Value} (h : Vec w B e m ad n cap xs) (h' : Vec w B' e' m' ad' n' cap' xs') (he : e ≠ e') : ∀ b, ad = some b → ad'.map (·.block) ≠ some b.block := by
  intro b hb hb'
  rcases h.2 with ⟨h2, _⟩ | ⟨k, c, cur, hv, hB, hc, _⟩
  · simp at h2; rw [h2.1] at hb; cases hb
  · rcases h'.2 with ⟨h2, _⟩ | ⟨k', c', cur', hv', hB', hc', _⟩
    · simp at h2; rw [h2.1] at hb'; cases hb'
    · simp at hv hv'
      rw [hv.1] at hb; cases hb
      rw [hv'.1] at hb'; simp at hb'
      subst hb'
      rw [hc] at hc'
      simp at hc'
      exact he hc'.2
theorem Bx.apart {w : World} {B e e' m k : Nat} {ad : Option Addr} {n cap : Nat} {xs cs : List Value} (b : Bx w k e' cs) (h : Vec w B e m ad n cap xs) (he : e ≠ e') : ad.map (·.block) ≠ some k := by
  intro hb
  rcases h.2 with ⟨h2, _⟩ | ⟨k', c, cur, hv, hB, hc, _⟩
  · simp at h2; rw [h2.1] at hb; cases hb
  · simp at hv
    rw [hv.1] at hb; simp at hb
    subst hb
    have := b.h
    rw [hc] at this
    simp at this
    exact he this.2
theorem Bx.frozen {w : World} {g e : Nat} {cs : List Value} (b : Bx w g e cs) (k : Nat) : w.frozen? ⟨g, k, none⟩ = false := by
  simp [World.frozen?, b.h]
theorem Bx.setCell {w : World} {g e : Nat} {cs : List Value} (b : Bx w g e cs) (k : Nat) (v : Value) : Bx (w.setCell ⟨g, k, none⟩ v) g e (cs.set k v) := by
  refine ⟨?_⟩
  rw [heap_setCell_same w g k cs.toArray e v b.h]
  simp

section
variable {P : Program} {w : World} {ops : Array Oper} {rest : List Oper} {o : Oper} {a : Act} {Q : Exit → Act → World → Prop}

theorem run_append_marks (B : Nat) (t ty e : TypeId) (i : TypeInfo) (z : Value) (size bytes : Nat) (ht : P.underlying t = some (.slice e)) (hi : P.info? e = some i) (hz : i.zero = some z)
    (hsize : i.size = size) (hby : i.bytes = bytes) (hzs : z.cells.size = size) (_hsz : 0 < size)
    (ad : Option Addr) (n cap : Nat) (xs : List Value) (hown : Vec w B e size ad n cap xs)
    (a : Addr) (m c : Nat) (mk : List Value) (hl : mk.length = size) (hnews : ∀ j u, (rep m mk)[j]? = some u → w.cell? (a.add j) = some u) (h1 : ∀ u ∈ mk, u.oneCell' = true) (hm : 0 < m)
    (h63 : n + m ≤ maxLen) (hbytes : (n + m) * bytes ≤ 140737488355328) (hbase : B ≤ w.heap.size) :
    ∃ ad' cap' w', (Builtin.append_ #[t, t] ty #[.slice ad n cap, .slice (some a) m c]).run P w = .ok (.slice ad' (n + m) cap') w' ∧ Vec w' B e size ad' (n + m) cap' (xs ++ rep m mk) ∧ Kp (ad.map (·.block)) mk w w' := by
  subst hsize
  subst hby
  have hsmall : n + m ≤ 9223372036854775807 := by simp only [maxLen] at h63; omega
  have hln : (rep m mk).length = m * i.size := by rw [rep_length, hl]
  have h1' : ∀ u ∈ rep m mk, u.oneCell' = true := by
    intro u hu
    simp only [rep, List.mem_flatten, List.mem_replicate] at hu
    obtain ⟨r, ⟨_, rfl⟩, hu⟩ := hu
    exact h1 u hu
  have hlen : (xs ++ rep m mk).length = (n + m) * i.size := by rw [List.length_append, hown.1, hln, Nat.add_mul]
  have grown : ∀ (old : Nat), old < n + m →
      Vec (w.drew.alloc (.cells (xs.toArray ++ (rep m mk).toArray ++ Builtin.zeroCells z.cells (grownCap w (n + m) old e - (n + m))) e)) B e i.size (some ⟨w.heap.size, 0, none⟩) (n + m) (grownCap w (n + m) old e) (xs ++ rep m mk) ∧
      Below w.heap.size w (w.drew.alloc (.cells (xs.toArray ++ (rep m mk).toArray ++ Builtin.zeroCells z.cells (grownCap w (n + m) old e - (n + m))) e)) := by
    intro old ho
    have hge := grownCap_ge w (n + m) old e
    have hcm : grownCap w (n + m) old e ≤ maxLen := grownCap_le_maxLen w (n + m) old e h63
    refine ⟨⟨hlen, .inr ⟨w.heap.size, _, _, rfl, hbase, heap_alloc_new w.drew _, hge, hcm, ?_, ?_⟩⟩, (Below.refl _ w).drew.alloc (by simp) _⟩
    · simp only [Array.size_append, List.size_toArray, size_zeroCells, hzs, hown.1, hln, ← Nat.add_mul]
      congr 1
      omega
    · simp only [Array.toList_append, List.append_assoc]
      rw [← List.append_assoc, ← hlen]
      exact List.take_left
  rcases hown.2 with ⟨hv, rfl⟩ | ⟨g, cap0, cur, hv, hbg, hg, hnc, hcm, hcs, htake⟩
  · simp at hv
    obtain ⟨rfl, rfl⟩ := hv
    have hx : xs = [] := List.eq_nil_of_length_eq_zero (by have := hown.1; omega)
    subst hx
    have hr := run_append_nil (P := P) w t ty e i z ht hi hz a m c (rep m mk) hln hnews (by omega) (by omega) (by have hb := hbytes; simp only [Nat.zero_add] at hb; omega)
    have hgr := grown 0 (by omega)
    simp only [Nat.zero_add, List.nil_append, Array.empty_append] at hgr ⊢
    exact ⟨_, _, _, hr, hgr.1, Kp.of_below hgr.2⟩
  · simp at hv
    obtain ⟨rfl, rfl⟩ := hv
    by_cases hroom : n + m ≤ cap
    · have hfit : n * i.size + (rep m mk).length ≤ cur.size := by rw [hln, hcs, ← Nat.add_mul]; exact Nat.mul_le_mul_right _ hroom
      have hr := run_append_room (P := P) w t ty e i ht hi g n cap cur hg a m c (rep m mk) hln hnews h1' hroom hfit
      refine ⟨_, _, _, hr, ⟨hlen, .inr ⟨g, cap, _, rfl, hbg, setRow_heap w g cur _ e _ hg, hroom, hcm, ?_, ?_⟩⟩, ⟨rfl, rfl, rfl, by simp, fun k _ hk => setRow_other w g k _ (fun e => hk (by simp [e])), ?_⟩⟩
      · simp only [List.size_toArray, List.length_append, List.length_take, List.length_drop, Array.length_toList]
        omega
      · rw [htake, ← hlen]
        exact List.take_left
      · intro k cur1 e1 hk hc1
        simp at hk
        subst hk
        rw [hg] at hc1
        simp at hc1
        obtain ⟨rfl, rfl⟩ := hc1
        refine ⟨_, setRow_heap w g cur _ e _ hg, ?_, ?_⟩
        · simp only [List.size_toArray, List.length_append, List.length_take, List.length_drop, Array.length_toList]
          omega
        · intro j hj
          simp only [List.getElem?_toArray]
          by_cases h1 : j < n * i.size
          · rw [List.append_assoc, List.getElem?_append_left (by simp; omega), List.getElem?_take_of_lt h1, Array.getElem?_toList]; exact hj
          · by_cases h2 : j < n * i.size + (rep m mk).length
            · rw [List.getElem?_append_left (by simp; omega), List.getElem?_append_right (by simp; omega)]
              have e1 : (cur.toList.take (n * i.size)).length = n * i.size := by simp; omega
              rw [e1, rep_at mk m (j - n * i.size) (by rw [hl]; omega), hl]
              congr 1
              conv => rhs; rw [show j = (j - n * i.size) + n * i.size by omega]
              rw [Nat.add_mul_mod_self_right]
            · rw [List.getElem?_append_right (by simp; omega)]
              have e1 : (cur.toList.take (n * i.size) ++ rep m mk).length = n * i.size + (rep m mk).length := by simp; omega
              rw [e1, List.getElem?_drop, Array.getElem?_toList, show n * i.size + (rep m mk).length + (j - (n * i.size + (rep m mk).length)) = j by omega]
              exact hj
    · have holds : ∀ j u, xs[j]? = some u → w.cell? ((⟨g, 0, none⟩ : Addr).add j) = some u := World.ownsRow.cells (g := g) hown rfl
      have hr := run_append_grow (P := P) w t ty e i z ht hi hz ⟨g, 0, none⟩ n cap xs hown.1 holds a m c (rep m mk) hln hnews (by omega) (by omega) (growslice_fits (by omega) hbytes)
      have hgr := grown cap (by omega)
      exact ⟨_, _, _, hr, hgr.1, Kp.of_below hgr.2⟩

/-- 'a := append(l, m, ..)'. -/
theorem wpList_pushk (hgd : o.guard = none) (s x : Operand) (t : TypeId) (ho : o.op = .call { callee := .builtin .append, args := #[s, x], argTypes := #[t, t] })
    (B e m bytes : Nat) (z : Value) (ht : P.underlying t = some (.slice e)) (hinfo : (P.info? e).map (fun i => (i.zero, i.size, i.bytes)) = some (some z, m, bytes)) (hzs : z.cells.size = m) (hm : 0 < m)
    (ad : Option Addr) (n cap : Nat) (xs : List Value) (hs : a.eval s = .slice ad n cap) (hown : Vec w B e m ad n cap xs)
    (ad1 : Addr) (k c : Nat) (mk : List Value) (hx : a.eval x = .slice (some ad1) k c) (hl : mk.length = m) (hnews : ∀ j u, (rep k mk)[j]? = some u → w.cell? (ad1.add j) = some u) (h1 : ∀ u, u ∈ mk → u.oneCell' = true) (hk : 0 < k)
    (hbytes : (n + k) * bytes ≤ 140737488355328) (hn : n + k ≤ 9223372036854775807) (hB : B ≤ w.heap.size)
    (h : ∀ ad' cap' w', Vec w' B e m ad' (n + k) cap' (xs ++ rep k mk) → Kp (ad.map (·.block)) mk w w' → wpList P ops Q rest (a.put o.dst (.slice ad' (n + k) cap')) w') : wpList P ops Q (o :: rest) a w := by
  obtain ⟨i, hi, hzz⟩ := Option.map_eq_some_iff.1 hinfo
  simp only [Prod.mk.injEq] at hzz
  obtain ⟨hz, hsz, hby⟩ := hzz
  obtain ⟨ad', cap', w', hr, h2, h3⟩ := run_append_marks (P := P) (w := w) B t o.type e i z m bytes ht hi hz hsz hby hzs hm ad n cap xs hown ad1 k c mk hl hnews h1 hk (by unfold maxLen; omega) hbytes hB
  refine wpList_plain hgd fun K hK => ?_
  unfold Oper.wp execOp
  simp only [ho, resolve, invoke, builtin, Sem.run_bind, Sem.run_pure, Result.andThen_ok, List.map_toArray, List.map_cons, List.map_nil, hs, hx, hr]
  exact hK _ _ (h ad' cap' w' h2 h3)
/-- The same within a region that draws its order. -/
theorem step_pushk {K : Act → World → Prop} {E : Prop} (hgd : o.guard = none) (s x : Operand) (t : TypeId) (ho : o.op = .call { callee := .builtin .append, args := #[s, x], argTypes := #[t, t] })
    (B e m bytes : Nat) (z : Value) (ht : P.underlying t = some (.slice e)) (hinfo : (P.info? e).map (fun i => (i.zero, i.size, i.bytes)) = some (some z, m, bytes)) (hzs : z.cells.size = m) (hm : 0 < m)
    (ad : Option Addr) (n cap : Nat) (xs : List Value) (hs : a.eval s = .slice ad n cap) (hown : Vec w B e m ad n cap xs)
    (ad1 : Addr) (c : Nat) (mk : List Value) (hx : a.eval x = .slice (some ad1) 1 c) (hl : mk.length = m) (hnews : ∀ j u, mk[j]? = some u → w.cell? (ad1.add j) = some u) (h1 : ∀ u, u ∈ mk → u.oneCell' = true)
    (hbytes : (n + 1) * bytes ≤ 140737488355328) (hn : n + 1 ≤ 9223372036854775807) (hB : B ≤ w.heap.size)
    (h : ∀ ad' cap' w', Vec w' B e m ad' (n + 1) cap' (xs ++ mk) → Kp (ad.map (·.block)) mk w w' → K (a.put o.dst (.slice ad' (n + 1) cap')) w') :
    if Region.wanted o (yielded ops a.tmps) = true then Oper.wp P o a w K Q else E := by
  have hw : Region.wanted o (yielded ops a.tmps) = true := by simp [Region.wanted, hgd]
  rw [if_pos hw]
  obtain ⟨i, hi, hzz⟩ := Option.map_eq_some_iff.1 hinfo
  simp only [Prod.mk.injEq] at hzz
  obtain ⟨hz, hsz, hby⟩ := hzz
  obtain ⟨ad', cap', w', hr, h2, h3⟩ := run_append_marks (P := P) (w := w) B t o.type e i z m bytes ht hi hz hsz hby hzs hm ad n cap xs hown ad1 1 c mk hl (by rw [rep_one]; exact hnews) h1 (by omega) (by unfold maxLen; omega) hbytes hB
  rw [rep_one] at h2
  unfold Oper.wp execOp
  simp only [ho, resolve, invoke, builtin, Sem.run_bind, Sem.run_pure, Result.andThen_ok, List.map_toArray, List.map_cons, List.map_nil, hs, hx, hr]
  exact h ad' cap' w' h2 h3

/-- 'l[i] = m'. -/
theorem wpList_vstore (hgd : o.guard = none) (p v : Operand) (t : TypeId) (ho : o.op = .store t p v) (B e m : Nat) (hs : (P.info? t).map (·.size) = some m) (ad : Option Addr) (n cap : Nat) (mk ys : List Value) (i g : Nat) (hg : Hid (ad = some ⟨g, 0, none⟩))
    (hown : Vec w B e m ad n cap (rep i mk ++ ys)) (hin : i < n) (hl : mk.length = m) (h1 : ∀ u, u ∈ mk → u.oneCell' = true) (hp : a.eval p = .pointer (some ⟨g, i * m, none⟩)) (hv : a.eval v = .agg mk.toArray)
    (h : ∀ w', Vec w' B e m ad n cap (rep (i + 1) mk ++ ys.drop m) → Upd g w w' → wpList P ops Q rest (a.put o.dst undef) w') : wpList P ops Q (o :: rest) a w := by
  subst hl
  have hg' := hg.out
  subst hg'
  rcases hown.2 with ⟨h2, _⟩ | ⟨k, c, cur, hvv, hB, hc, r1, r2, r3, r4⟩
  · simp at h2
  · simp at hvv
    obtain ⟨rfl, rfl⟩ := hvv
    have hlen := hown.1
    rw [List.length_append, rep_length] at hlen
    have hmul : (i + 1) * mk.length ≤ n * mk.length := Nat.mul_le_mul_right _ hin
    have hmul2 : n * mk.length ≤ cap * mk.length := Nat.mul_le_mul_right _ r1
    rw [Nat.add_mul, Nat.one_mul] at hmul
    have hfit : i * mk.length + 0 + mk.length ≤ cur.size := by rw [r3]; omega
    have hst := run_storeCells_at P g (i * mk.length) e mk 0 cur w hc hfit h1
    refine wpList_plain hgd fun K hK => ?_
    cases hq : P.info? t with
    | none => simp [hq] at hs
    | some inf =>
      have hi' : inf.size = mk.length := by simpa [hq] using hs
      unfold Oper.wp
      simp [execOp, ho, hp, hv, Instr.storeAt, Instr.sureAddr, storeVar, sizeOf, typeInfo, hq, hi', Value.cells, hst, Result.andThen]
      refine hK _ _ (h _ ⟨?_, .inr ⟨g, cap, _, rfl, hB, setRow_heap w g cur _ e _ hc, r1, r2, ?_, ?_⟩⟩ (Upd.setRow _ _ _))
      · rw [List.length_append, rep_length, List.length_drop, Nat.add_mul]; omega
      · simp only [List.size_toArray, List.length_append, List.length_take, List.length_drop, Array.length_toList]; omega
      · have hcur : cur.toList = rep i mk ++ ys ++ cur.toList.drop (n * mk.length) := by rw [← r4, List.take_append_drop]
        have e1 : cur.toList.take (i * mk.length) = rep i mk := by
          rw [hcur, List.append_assoc, List.take_append_of_le_length (by rw [rep_length]; omega), List.take_of_length_le (by rw [rep_length]; omega)]
        have e2 : cur.toList.drop (i * mk.length + mk.length) = ys.drop mk.length ++ cur.toList.drop (n * mk.length) := by
          conv => lhs; rw [hcur]
          rw [List.append_assoc, List.drop_append, rep_length, List.drop_of_length_le (by rw [rep_length]; omega), List.nil_append, List.drop_append, show i * mk.length + mk.length - i * mk.length = mk.length by omega, show mk.length - ys.length = 0 by omega, List.drop_zero]
        rw [e1, e2]
        have e3 : rep i mk ++ (mk ++ (ys.drop mk.length ++ cur.toList.drop (n * mk.length))) = (rep (i + 1) mk ++ ys.drop mk.length) ++ cur.toList.drop (n * mk.length) := by rw [rep_add, rep_one]; simp
        rw [e3]
        refine List.take_left' ?_
        rw [List.length_append, rep_length, List.length_drop, Nat.add_mul]; omega
end
end Go.Proofs.Ytdjpkgaicmklmab

