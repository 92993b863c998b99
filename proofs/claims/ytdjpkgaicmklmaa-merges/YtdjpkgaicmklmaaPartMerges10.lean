/- Texts of the proof, one behind the other; what each holds is said at its head. -/
import Derived.Test.YtdjpkgaicmklmaaPartMerges9
import Derived.Test.YtdjpkgaicmklmaaPartMerges6
import Derived.Test.YtdjpkgaicmklmaaPartMerges0
import Derived.Test.YtdjpkgaicmklmaaPartMerges5
import Derived.Deep.RegionHeld3
/- The reference's Merge: walked. -/
namespace Go.Proofs.Ytdjpkgaicmklmaa
open Go.RowKit

set_option maxRecDepth 100000 in
set_option maxHeartbeats 8000000 in
theorem rmerge_any (A B : Rep) (a1 a2 a3 b1 b2 b3 : Option Addr) (k1 k2 k3 l1 l2 l3 : Nat) (w : World) (hA : Has w A a1 a2 a3) (hB : Has w B b1 b2 b3) :
    Calls Try.prog 62 #[repV A a1 a2 a3 k1 k2 k3, repV B b1 b2 b3 l1 l2 l3] w fun e w' => MergeAns (mergeRd A.tri B.tri) w.heap.size e w' ∧ Below w.heap.size w w' := by
  have HA : Hid (Has w A a1 a2 a3) := hA
  have HB : Hid (Has w B b1 b2 b3) := hB
  have H0 : Hid (M3 w (repC a1 A.n1 k1 a2 A.n2 k2 a3 A.n3 k3) (repC b1 B.n1 l1 b2 B.n2 l2 b3 B.n3 l3) (repC none 0 0 none 0 0 none 0 0) (((w.alloc (.cells #[.slice a1 A.n1 k1, .slice a2 A.n2 k2, .slice a3 A.n3 k3] 26)).alloc (.cells #[.slice b1 B.n1 l1, .slice b2 B.n2 l2, .slice b3 B.n3 l3] 26)).alloc (.cells #[.slice none 0 0, .slice none 0 0, .slice none 0 0] 26))) := M3.start w _ _ _
  have HTA : Hid (A.tri.rep.chk = A.chk) := tri_chk A
  have HTB : Hid (B.tri.rep.chk = B.chk) := tri_chk B
  have x0 := H0.out.a.cell 0; have x1 := H0.out.a.cell 1; have x2 := H0.out.a.cell 2
  dsimp only [List.getElem?_cons_zero, List.getElem?_cons_succ] at x0 x1 x2
  clear hA hB
  go_enter Try.func62, Try.ntmps62
  go_wp2_with fail
  refine (rcheck_any A a1 a2 a3 k1 k2 k3 _ (HA.out.below H0.out.old)).mono ?_
  rintro e w1 ⟨rfl, hb1⟩
  have HM1 := H0.out.step hb1
  have hM1 : Hid (M3 w (repC a1 A.n1 k1 a2 A.n2 k2 a3 A.n3 k3) (repC b1 B.n1 l1 b2 B.n2 l2 b3 B.n3 l3) (repC none 0 0 none 0 0 none 0 0) w1) := HM1
  clear hb1 H0 x0 x1 x2 HM1
  by_cases hc : A.chk = 0
  · have HCA : Hid (A.chk = 0) := hc
    rw [hc]
    clear hc
    have y0 := hM1.out.b.cell 0; have y1 := hM1.out.b.cell 1; have y2 := hM1.out.b.cell 2
    dsimp only [List.getElem?_cons_zero, List.getElem?_cons_succ] at y0 y1 y2
    go_wp2_with fail
    refine (rcheck_any B b1 b2 b3 l1 l2 l3 _ (HB.out.below hM1.out.old)).mono ?_
    rintro e w2 ⟨rfl, hb2⟩
    have hM2 : Hid (M3 w (repC a1 A.n1 k1 a2 A.n2 k2 a3 A.n3 k3) (repC b1 B.n1 l1 b2 B.n2 l2 b3 B.n3 l3) (repC none 0 0 none 0 0 none 0 0) w2) := hM1.out.step hb2
    clear hb2 hM1 y0 y1 y2
    by_cases hc : B.chk = 0
    · have HCB : Hid (B.chk = 0) := hc
      rw [hc]
      clear hc
      obtain ⟨m1, m2, m3⟩ := Rep.many HCA.out
      obtain ⟨n1, n2, n3⟩ := Rep.many HCB.out
      go_wp2_with fail
      go_loopw [7, 8, 9, 10] (fun u _ _ _ wr => ∃ i : Nat, i ≤ A.n2 ∧ u = .int .i64 i ∧ (∀ i', i' < i → ∀ j, j < B.n2 → ¬ ((A.d i').site = (B.d j).site ∧ (A.d i').count = (B.d j).count ∧ A.d i' ≠ B.d j)) ∧ M3 w (repC a1 A.n1 k1 a2 A.n2 k2 a3 A.n3 k3) (repC b1 B.n1 l1 b2 B.n2 l2 b3 B.n3 l3) (repC none 0 0 none 0 0 none 0 0) wr) (fun u _ _ _ _ => A.n2 - (intOf u).toNat)
      case atStart => exact ⟨0, Nat.zero_le _, rfl, fun i' h => by omega, hM2.out⟩
      case round =>
        obtain ⟨i, hi, rfl, hno, hm⟩ := hrel
        have HNO : Hid (∀ i', i' < i → ∀ j, j < B.n2 → ¬ ((A.d i').site = (B.d j).site ∧ (A.d i').count = (B.d j).count ∧ A.d i' ≠ B.d j)) := hno
        clear hno
        have x1 := hm.a.cell 1
        dsimp only [List.getElem?_cons_zero, List.getElem?_cons_succ] at x1
        by_cases hlt : i < A.n2
        · generalize hwr : wr = w5 at *
          clear hwr
          go_wp2_with fail
          go_loopw [8, 9, 10] (fun u _ _ wr => ∃ j : Nat, j ≤ B.n2 ∧ u = .int .i64 j ∧ (∀ j', j' < j → ¬ ((A.d i).site = (B.d j').site ∧ (A.d i).count = (B.d j').count ∧ A.d i ≠ B.d j')) ∧ Below w5.heap.size w5 wr) (fun u _ _ _ => B.n2 - (intOf u).toNat)
          case atStart => exact ⟨0, Nat.zero_le _, rfl, fun j' h => by omega, Below.refl _ _⟩
          case round =>
            obtain ⟨j, hj, rfl, hno2, hbr⟩ := hrel
            have HNO2 : Hid (∀ j', j' < j → ¬ ((A.d i).site = (B.d j').site ∧ (A.d i).count = (B.d j').count ∧ A.d i ≠ B.d j')) := hno2
            have hmr := hm.step hbr
            clear hno2
            have x2 := hmr.a.cell 1
            have y1 := hmr.b.cell 1
            dsimp only [List.getElem?_cons_zero, List.getElem?_cons_succ] at x2 y1
            by_cases hlt2 : j < B.n2
            · obtain ⟨bA, oA, hblA, hixA, c0, c1, c2, c3, c4⟩ := (HA.out.below hmr.old).l2.card k2 hlt
              obtain ⟨bB, oB, hblB, hixB, d0, d1, d2, d3, d4⟩ := (HB.out.below hmr.old).l2.card l2 hlt2
              have HC : Hid (A.tri.C.getD i cd0 = A.d i ∧ B.tri.C.getD j cd0 = B.d j) := ⟨tri_card A i hlt, tri_card B j hlt2⟩
              have HW2 : Hid (∀ o1 o2, Below w5.heap.size w5 ((wr.alloc o1).alloc o2)) := fun o1 o2 => (hbr.alloc hbr.size _).alloc (by have := hbr.size; simp; omega) _
              have HSTEP : Hid (¬ ((A.d i).site = (B.d j).site ∧ (A.d i).count = (B.d j).count ∧ A.d i ≠ B.d j) → ∀ j', j' < j + 1 → ¬ ((A.d i).site = (B.d j').site ∧ (A.d i).count = (B.d j').count ∧ A.d i ≠ B.d j')) := by
                intro h j' hj'
                rcases Nat.lt_or_ge j' j with h2 | h2
                · exact HNO2.out j' h2
                · rw [show j' = j by omega]; exact h
              have HYES : Hid ((A.d i).site = (B.d j).site ∧ (A.d i).count = (B.d j).count ∧ A.d i ≠ B.d j → mergeRd A.tri B.tri = ansErr 6 0) := by
                intro h
                have hcl : clashB2 A.tri.C B.tri.C = true := clash_yes (i := i) (j := j) (by rw [(tri_len A).2.1]; exact hlt) (by rw [(tri_len B).2.1]; exact hlt2) (by rw [HC.out.1, HC.out.2]; exact h)
                unfold mergeRd
                rw [if_pos (by rw [HTA.out]; exact HCA.out), if_pos (by rw [HTB.out]; exact HCB.out), if_pos hcl]
              clear HC HNO2
              have y4 : ∀ o1, (wr.alloc o1).cell? ⟨w.heap.size + 1, 1, none⟩ = some (.slice b2 B.n2 l2) := fun o1 => ((hmr.step ((Below.refl _ _).alloc (Nat.le_refl _) o1)).b.cell 1)
              have d0' : ∀ o1, (wr.alloc o1).cell? ⟨bB, oB, none⟩ = some (.int .i64 (B.d j).id) := fun o1 => (((Below.refl _ wr).alloc (Nat.le_refl _) o1).cell (p := ⟨bB, oB, none⟩) hblB).trans d0
              have d1' : ∀ o1, (wr.alloc o1).cell? ⟨bB, oB + 1, none⟩ = some (.int .i64 (B.d j).site) := fun o1 => (((Below.refl _ wr).alloc (Nat.le_refl _) o1).cell (p := ⟨bB, oB + 1, none⟩) hblB).trans d1
              have d2' : ∀ o1, (wr.alloc o1).cell? ⟨bB, oB + 2, none⟩ = some (.int .i64 (B.d j).count) := fun o1 => (((Below.refl _ wr).alloc (Nat.le_refl _) o1).cell (p := ⟨bB, oB + 2, none⟩) hblB).trans d2
              have d3' : ∀ o1, (wr.alloc o1).cell? ⟨bB, oB + 3, none⟩ = some (.bool (B.d j).gone) := fun o1 => (((Below.refl _ wr).alloc (Nat.le_refl _) o1).cell (p := ⟨bB, oB + 3, none⟩) hblB).trans d3
              have d4' : ∀ o1, (wr.alloc o1).cell? ⟨bB, oB + 4, none⟩ = some (.string (B.d j).text) := fun o1 => (((Below.refl _ wr).alloc (Nat.le_refl _) o1).cell (p := ⟨bB, oB + 4, none⟩) hblB).trans d4
              generalize A.d i = x at *
              generalize B.d j = y at *
              by_cases hs : x.site = y.site
              · have qs : (x.site == y.site) = true := by simp [hs]
                by_cases hc : x.count = y.count
                · have qc : (x.count == y.count) = true := by simp [hc]
                  by_cases he : x = y
                  · have H9 : Hid (∀ j', j' < j + 1 → ¬ (x.site = (B.d j').site ∧ x.count = (B.d j').count ∧ x ≠ B.d j')) := HSTEP.out (fun h => h.2.2 he)
                    subst he
                    clear HSTEP HYES hs hc
                    go_wp2_with fail
                    go_roundw
                    case rel => exact ⟨j + 1, by omega, by go_num, H9.out, HW2.out _ _⟩
                    case measure => simp [intOf]; omega
                  · have E : Hid (mergeRd A.tri B.tri = ansErr 6 0) := HYES.out ⟨hs, hc, he⟩
                    have HMM : Hid (∀ o1 o2, M3 w (repC a1 A.n1 k1 a2 A.n2 k2 a3 A.n3 k3) (repC b1 B.n1 l1 b2 B.n2 l2 b3 B.n3 l3) (repC none 0 0 none 0 0 none 0 0) ((wr.alloc o1).alloc o2)) := fun o1 o2 => (hmr.step ((Below.refl _ _).alloc (Nat.le_refl _) o1)).step ((Below.refl _ _).alloc (Nat.le_refl _) o2)
                    have hne := cd_ne he
                    clear HSTEP HYES he
                    rcases hne with hne | ⟨r1, hne⟩ | ⟨r1, r2, hne⟩ | ⟨r1, r2, r3, hne⟩ | ⟨r1, r2, r3, r4, hne⟩
                    · have qi : (x.id == y.id) = false := by rw [beq_eq_false_iff_ne]; exact hne
                      clear hs hc hne
                      go_wp2_with (refine wpList_bstore (by rfl) _ _ _ (by rfl) (w.heap.size + 2) 26 (by rfl) _ _ (by rfl) (HMM.out _ _).r 3 (by rfl) (by kernel_rfl) (by rfl) (by intro x hx; simp at hx; subst hx; rfl) ?_; intro w9 hr9 hu9)
                      exact bodyPost_ret (v := .tuple #[.agg #[.slice none 0 0, .slice none 0 0, .slice none 0 0], .int .i64 6]) (results_box2 (by rfl) _ _ (w.heap.size + 2) 26 _ _ _ (by rfl) hr9 (by rfl) Try.underlying26 (by rfl) 3 (by rfl) (by kernel_rfl)) rfl ⟨⟨none, 0, 0, none, 0, 0, none, 0, 0, by rw [E.out]; rfl, by rw [E.out]; exact Lists.nil _ _⟩, ((HMM.out _ _).put hu9 hr9).old⟩
                    · exact absurd hs hne
                    · exact absurd hc hne
                    · have qi : (x.id == y.id) = true := by simp [r1]
                      have qg : (x.gone == y.gone) = false := by rw [beq_eq_false_iff_ne]; exact hne
                      clear hs hc hne r1 r2 r3
                      go_wp2_with (refine wpList_bstore (by rfl) _ _ _ (by rfl) (w.heap.size + 2) 26 (by rfl) _ _ (by rfl) (HMM.out _ _).r 3 (by rfl) (by kernel_rfl) (by rfl) (by intro x hx; simp at hx; subst hx; rfl) ?_; intro w9 hr9 hu9)
                      exact bodyPost_ret (v := .tuple #[.agg #[.slice none 0 0, .slice none 0 0, .slice none 0 0], .int .i64 6]) (results_box2 (by rfl) _ _ (w.heap.size + 2) 26 _ _ _ (by rfl) hr9 (by rfl) Try.underlying26 (by rfl) 3 (by rfl) (by kernel_rfl)) rfl ⟨⟨none, 0, 0, none, 0, 0, none, 0, 0, by rw [E.out]; rfl, by rw [E.out]; exact Lists.nil _ _⟩, ((HMM.out _ _).put hu9 hr9).old⟩
                    · have qi : (x.id == y.id) = true := by simp [r1]
                      have qg : (x.gone == y.gone) = true := by simp [r4]
                      have hnb := ba_beq hne
                      have hnl := bl_beq hne
                      clear hs hc hne r1 r2 r3 r4
                      go_wp2_with (refine wpList_bstore (by rfl) _ _ _ (by rfl) (w.heap.size + 2) 26 (by rfl) _ _ (by rfl) (HMM.out _ _).r 3 (by rfl) (by kernel_rfl) (by rfl) (by intro x hx; simp at hx; subst hx; rfl) ?_; intro w9 hr9 hu9)
                      exact bodyPost_ret (v := .tuple #[.agg #[.slice none 0 0, .slice none 0 0, .slice none 0 0], .int .i64 6]) (results_box2 (by rfl) _ _ (w.heap.size + 2) 26 _ _ _ (by rfl) hr9 (by rfl) Try.underlying26 (by rfl) 3 (by rfl) (by kernel_rfl)) rfl ⟨⟨none, 0, 0, none, 0, 0, none, 0, 0, by rw [E.out]; rfl, by rw [E.out]; exact Lists.nil _ _⟩, ((HMM.out _ _).put hu9 hr9).old⟩
                · have qc : (x.count == y.count) = false := by rw [beq_eq_false_iff_ne]; exact hc
                  have H9 : Hid (∀ j', j' < j + 1 → ¬ (x.site = (B.d j').site ∧ x.count = (B.d j').count ∧ x ≠ B.d j')) := HSTEP.out (fun h => hc h.2.1)
                  clear HSTEP HYES hs hc
                  go_wp2_with fail
                  go_roundw
                  case rel => exact ⟨j + 1, by omega, by go_num, H9.out, HW2.out _ _⟩
                  case measure => simp [intOf]; omega
              · have qs : (x.site == y.site) = false := by rw [beq_eq_false_iff_ne]; exact hs
                have H9 : Hid (∀ j', j' < j + 1 → ¬ (x.site = (B.d j').site ∧ x.count = (B.d j').count ∧ x ≠ B.d j')) := HSTEP.out (fun h => hs h.1)
                clear HSTEP HYES hs
                go_wp2_with fail
                go_roundw
                case rel => exact ⟨j + 1, by omega, by go_num, H9.out, HW2.out _ _⟩
                case measure => simp [intOf]; omega
            · obtain rfl : B.n2 = j := by omega
              have H9 : Hid (∀ i', i' < i + 1 → ∀ j, j < B.n2 → ¬ ((A.d i').site = (B.d j).site ∧ (A.d i').count = (B.d j).count ∧ A.d i' ≠ B.d j)) := by
                intro i' hi' j' hj'
                rcases Nat.lt_or_ge i' i with h2 | h2
                · exact HNO.out i' h2 j' hj'
                · rw [show i' = i by omega]; exact HNO2.out j' hj'
              go_wp2_with fail
              go_roundw
              case rel => exact ⟨i + 1, by omega, by go_num, H9.out, hmr⟩
              case measure => simp [intOf]; omega
        · obtain rfl : A.n2 = i := by omega
          have HCL : Hid (clashB2 A.tri.C B.tri.C = false) := clash_no (fun i' hi' j' hj' => by
            rw [(tri_len A).2.1] at hi'
            rw [(tri_len B).2.1] at hj'
            rw [tri_card A i' hi', tri_card B j' hj']
            exact HNO.out i' hi' j' hj')
          clear HNO
          generalize hwr : wr = W at *
          clear hwr
          have HM : Hid (M3 w (repC a1 A.n1 k1 a2 A.n2 k2 a3 A.n3 k3) (repC b1 B.n1 l1 b2 B.n2 l2 b3 B.n3 l3) (repC none 0 0 none 0 0 none 0 0) W) := hm
          clear hm
          have HX : Hid (∀ wX, Below W.heap.size W wX → (wX.cell? ⟨w.heap.size, 0, none⟩ = some (.slice a1 A.n1 k1) ∧ wX.cell? ⟨w.heap.size, 1, none⟩ = some (.slice a2 A.n2 k2) ∧ wX.cell? ⟨w.heap.size, 2, none⟩ = some (.slice a3 A.n3 k3)) ∧ (wX.cell? ⟨w.heap.size + 1, 0, none⟩ = some (.slice b1 B.n1 l1) ∧ wX.cell? ⟨w.heap.size + 1, 1, none⟩ = some (.slice b2 B.n2 l2) ∧ wX.cell? ⟨w.heap.size + 1, 2, none⟩ = some (.slice b3 B.n3 l3)) ∧ Has wX A a1 a2 a3 ∧ Has wX B b1 b2 b3) := by
            intro wX hX
            have h := HM.out.step hX
            exact ⟨⟨h.a.cell 0, h.a.cell 1, h.a.cell 2⟩, ⟨h.b.cell 0, h.b.cell 1, h.b.cell 2⟩, HA.out.below h.old, HB.out.below h.old⟩
          obtain ⟨⟨x0, x1, x2⟩, ⟨y0, y1, y2⟩, -⟩ := HX.out W (Below.refl _ _)
          have HEA : Hid (∀ wX, Has wX A a1 a2 a3 → Lies wX a3 A.n3 2 (fun i => (A.tri.E.getD i ed0).cells)) := fun wX h => by
            rcases h.l3 with h | ⟨b, o, e, hb, hc⟩
            · exact Or.inl h
            · exact Or.inr ⟨b, o, e, hb, fun i hi j v hj hv => hc i hi j v hj (by simp only [tri_edit A i hi] at hv; exact hv)⟩
          have HEB : Hid (∀ wX, Has wX B b1 b2 b3 → Lies wX b3 B.n3 2 (fun i => (B.tri.E.getD i ed0).cells)) := fun wX h => by
            rcases h.l3 with h | ⟨b, o, e, hb, hc⟩
            · exact Or.inl h
            · exact Or.inr ⟨b, o, e, hb, fun i hi j v hj hv => hc i hi j v hj (by simp only [tri_edit B i hi] at hv; exact hv)⟩
          go_wp2_with fail
          have KC : Hid (∀ X, Below W.heap.size W X → Calls Try.prog 105 #[repV A a1 a2 a3 k1 k2 k3, repV B b1 b2 b3 l1 l2 l3] X fun e w' => ∃ ad cap N, e = .returned (.slice ad N cap) ∧ N = (refClk A.tri.K B.tri.K 200).length ∧ Vec w' W.heap.size 67 2 ad N cap (kcells (refClk A.tri.K B.tri.K 200)) ∧ Below X.heap.size X w' ∧ Below W.heap.size W w') := fun X hX =>
            (rclocks_any A B a1 a2 a3 b1 b2 b3 k1 k2 k3 l1 l2 l3 X (HX.out _ hX).2.2.1 (HX.out _ hX).2.2.2).mono fun e w' ⟨ad, cap, N, h1, h2, h3, h4⟩ => ⟨ad, cap, N, h1, h2, h3.mono hX.size, h4, hX.trans (h4.mono hX.size)⟩
          have KE : Hid (∀ X, Below W.heap.size W X → Calls Try.prog 106 #[.slice a3 A.n3 k3, .slice b3 B.n3 l3] X fun e w' => ∃ ad cap N, e = .returned (.slice ad N cap) ∧ N = (bothE A.tri.E B.tri.E).length ∧ Vec w' W.heap.size 71 2 ad N cap (ecells (bothE A.tri.E B.tri.E)) ∧ Below X.heap.size X w' ∧ Below W.heap.size W w') := fun X hX =>
            (rjoined_any A.tri.E B.tri.E a3 b3 A.n3 B.n3 k3 l3 X (HEA.out _ (HX.out _ hX).2.2.1) (HEB.out _ (HX.out _ hX).2.2.2) (tri_len A).2.2.symm (tri_len B).2.2.symm (by omega) (by omega)).mono fun e w' ⟨ad, cap, N, h1, h2, h3, h4⟩ => ⟨ad, cap, N, h1, h2, h3.mono hX.size, h4, hX.trans (h4.mono hX.size)⟩
          have HS : Hid (∀ w', Below W.heap.size W w' → w'.cell? ⟨w.heap.size, 0, none⟩ = some (.slice a1 A.n1 k1) ∧ w'.cell? ⟨w.heap.size, 1, none⟩ = some (.slice a2 A.n2 k2) ∧ w'.cell? ⟨w.heap.size, 2, none⟩ = some (.slice a3 A.n3 k3) ∧ w'.cell? ⟨w.heap.size + 1, 0, none⟩ = some (.slice b1 B.n1 l1) ∧ w'.cell? ⟨w.heap.size + 1, 1, none⟩ = some (.slice b2 B.n2 l2) ∧ w'.cell? ⟨w.heap.size + 1, 2, none⟩ = some (.slice b3 B.n3 l3)) := fun w' h => ⟨(HX.out _ h).1.1, (HX.out _ h).1.2.1, (HX.out _ h).1.2.2, (HX.out _ h).2.1.1, (HX.out _ h).2.1.2.1, (HX.out _ h).2.1.2.2⟩
          go_cut [11] (fun v wx => ∃ g adK capK NK adE capE NE, v = .pointer (some ⟨g, 0, none⟩) ∧ W.heap.size ≤ g ∧ MO W wx g W.heap.size A B adK NK capK none 0 0 adE NE capE [])
          case first =>
            go_region_held3 (fun w' => w'.cell? ⟨w.heap.size, 0, none⟩ = some (.slice a1 A.n1 k1) ∧ w'.cell? ⟨w.heap.size, 1, none⟩ = some (.slice a2 A.n2 k2) ∧ w'.cell? ⟨w.heap.size, 2, none⟩ = some (.slice a3 A.n3 k3) ∧ w'.cell? ⟨w.heap.size + 1, 0, none⟩ = some (.slice b1 B.n1 l1) ∧ w'.cell? ⟨w.heap.size + 1, 1, none⟩ = some (.slice b2 B.n2 l2) ∧ w'.cell? ⟨w.heap.size + 1, 2, none⟩ = some (.slice b3 B.n3 l3))
              (first | (go_keep; done) | (refine HS.out _ ?_; (repeat (first | exact Below.refl _ _ | exact hbC | exact hbE | refine Below.drew ?_ | refine Below.alloc ?_ (by first | exact hbC.size | exact hbE.size | (simp; done)) _ | refine Below.setCell ?_ (by first | exact hbC.size | exact hbE.size | (simp; done)) _))))
              (first
                | (go_at_call 105; refine (KC.out _ (by (repeat (first | exact Below.refl _ _ | exact hbC | exact hbE | refine Below.drew ?_ | refine Below.alloc ?_ (by first | exact hbC.size | exact hbE.size | (simp; done)) _ | refine Below.setCell ?_ (by first | exact hbC.size | exact hbE.size | (simp; done)) _)))).mono ?_; rintro e wC ⟨adK, capK, NK, rfl, hNK, hvK, hbXC, hbC⟩; have HNK : Hid (NK = (refClk A.tri.K B.tri.K 200).length) := hNK; clear hNK; (try ((first | have obC : Bx wC W.heap.size 26 (repC none 0 0 none 0 0 none 0 0) := out_keep2 hbXC | have obC : Bx wC W.heap.size 26 (repC none 0 0 none 0 0 none 0 0) := out_keep hbXC | have obC := out_keep2 hbXC | have obC := out_keep hbXC); have obC0 := obC.cell 0; have obC1 := obC.cell 1; have obC2 := obC.cell 2; dsimp only [List.getElem?_cons_zero, List.getElem?_cons_succ] at obC0 obC1 obC2; have ofC0 := obC.frozen 0; have ofC1 := obC.frozen 1; have ofC2 := obC.frozen 2)); (try (have ocC := obE.below hbXC obE.lt; have ocC0 := ocC.cell 0; have ocC1 := ocC.cell 1; have ocC2 := ocC.cell 2; dsimp only [List.getElem?_cons_zero, List.getElem?_cons_succ] at ocC0 ocC1 ocC2; have ogC0 := ocC.frozen 0; have ogC1 := ocC.frozen 1; have ogC2 := ocC.frozen 2)))
                | (go_at_call 106; refine (KE.out _ (by (repeat (first | exact Below.refl _ _ | exact hbC | exact hbE | refine Below.drew ?_ | refine Below.alloc ?_ (by first | exact hbC.size | exact hbE.size | (simp; done)) _ | refine Below.setCell ?_ (by first | exact hbC.size | exact hbE.size | (simp; done)) _)))).mono ?_; rintro e wE ⟨adE, capE, NE, rfl, hNE, hvE, hbXE, hbE⟩; have HNE : Hid (NE = (bothE A.tri.E B.tri.E).length) := hNE; clear hNE; (try ((first | have obE : Bx wE W.heap.size 26 (repC none 0 0 none 0 0 none 0 0) := out_keep2 hbXE | have obE : Bx wE W.heap.size 26 (repC none 0 0 none 0 0 none 0 0) := out_keep hbXE | have obE := out_keep2 hbXE | have obE := out_keep hbXE); have obE0 := obE.cell 0; have obE1 := obE.cell 1; have obE2 := obE.cell 2; dsimp only [List.getElem?_cons_zero, List.getElem?_cons_succ] at obE0 obE1 obE2; have ofE0 := obE.frozen 0; have ofE1 := obE.frozen 1; have ofE2 := obE.frozen 2)); (try (have ocE := obC.below hbXE obC.lt; have ocE0 := ocE.cell 0; have ocE1 := ocE.cell 1; have ocE2 := ocE.cell 2; dsimp only [List.getElem?_cons_zero, List.getElem?_cons_succ] at ocE0 ocE1 ocE2; have ogE0 := ocE.frozen 0; have ogE1 := ocE.frozen 1; have ogE2 := ocE.frozen 2))))
            all_goals go_wp2_with fail
            all_goals go_meet
            · exact ⟨_, adK, capK, NK, adE, capE, NE, rfl, hbE.size, mo_new _ HNK.out HNE.out (hvK.keep hbXE) hvE hbE⟩
            · exact ⟨_, adK, capK, NK, adE, capE, NE, rfl, hbC.size, mo_set _ HNK.out HNE.out ((hvK.keep ((Below.refl _ _).alloc (Nat.le_refl _) _)).keep hbXE) hvE hbE obE hbC.size⟩
            · exact ⟨_, adK, capK, NK, adE, capE, NE, rfl, Nat.le_refl _, mo_set _ HNK.out HNE.out (hvK.keep hbXE) hvE hbE ocE (Nat.le_refl _)⟩
          case rest =>
            obtain ⟨g, adK, capK, NK, adE, capE, NE, rfl, hgW, hMO⟩ := hcut
            have HMO : Hid (MO W wc g W.heap.size A B adK NK capK none 0 0 adE NE capE []) := hMO
            have HGW : Hid (W.heap.size ≤ g) := hgW
            obtain ⟨⟨x0, x1, x2⟩, ⟨y0, y1, y2⟩, -⟩ := HX.out wc hMO.old
            clear hMO KC KE HEA HEB HS
            obtain ⟨hAscA, hPosA⟩ := tri_good HCA.out
            obtain ⟨hAscB, hPosB⟩ := tri_good HCB.out
            obtain ⟨M, hM⟩ : ∃ M, M = mergeC A.tri.C B.tri.C := ⟨_, rfl⟩
            have HMM : Hid (mergeC A.tri.C B.tri.C = M) := hM.symm
            have HPM : Hid (∀ c ∈ M, 0 < c.id) := by
              intro c hc
              rw [hM] at hc
              have := (merge_ids hAscA hAscB c.id).1 ⟨c, hc, rfl⟩
              unfold idsOf at this
              rw [List.mem_append, List.mem_map, List.mem_map] at this
              rcases this with ⟨d, hd, e⟩ | ⟨d, hd, e⟩
              · have := hPosA d hd; omega
              · have := hPosB d hd; omega
            have HASC : Hid (Asc Cd.id M) := by rw [hM]; exact layK_asc Cd.id (fun o c h => keepC_id o c h) hAscA
            have HFIRST : Hid (lowR A B 0 = idAt M 0) := by
              show _ = _; rw [lowR_eq, hM]; exact low_first hAscA hAscB (by rw [← hM]; exact HPM.out)
            have HNEXT : Hid (∀ k (hk : k < M.length), lowR A B (idAt M k) = idAt M (k + 1) ∧ 0 < idAt M k ∧ takeC A.tri.C B.tri.C (idAt M k) = M[k]) := by
              intro k hk
              subst hM
              rw [lowR_eq]; exact low_next hAscA hAscB HPM.out k hk
            have HOV : Hid (∀ k (hk : k < M.length), over keepC ((findR A (idAt M k)).map A.d) ((findR B (idAt M k)).map B.d) = some M[k]) := by
              intro k hk
              have e : idAt M k = M[k].id := by unfold idAt; rw [List.getElem?_eq_getElem hk]
              have h2 : look Cd.id (mergeC A.tri.C B.tri.C) (idAt M k) = over keepC ((findR A (idAt M k)).map A.d) ((findR B (idAt M k)).map B.d) := by
                unfold mergeC; rw [look_lay Cd.id (fun o c h => keepC_id o c h) hAscA hAscB, look_find, look_find]
              rw [HMM.out] at h2
              rw [← h2, e]
              exact look_some Cd.id HASC.out (List.getElem_mem hk)
            have HLEN : Hid (M.length ≤ A.n2 + B.n2) := by
              have := layK_len Cd.id keepC B.tri.C A.tri.C
              rw [(tri_len A).2.1, (tri_len B).2.1] at this
              rw [hM]; exact this
            clear hAscA hPosA hAscB hPosB hM
            go_wp2_with fail
            refine (behind_any A B a1 a2 a3 b1 b2 b3 k1 k2 k3 l1 l2 l3 0 _ (HX.out _ HMO.out.old).2.2.1 (HX.out _ HMO.out.old).2.2.2).mono ?_
            rintro e w5 ⟨rfl, hb5⟩
            rw [HFIRST.out]
            have HMO5 : Hid (MO W w5 g w5.heap.size A B adK NK capK none 0 0 adE NE capE []) := (HMO.out.step hb5).base w5.heap.size
            have HLK : Hid (∀ b, adK = some b → b.block < w5.heap.size) := vec_low HMO5.out.k
            have HLE : Hid (∀ b, adE = some b → b.block < w5.heap.size) := vec_low HMO5.out.e
            have HLG : Hid (g < w5.heap.size) := HMO5.out.o.lt
            clear hb5 HMO x0 x1 x2 y0 y1 y2
            go_wp2_with fail
            go_loopw [12, 13, 14, 99, 112] (fun u _ _ _ _ wr => ∃ (k : Nat) (adC : Option Addr) (NC capC : Nat), k ≤ M.length ∧ u = .int .i64 (idAt M k) ∧ MO W wr g w5.heap.size A B adK NK capK adC NC capC adE NE capE (M.take k) ∧ w5.heap.size ≤ wr.heap.size) (fun u _ _ _ _ _ => M.length - posU M u)
            case atStart => exact ⟨0, none, 0, 0, Nat.zero_le _, rfl, HMO5.out, Nat.le_refl _⟩
            case round =>
              obtain ⟨k, adC, NC, capC, hk, rfl, hMO, hsz⟩ := hrel
              have HMO : Hid (MO W wr g w5.heap.size A B adK NK capK adC NC capC adE NE capE (M.take k)) := hMO
              obtain ⟨⟨x0, x1, x2⟩, ⟨y0, y1, y2⟩, -⟩ := HX.out wr hMO.old
              clear hMO
              by_cases hlt : k < M.length
              · obtain ⟨n1, hid0, -⟩ := HNEXT.out k hlt
                have HNX : Hid (lowR A B (idAt M k) = idAt M (k + 1)) := n1
                have HO := HOV.out k hlt
                have HPK : Hid (posU M (.int .i64 (idAt M k)) = k ∧ posU M (.int .i64 (idAt M (k + 1))) = k + 1) := ⟨posU_at HASC.out HPM.out k hk, posU_at HASC.out HPM.out (k + 1) hlt⟩
                have HTK : Hid (M.take (k + 1) = M.take k ++ [M[k]]) := List.take_succ_eq_append_getElem hlt
                clear n1
                generalize idAt M k = id at *
                go_wp2_with fail
                refine (find_any A a1 a2 a3 k1 k2 k3 id _ (HX.out _ HMO.out.old).2.2.1).mono ?_
                rintro e w6 ⟨rfl, hb6⟩
                have HMO6 : Hid (MO W w6 g w5.heap.size A B adK NK capK adC NC capC adE NE capE (M.take k)) := HMO.out.step hb6
                have hz6 := hb6.size
                clear hb6 x0 x1 x2 y0 y1 y2
                obtain ⟨⟨x0, x1, x2⟩, ⟨y0, y1, y2⟩, -⟩ := HX.out w6 HMO6.out.old
                go_wp2_with fail
                refine (find_any B b1 b2 b3 l1 l2 l3 id _ (HX.out _ HMO6.out.old).2.2.2).mono ?_
                rintro e w7 ⟨rfl, hb7⟩
                have HMO7 : Hid (MO W w7 g w5.heap.size A B adK NK capK adC NC capC adE NE capE (M.take k)) := HMO6.out.step hb7
                have hszW : w5.heap.size ≤ w7.heap.size := by have := hb7.size; omega
                clear hb7 x0 x1 x2 y0 y1 y2 HMO6
                have hNC : NC ≤ 80 := by
                  have h1 := HMO7.out.nc
                  have h2 := HLEN.out
                  rw [h1, List.length_take]; omega
                clear HMO hsz
                generalize hwW : w7 = wW at *
                clear hwW
                have HMOW : Hid (MO W wW g w5.heap.size A B adK NK capK adC NC capC adE NE capE (M.take k)) := HMO7.out
                clear HMO7
                have HWW5 : Hid (W.heap.size ≤ w5.heap.size) := HMO5.out.old.size
                cases hfA : findR A id with
                | none =>
                  have hiA : findI A id = -1 := by unfold findI; rw [hfA]
                  rw [hfA] at HO
                  cases hfB : findR B id with
                  | none => rw [hfB] at HO; cases HO
                  | some j =>
                    have hiB : findI B id = (j : Int) := by unfold findI; rw [hfB]
                    have hixB : j < B.n2 := find_lt hfB
                    rw [hfB] at HO
                    have hx9 : B.d j = M[k] := by simpa [over] using HO
                    have HX9 : Hid (B.d j = M[k]) := hx9
                    clear hx9
                    rw [hiA, hiB]
                    clear HO hfA hfB hiA hiB
                    have s1 := (HX.out _ HMOW.out.old).2.1.2.1
                    have s0 := (HX.out _ HMOW.out.old).1.2.1
                    obtain ⟨bs, os, hbls, hixs, c0, c1, c2, c3, c4⟩ := (HX.out _ HMOW.out.old).2.2.2.l2.card l2 hixB
                    have o1 := HMOW.out.o.cell 1
                    dsimp only [List.getElem?_cons_zero, List.getElem?_cons_succ] at o1
                    have of1 := HMOW.out.o.frozen 1
                    have o1a : ∀ o, (wW.alloc o).cell? ⟨g, 1, none⟩ = some (.slice adC NC capC) := fun o => (HMOW.out.step ((Below.refl _ _).alloc (Nat.le_refl _) o)).o.cell 1
                    have HVC : Hid (∀ wX, Below wW.heap.size wW wX → Vec wX w5.heap.size 69 5 adC NC capC (ccells (M.take k))) := fun wX h => HMOW.out.c.keep h
                    have HSZ : Hid (w5.heap.size ≤ wW.heap.size) := hszW
                    generalize B.d j = x at *
                    go_wp2_with fail
                    apply merge
                    · intro KEY
                      go_region_law (refine step_push (by rfl) _ _ 23 (by rfl) w5.heap.size 69 5 48 (.agg #[.int .i64 0, .int .i64 0, .int .i64 0, .bool false, .string ⟨#[]⟩]) Try.underlying23 (by kernel_rfl) rfl (by decide) adC NC capC _ (by rfl) (HVC.out _ ?_) _ _ x.cells (by rfl) rfl ?_ ?_ ?_ ?_ ?_ ?_; (repeat (first | exact Below.refl _ _ | refine Below.drew ?_ | refine Below.alloc ?_ (by simp) _)); (exact new_atA (heap_newA _ _)); (exact ones2 x); (omega); (omega); (simp; omega); intro ad' cap' w8 hv8 hb8' hs8; have hb8 : Below w5.heap.size wW w8 := Below.trans (by repeat (first | exact Below.refl _ _ | refine Below.drew ?_ | refine Below.alloc ?_ (by first | omega | (simp; omega)) _)) hb8'; have ho8 := HMOW.out.o.below hb8 HLG.out; have hr8 := ho8.cell 1; dsimp only [List.getElem?_cons_zero, List.getElem?_cons_succ] at hr8; have hf8 := ho8.frozen 1)
                      all_goals
                        have hMOn := HMOW.out.push hb8 HWW5.out HLK.out HLE.out HLG.out HGW.out hv8
                        have hzn : w5.heap.size ≤ (w8.setCell ⟨g, 1, none⟩ (.slice ad' (NC + 1) cap')).heap.size := by have := hb8.size; have := HSZ.out; simp; omega
                        generalize (w8.setCell ⟨g, 1, none⟩ (.slice ad' (NC + 1) cap')) = W1 at hMOn hzn ⊢
                        clear hv8 hb8 hb8' hs8 ho8 hr8 hf8
                        clear w8
                        revert ad' cap' W1
                        exact KEY.out
                    intro ad' cap' W1 hMOn hzn
                    clear s0 s1 hixs c0 c1 c2 c3 c4 o1 of1 o1a HVC HSZ
                    have hxk : M.take k ++ [x] = M.take (k + 1) := by rw [HTK.out, HX9.out]
                    rw [hxk] at hMOn
                    have HMOn : Hid (MO W W1 g w5.heap.size A B adK NK capK ad' (NC + 1) cap' adE NE capE (M.take (k + 1))) := hMOn
                    have HZN : Hid (w5.heap.size ≤ W1.heap.size) := hzn
                    clear hMOn hzn hxk
                    obtain ⟨⟨x0, x1, x2⟩, ⟨y0, y1, y2⟩, -⟩ := HX.out _ HMOn.out.old
                    go_wp2_with fail
                    refine (behind_any A B a1 a2 a3 b1 b2 b3 k1 k2 k3 l1 l2 l3 id _ (HX.out _ HMOn.out.old).2.2.1 (HX.out _ HMOn.out.old).2.2.2).mono ?_
                    rintro e w9 ⟨rfl, hb9⟩
                    rw [HNX.out]
                    clear x0 x1 x2 y0 y1 y2
                    go_wp2_with fail
                    go_roundw
                    case rel => exact ⟨k + 1, ad', NC + 1, cap', hlt, rfl, HMOn.out.step hb9, Nat.le_trans HZN.out hb9.size⟩
                    case measure => rw [HPK.out.1, HPK.out.2]; omega
                | some i =>
                  have hiA : findI A id = (i : Int) := by unfold findI; rw [hfA]
                  have hixA : i < A.n2 := find_lt hfA
                  rw [hfA] at HO
                  cases hfB : findR B id with
                  | none =>
                    have hiB : findI B id = -1 := by unfold findI; rw [hfB]
                    rw [hfB] at HO
                    have hx9 : A.d i = M[k] := by simpa [over] using HO
                    have HX9 : Hid (A.d i = M[k]) := hx9
                    clear hx9
                    rw [hiA, hiB]
                    clear HO hfA hfB hiA hiB
                    have hd0 : decide ((i : Int) < 0) = false := decide_eq_false (by omega)
                    have HQ0 : Hid (∀ q, MO W (wW.drewN q) g w5.heap.size A B adK NK capK adC NC capC adE NE capE (M.take k) ∧ w5.heap.size ≤ (wW.drewN q).heap.size) := fun q => ⟨HMOW.out.step (below_drewN (Below.refl _ _) q), hszW⟩
                    go_wp2_with fail
                    go_quiet (fail)
                    generalize hwq : wW.drewN _ = wQ
                    have hq : MO W wQ g w5.heap.size A B adK NK capK adC NC capC adE NE capE (M.take k) ∧ w5.heap.size ≤ wQ.heap.size := by rw [← hwq]; exact HQ0.out _
                    clear hwq HQ0 HMOW hszW
                    generalize hwW2 : wQ = wW at *
                    clear hwW2
                    have HMOW : Hid (MO W wW g w5.heap.size A B adK NK capK adC NC capC adE NE capE (M.take k)) := hq.1
                    have hszW := hq.2
                    clear hq
                    have s1 := (HX.out _ HMOW.out.old).2.1.2.1
                    have s0 := (HX.out _ HMOW.out.old).1.2.1
                    obtain ⟨bs, os, hbls, hixs, c0, c1, c2, c3, c4⟩ := (HX.out _ HMOW.out.old).2.2.1.l2.card k2 hixA
                    have o1 := HMOW.out.o.cell 1
                    dsimp only [List.getElem?_cons_zero, List.getElem?_cons_succ] at o1
                    have of1 := HMOW.out.o.frozen 1
                    have o1a : ∀ o, (wW.alloc o).cell? ⟨g, 1, none⟩ = some (.slice adC NC capC) := fun o => (HMOW.out.step ((Below.refl _ _).alloc (Nat.le_refl _) o)).o.cell 1
                    have HVC : Hid (∀ wX, Below wW.heap.size wW wX → Vec wX w5.heap.size 69 5 adC NC capC (ccells (M.take k))) := fun wX h => HMOW.out.c.keep h
                    have HSZ : Hid (w5.heap.size ≤ wW.heap.size) := hszW
                    generalize A.d i = x at *
                    go_wp2_with fail
                    apply merge
                    · intro KEY
                      go_region_law (refine step_push (by rfl) _ _ 23 (by rfl) w5.heap.size 69 5 48 (.agg #[.int .i64 0, .int .i64 0, .int .i64 0, .bool false, .string ⟨#[]⟩]) Try.underlying23 (by kernel_rfl) rfl (by decide) adC NC capC _ (by rfl) (HVC.out _ ?_) _ _ x.cells (by rfl) rfl ?_ ?_ ?_ ?_ ?_ ?_; (repeat (first | exact Below.refl _ _ | refine Below.drew ?_ | refine Below.alloc ?_ (by simp) _)); (exact new_atA (heap_newA _ _)); (exact ones2 x); (omega); (omega); (simp; omega); intro ad' cap' w8 hv8 hb8' hs8; have hb8 : Below w5.heap.size wW w8 := Below.trans (by repeat (first | exact Below.refl _ _ | refine Below.drew ?_ | refine Below.alloc ?_ (by first | omega | (simp; omega)) _)) hb8'; have ho8 := HMOW.out.o.below hb8 HLG.out; have hr8 := ho8.cell 1; dsimp only [List.getElem?_cons_zero, List.getElem?_cons_succ] at hr8; have hf8 := ho8.frozen 1)
                      all_goals
                        have hMOn := HMOW.out.push hb8 HWW5.out HLK.out HLE.out HLG.out HGW.out hv8
                        have hzn : w5.heap.size ≤ (w8.setCell ⟨g, 1, none⟩ (.slice ad' (NC + 1) cap')).heap.size := by have := hb8.size; have := HSZ.out; simp; omega
                        generalize (w8.setCell ⟨g, 1, none⟩ (.slice ad' (NC + 1) cap')) = W1 at hMOn hzn ⊢
                        clear hv8 hb8 hb8' hs8 ho8 hr8 hf8
                        clear w8
                        revert ad' cap' W1
                        exact KEY.out
                    intro ad' cap' W1 hMOn hzn
                    clear s0 s1 hixs c0 c1 c2 c3 c4 o1 of1 o1a HVC HSZ
                    have hxk : M.take k ++ [x] = M.take (k + 1) := by rw [HTK.out, HX9.out]
                    rw [hxk] at hMOn
                    have HMOn : Hid (MO W W1 g w5.heap.size A B adK NK capK ad' (NC + 1) cap' adE NE capE (M.take (k + 1))) := hMOn
                    have HZN : Hid (w5.heap.size ≤ W1.heap.size) := hzn
                    clear hMOn hzn hxk
                    obtain ⟨⟨x0, x1, x2⟩, ⟨y0, y1, y2⟩, -⟩ := HX.out _ HMOn.out.old
                    go_wp2_with fail
                    refine (behind_any A B a1 a2 a3 b1 b2 b3 k1 k2 k3 l1 l2 l3 id _ (HX.out _ HMOn.out.old).2.2.1 (HX.out _ HMOn.out.old).2.2.2).mono ?_
                    rintro e w9 ⟨rfl, hb9⟩
                    rw [HNX.out]
                    clear x0 x1 x2 y0 y1 y2
                    go_wp2_with fail
                    go_roundw
                    case rel => exact ⟨k + 1, ad', NC + 1, cap', hlt, rfl, HMOn.out.step hb9, Nat.le_trans HZN.out hb9.size⟩
                    case measure => rw [HPK.out.1, HPK.out.2]; omega
                  | some j =>
                    have hiB : findI B id = (j : Int) := by unfold findI; rw [hfB]
                    have hixB : j < B.n2 := find_lt hfB
                    rw [hfB] at HO
                    have hx9 : keepC (A.d i) (B.d j) = M[k] := by simpa [over] using HO
                    have HX8 : Hid (keepC (A.d i) (B.d j) = M[k]) := hx9
                    clear hx9
                    rw [hiA, hiB]
                    clear HO hfA hfB hiA hiB
                    have hd0 : decide ((i : Int) < 0) = false := decide_eq_false (by omega)
                    have hd1 : decide ((j : Int) < 0) = false := decide_eq_false (by omega)
                    have HXW : Hid (∀ X, Below wW.heap.size wW X → MO W X g w5.heap.size A B adK NK capK adC NC capC adE NE capE (M.take k) ∧ w5.heap.size ≤ X.heap.size) := fun X h => ⟨HMOW.out.step h, Nat.le_trans hszW h.size⟩
                    obtain ⟨⟨x0, x1, x2⟩, ⟨y0, y1, y2⟩, -⟩ := HX.out _ HMOW.out.old
                    obtain ⟨bA, oA, hblA, hixA2, c0, c1, c2, c3, c4⟩ := (HX.out _ HMOW.out.old).2.2.1.l2.card k2 hixA
                    obtain ⟨bB, oB, hblB, hixB2, d0, d1, d2, d3, d4⟩ := (HX.out _ HMOW.out.old).2.2.2.l2.card l2 hixB
                    have KL : Hid (∀ X, Calls Try.prog 109 #[.agg (B.d j).cells.toArray, .agg (A.d i).cells.toArray] X fun e w' => e = .returned (.bool (laterB (B.d j) (A.d i))) ∧ Below X.heap.size X w') := fun X => rlater_any _ _ X
                    have HS : Hid (∀ X, Below wW.heap.size wW X → (X.cell? ⟨w.heap.size, 1, none⟩ = some (.slice a2 A.n2 k2) ∧ X.cell? ⟨w.heap.size + 1, 1, none⟩ = some (.slice b2 B.n2 l2)) ∧ (X.cell? ⟨bA, oA, none⟩ = some (.int .i64 (A.d i).id) ∧ X.cell? ⟨bA, oA + 1, none⟩ = some (.int .i64 (A.d i).site) ∧ X.cell? ⟨bA, oA + 2, none⟩ = some (.int .i64 (A.d i).count) ∧ X.cell? ⟨bA, oA + 3, none⟩ = some (.bool (A.d i).gone) ∧ X.cell? ⟨bA, oA + 4, none⟩ = some (.string (A.d i).text)) ∧ (X.cell? ⟨bB, oB, none⟩ = some (.int .i64 (B.d j).id) ∧ X.cell? ⟨bB, oB + 1, none⟩ = some (.int .i64 (B.d j).site) ∧ X.cell? ⟨bB, oB + 2, none⟩ = some (.int .i64 (B.d j).count) ∧ X.cell? ⟨bB, oB + 3, none⟩ = some (.bool (B.d j).gone) ∧ X.cell? ⟨bB, oB + 4, none⟩ = some (.string (B.d j).text))) := fun X h =>
                      ⟨⟨(HX.out _ (HMOW.out.step h).old).1.2.1, (HX.out _ (HMOW.out.step h).old).2.1.2.1⟩, ⟨(h.cell (p := ⟨bA, oA, none⟩) hblA).trans c0, (h.cell (p := ⟨bA, oA + 1, none⟩) hblA).trans c1, (h.cell (p := ⟨bA, oA + 2, none⟩) hblA).trans c2, (h.cell (p := ⟨bA, oA + 3, none⟩) hblA).trans c3, (h.cell (p := ⟨bA, oA + 4, none⟩) hblA).trans c4⟩, (h.cell (p := ⟨bB, oB, none⟩) hblB).trans d0, (h.cell (p := ⟨bB, oB + 1, none⟩) hblB).trans d1, (h.cell (p := ⟨bB, oB + 2, none⟩) hblB).trans d2, (h.cell (p := ⟨bB, oB + 3, none⟩) hblB).trans d3, (h.cell (p := ⟨bB, oB + 4, none⟩) hblB).trans d4⟩
                    go_wp2_with fail
                    go_region_held3 (fun X => (X.cell? ⟨w.heap.size, 1, none⟩ = some (.slice a2 A.n2 k2) ∧ X.cell? ⟨w.heap.size + 1, 1, none⟩ = some (.slice b2 B.n2 l2)) ∧ (X.cell? ⟨bA, oA, none⟩ = some (.int .i64 (A.d i).id) ∧ X.cell? ⟨bA, oA + 1, none⟩ = some (.int .i64 (A.d i).site) ∧ X.cell? ⟨bA, oA + 2, none⟩ = some (.int .i64 (A.d i).count) ∧ X.cell? ⟨bA, oA + 3, none⟩ = some (.bool (A.d i).gone) ∧ X.cell? ⟨bA, oA + 4, none⟩ = some (.string (A.d i).text)) ∧ (X.cell? ⟨bB, oB, none⟩ = some (.int .i64 (B.d j).id) ∧ X.cell? ⟨bB, oB + 1, none⟩ = some (.int .i64 (B.d j).site) ∧ X.cell? ⟨bB, oB + 2, none⟩ = some (.int .i64 (B.d j).count) ∧ X.cell? ⟨bB, oB + 3, none⟩ = some (.bool (B.d j).gone) ∧ X.cell? ⟨bB, oB + 4, none⟩ = some (.string (B.d j).text)))
                      (first | (refine HS.out _ ?_; (repeat (first | exact Below.refl _ _ | exact hbL | refine Below.drew ?_))))
                      (first | (go_at_call 109; refine (KL.out _).mono ?_; rintro e wL ⟨rfl, hb0⟩; have hbL : Below wW.heap.size wW wL := Below.trans (by (repeat (first | exact Below.refl _ _ | refine Below.drew ?_))) hb0; clear hb0))
                    obtain ⟨hm8, hz8⟩ := HXW.out _ hbL
                    clear hbL HS KL HXW HMOW hszW x0 x1 x2 y0 y1 y2 hixA2 hixB2 c0 c1 c2 c3 c4 d0 d1 d2 d3 d4 hd1
                    have hszW := hz8
                    have HMOW : Hid (MO W wL g w5.heap.size A B adK NK capK adC NC capC adE NE capE (M.take k)) := hm8
                    clear hm8 hz8 hblA hblB
                    generalize hwL : wL = wW at *
                    clear hwL
                    cases hlat : laterB (B.d j) (A.d i) with
                    | true =>
                      have HX9 : Hid (B.d j = M[k]) := by have := HX8.out; unfold keepC at this; rw [if_pos hlat] at this; exact this
                      clear HX8 hlat
                      have s1 := (HX.out _ HMOW.out.old).2.1.2.1
                      have s0 := (HX.out _ HMOW.out.old).1.2.1
                      obtain ⟨bs, os, hbls, hixs, c0, c1, c2, c3, c4⟩ := (HX.out _ HMOW.out.old).2.2.2.l2.card l2 hixB
                      have o1 := HMOW.out.o.cell 1
                      dsimp only [List.getElem?_cons_zero, List.getElem?_cons_succ] at o1
                      have of1 := HMOW.out.o.frozen 1
                      have o1a : ∀ o, (wW.alloc o).cell? ⟨g, 1, none⟩ = some (.slice adC NC capC) := fun o => (HMOW.out.step ((Below.refl _ _).alloc (Nat.le_refl _) o)).o.cell 1
                      have HVC : Hid (∀ wX, Below wW.heap.size wW wX → Vec wX w5.heap.size 69 5 adC NC capC (ccells (M.take k))) := fun wX h => HMOW.out.c.keep h
                      have HSZ : Hid (w5.heap.size ≤ wW.heap.size) := hszW
                      generalize B.d j = x at *
                      go_wp2_with fail
                      apply merge
                      · intro KEY
                        go_region_law (refine step_push (by rfl) _ _ 23 (by rfl) w5.heap.size 69 5 48 (.agg #[.int .i64 0, .int .i64 0, .int .i64 0, .bool false, .string ⟨#[]⟩]) Try.underlying23 (by kernel_rfl) rfl (by decide) adC NC capC _ (by rfl) (HVC.out _ ?_) _ _ x.cells (by rfl) rfl ?_ ?_ ?_ ?_ ?_ ?_; (repeat (first | exact Below.refl _ _ | refine Below.drew ?_ | refine Below.alloc ?_ (by simp) _)); (exact new_atA (heap_newA _ _)); (exact ones2 x); (omega); (omega); (simp; omega); intro ad' cap' w8 hv8 hb8' hs8; have hb8 : Below w5.heap.size wW w8 := Below.trans (by repeat (first | exact Below.refl _ _ | refine Below.drew ?_ | refine Below.alloc ?_ (by first | omega | (simp; omega)) _)) hb8'; have ho8 := HMOW.out.o.below hb8 HLG.out; have hr8 := ho8.cell 1; dsimp only [List.getElem?_cons_zero, List.getElem?_cons_succ] at hr8; have hf8 := ho8.frozen 1)
                        all_goals
                          have hMOn := HMOW.out.push hb8 HWW5.out HLK.out HLE.out HLG.out HGW.out hv8
                          have hzn : w5.heap.size ≤ (w8.setCell ⟨g, 1, none⟩ (.slice ad' (NC + 1) cap')).heap.size := by have := hb8.size; have := HSZ.out; simp; omega
                          generalize (w8.setCell ⟨g, 1, none⟩ (.slice ad' (NC + 1) cap')) = W1 at hMOn hzn ⊢
                          clear hv8 hb8 hb8' hs8 ho8 hr8 hf8
                          clear w8
                          revert ad' cap' W1
                          exact KEY.out
                      intro ad' cap' W1 hMOn hzn
                      clear s0 s1 hixs c0 c1 c2 c3 c4 o1 of1 o1a HVC HSZ
                      have hxk : M.take k ++ [x] = M.take (k + 1) := by rw [HTK.out, HX9.out]
                      rw [hxk] at hMOn
                      have HMOn : Hid (MO W W1 g w5.heap.size A B adK NK capK ad' (NC + 1) cap' adE NE capE (M.take (k + 1))) := hMOn
                      have HZN : Hid (w5.heap.size ≤ W1.heap.size) := hzn
                      clear hMOn hzn hxk
                      obtain ⟨⟨x0, x1, x2⟩, ⟨y0, y1, y2⟩, -⟩ := HX.out _ HMOn.out.old
                      go_wp2_with fail
                      refine (behind_any A B a1 a2 a3 b1 b2 b3 k1 k2 k3 l1 l2 l3 id _ (HX.out _ HMOn.out.old).2.2.1 (HX.out _ HMOn.out.old).2.2.2).mono ?_
                      rintro e w9 ⟨rfl, hb9⟩
                      rw [HNX.out]
                      clear x0 x1 x2 y0 y1 y2
                      go_wp2_with fail
                      go_roundw
                      case rel => exact ⟨k + 1, ad', NC + 1, cap', hlt, rfl, HMOn.out.step hb9, Nat.le_trans HZN.out hb9.size⟩
                      case measure => rw [HPK.out.1, HPK.out.2]; omega
                    | false =>
                      have HX9 : Hid (A.d i = M[k]) := by have := HX8.out; unfold keepC at this; rw [if_neg (by rw [hlat]; decide)] at this; exact this
                      clear HX8 hlat
                      have s1 := (HX.out _ HMOW.out.old).2.1.2.1
                      have s0 := (HX.out _ HMOW.out.old).1.2.1
                      obtain ⟨bs, os, hbls, hixs, c0, c1, c2, c3, c4⟩ := (HX.out _ HMOW.out.old).2.2.1.l2.card k2 hixA
                      have o1 := HMOW.out.o.cell 1
                      dsimp only [List.getElem?_cons_zero, List.getElem?_cons_succ] at o1
                      have of1 := HMOW.out.o.frozen 1
                      have o1a : ∀ o, (wW.alloc o).cell? ⟨g, 1, none⟩ = some (.slice adC NC capC) := fun o => (HMOW.out.step ((Below.refl _ _).alloc (Nat.le_refl _) o)).o.cell 1
                      have HVC : Hid (∀ wX, Below wW.heap.size wW wX → Vec wX w5.heap.size 69 5 adC NC capC (ccells (M.take k))) := fun wX h => HMOW.out.c.keep h
                      have HSZ : Hid (w5.heap.size ≤ wW.heap.size) := hszW
                      generalize A.d i = x at *
                      go_wp2_with fail
                      apply merge
                      · intro KEY
                        go_region_law (refine step_push (by rfl) _ _ 23 (by rfl) w5.heap.size 69 5 48 (.agg #[.int .i64 0, .int .i64 0, .int .i64 0, .bool false, .string ⟨#[]⟩]) Try.underlying23 (by kernel_rfl) rfl (by decide) adC NC capC _ (by rfl) (HVC.out _ ?_) _ _ x.cells (by rfl) rfl ?_ ?_ ?_ ?_ ?_ ?_; (repeat (first | exact Below.refl _ _ | refine Below.drew ?_ | refine Below.alloc ?_ (by simp) _)); (exact new_atA (heap_newA _ _)); (exact ones2 x); (omega); (omega); (simp; omega); intro ad' cap' w8 hv8 hb8' hs8; have hb8 : Below w5.heap.size wW w8 := Below.trans (by repeat (first | exact Below.refl _ _ | refine Below.drew ?_ | refine Below.alloc ?_ (by first | omega | (simp; omega)) _)) hb8'; have ho8 := HMOW.out.o.below hb8 HLG.out; have hr8 := ho8.cell 1; dsimp only [List.getElem?_cons_zero, List.getElem?_cons_succ] at hr8; have hf8 := ho8.frozen 1)
                        all_goals
                          have hMOn := HMOW.out.push hb8 HWW5.out HLK.out HLE.out HLG.out HGW.out hv8
                          have hzn : w5.heap.size ≤ (w8.setCell ⟨g, 1, none⟩ (.slice ad' (NC + 1) cap')).heap.size := by have := hb8.size; have := HSZ.out; simp; omega
                          generalize (w8.setCell ⟨g, 1, none⟩ (.slice ad' (NC + 1) cap')) = W1 at hMOn hzn ⊢
                          clear hv8 hb8 hb8' hs8 ho8 hr8 hf8
                          clear w8
                          revert ad' cap' W1
                          exact KEY.out
                      intro ad' cap' W1 hMOn hzn
                      clear s0 s1 hixs c0 c1 c2 c3 c4 o1 of1 o1a HVC HSZ
                      have hxk : M.take k ++ [x] = M.take (k + 1) := by rw [HTK.out, HX9.out]
                      rw [hxk] at hMOn
                      have HMOn : Hid (MO W W1 g w5.heap.size A B adK NK capK ad' (NC + 1) cap' adE NE capE (M.take (k + 1))) := hMOn
                      have HZN : Hid (w5.heap.size ≤ W1.heap.size) := hzn
                      clear hMOn hzn hxk
                      obtain ⟨⟨x0, x1, x2⟩, ⟨y0, y1, y2⟩, -⟩ := HX.out _ HMOn.out.old
                      go_wp2_with fail
                      refine (behind_any A B a1 a2 a3 b1 b2 b3 k1 k2 k3 l1 l2 l3 id _ (HX.out _ HMOn.out.old).2.2.1 (HX.out _ HMOn.out.old).2.2.2).mono ?_
                      rintro e w9 ⟨rfl, hb9⟩
                      rw [HNX.out]
                      clear x0 x1 x2 y0 y1 y2
                      go_wp2_with fail
                      go_roundw
                      case rel => exact ⟨k + 1, ad', NC + 1, cap', hlt, rfl, HMOn.out.step hb9, Nat.le_trans HZN.out hb9.size⟩
                      case measure => rw [HPK.out.1, HPK.out.2]; omega
              · obtain rfl : k = M.length := by omega
                have hid0 : idAt M M.length = 0 := by unfold idAt; rw [List.getElem?_eq_none (Nat.le_refl _)]
                rw [hid0]
                have HRK : Hid (refClk A.tri.K B.tri.K 200 = mergeK A.tri.K B.tri.K) := refClk_eq (tri_clocks HCA.out).1 (tri_clocks HCB.out).1 (tri_clocks HCA.out).2 (tri_clocks HCB.out).2
                have HNK : Hid (NK = (mergeK A.tri.K B.tri.K).length) := by show _ = _; rw [HMO.out.nk, HRK.out]
                have HNC : Hid (NC = (mergeC A.tri.C B.tri.C).length) := by show _ = _; rw [HMO.out.nc, HMM.out, List.take_length]
                have HNE : Hid (NE = (bothE A.tri.E B.tri.E).length) := HMO.out.ne
                have HEM : Hid ((8 < NK ∨ 40 < NC ∨ 16 < NE) → mergeRd A.tri B.tri = ansErr 1 0) := fun h => by
                  unfold mergeRd; rw [if_pos (by rw [HTA.out]; exact HCA.out), if_pos (by rw [HTB.out]; exact HCB.out), if_neg (by rw [HCL.out]; decide), if_pos (by rw [← HNK.out, ← HNC.out, ← HNE.out]; exact h)]
                have HEO : Hid (¬ (8 < NK ∨ 40 < NC ∨ 16 < NE) → mergeRd A.tri B.tri = ⟨0, 0, 0, 0, mergeK A.tri.K B.tri.K, mergeC A.tri.C B.tri.C, bothE A.tri.E B.tri.E⟩) := fun h => by
                  unfold mergeRd; rw [if_pos (by rw [HTA.out]; exact HCA.out), if_pos (by rw [HTB.out]; exact HCB.out), if_neg (by rw [HCL.out]; decide), if_neg (by rw [← HNK.out, ← HNC.out, ← HNE.out]; exact h)]
                have hM9 : M3 w (repC a1 A.n1 k1 a2 A.n2 k2 a3 A.n3 k3) (repC b1 B.n1 l1 b2 B.n2 l2 b3 B.n3 l3) (repC none 0 0 none 0 0 none 0 0) wr := HM.out.step HMO.out.old
                have hr := hM9.r
                have HM9 : Hid (M3 w (repC a1 A.n1 k1 a2 A.n2 k2 a3 A.n3 k3) (repC b1 B.n1 l1 b2 B.n2 l2 b3 B.n3 l3) (repC none 0 0 none 0 0 none 0 0) wr) := hM9
                have o0 := HMO.out.o.cell 0; have o1 := HMO.out.o.cell 1; have o2 := HMO.out.o.cell 2
                dsimp only [List.getElem?_cons_zero, List.getElem?_cons_succ] at o0 o1 o2
                have hWsz := HM.out.sz
                have HWW5 : Hid (W.heap.size ≤ w5.heap.size) := HMO5.out.old.size
                clear hM9 hid0 hsz hlt x0 x1 x2 y0 y1 y2
                by_cases p1 : 8 < NK
                · have E : Hid (mergeRd A.tri B.tri = ansErr 1 0) := HEM.out (Or.inl p1)
                  have d1 : decide ((8 : Int) < (NK : Int)) = true := decide_eq_true (by omega)
                  clear HEM HEO
                  go_wp2_with (refine wpList_bstore (by rfl) _ _ _ (by rfl) (w.heap.size + 2) 26 (by rfl) _ _ (by rfl) hr 3 (by rfl) (by kernel_rfl) (by rfl) (by intro x hx; simp at hx; subst hx; rfl) ?_; intro w9 hr9 hu9)
                  exact bodyPost_ret (v := .tuple #[.agg #[.slice none 0 0, .slice none 0 0, .slice none 0 0], .int .i64 1]) (results_box2 (by rfl) _ _ (w.heap.size + 2) 26 _ _ _ (by rfl) hr9 (by rfl) Try.underlying26 (by rfl) 3 (by rfl) (by kernel_rfl)) rfl ⟨⟨none, 0, 0, none, 0, 0, none, 0, 0, by rw [E.out]; rfl, by rw [E.out]; exact Lists.nil _ _⟩, (HM9.out.put hu9 hr9).old⟩
                · have d1 : decide ((8 : Int) < (NK : Int)) = false := decide_eq_false (by omega)
                  by_cases p2 : 40 < NC
                  · have E : Hid (mergeRd A.tri B.tri = ansErr 1 0) := HEM.out (Or.inr (Or.inl p2))
                    have d2 : decide ((40 : Int) < (NC : Int)) = true := decide_eq_true (by omega)
                    clear HEM HEO
                    go_wp2_with (refine wpList_bstore (by rfl) _ _ _ (by rfl) (w.heap.size + 2) 26 (by rfl) _ _ (by rfl) hr 3 (by rfl) (by kernel_rfl) (by rfl) (by intro x hx; simp at hx; subst hx; rfl) ?_; intro w9 hr9 hu9)
                    exact bodyPost_ret (v := .tuple #[.agg #[.slice none 0 0, .slice none 0 0, .slice none 0 0], .int .i64 1]) (results_box2 (by rfl) _ _ (w.heap.size + 2) 26 _ _ _ (by rfl) hr9 (by rfl) Try.underlying26 (by rfl) 3 (by rfl) (by kernel_rfl)) rfl ⟨⟨none, 0, 0, none, 0, 0, none, 0, 0, by rw [E.out]; rfl, by rw [E.out]; exact Lists.nil _ _⟩, (HM9.out.put hu9 hr9).old⟩
                  · have d2 : decide ((40 : Int) < (NC : Int)) = false := decide_eq_false (by omega)
                    by_cases p3 : 16 < NE
                    · have E : Hid (mergeRd A.tri B.tri = ansErr 1 0) := HEM.out (Or.inr (Or.inr p3))
                      have d3 : decide ((16 : Int) < (NE : Int)) = true := decide_eq_true (by omega)
                      clear HEM HEO
                      go_wp2_with (refine wpList_bstore (by rfl) _ _ _ (by rfl) (w.heap.size + 2) 26 (by rfl) _ _ (by rfl) hr 3 (by rfl) (by kernel_rfl) (by rfl) (by intro x hx; simp at hx; subst hx; rfl) ?_; intro w9 hr9 hu9)
                      exact bodyPost_ret (v := .tuple #[.agg #[.slice none 0 0, .slice none 0 0, .slice none 0 0], .int .i64 1]) (results_box2 (by rfl) _ _ (w.heap.size + 2) 26 _ _ _ (by rfl) hr9 (by rfl) Try.underlying26 (by rfl) 3 (by rfl) (by kernel_rfl)) rfl ⟨⟨none, 0, 0, none, 0, 0, none, 0, 0, by rw [E.out]; rfl, by rw [E.out]; exact Lists.nil _ _⟩, (HM9.out.put hu9 hr9).old⟩
                    · have E : Hid (mergeRd A.tri B.tri = ⟨0, 0, 0, 0, mergeK A.tri.K B.tri.K, mergeC A.tri.C B.tri.C, bothE A.tri.E B.tri.E⟩) := HEO.out (by omega)
                      have d3 : decide ((16 : Int) < (NE : Int)) = false := decide_eq_false (by omega)
                      clear HEM HEO
                      go_wp2_with (refine wpList_bstore (by rfl) _ _ _ (by rfl) (w.heap.size + 2) 26 (by rfl) _ _ (by rfl) hr 3 (by rfl) (by kernel_rfl) (by rfl) (by intro x hx; simp at hx; rcases hx with rfl | rfl | rfl <;> rfl) ?_; intro w9 hr9 hu9)
                      have hK := HMO.out.k
                      have hC := HMO.out.c
                      rw [HRK.out] at hK
                      rw [List.take_length, ← HMM.out] at hC
                      exact bodyPost_ret (v := .tuple #[.agg #[.slice adK NK capK, .slice adC NC capC, .slice adE NE capE], .int .i64 0]) (results_box2 (by rfl) _ _ (w.heap.size + 2) 26 _ _ _ (by rfl) hr9 (by rfl) Try.underlying26 (by rfl) 3 (by rfl) (by kernel_rfl)) rfl ⟨⟨adK, NK, capK, adC, NC, capC, adE, NE, capE, by rw [E.out], by rw [E.out]; exact ⟨(hK.upd hu9 (by omega)).mono (by omega), (hC.upd hu9 (by have := HWW5.out; omega)).mono (by have := HWW5.out; omega), (HMO.out.e.upd hu9 (by omega)).mono (by omega), HNK.out, HNC.out, HNE.out⟩⟩, (HM9.out.put hu9 hr9).old⟩
    · have E : Hid (mergeRd A.tri B.tri = ansErr B.chk 0) := by show _ = _; unfold mergeRd; rw [if_pos (by rw [HTA.out]; exact HCA.out), if_neg (by rw [HTB.out]; exact hc), HTB.out]
      have hcb : (B.chk != 0) = true := by simp [hc]
      clear hc
      have hr := hM2.out.r
      go_wp2_with (refine wpList_bstore (by rfl) _ _ _ (by rfl) (w.heap.size + 2) 26 (by rfl) _ _ (by rfl) hr 3 (by rfl) (by kernel_rfl) (by rfl) (by intro x hx; simp at hx; subst hx; rfl) ?_; intro w9 hr9 hu9)
      exact bodyPost_ret (v := .tuple #[.agg #[.slice none 0 0, .slice none 0 0, .slice none 0 0], .int .i64 B.chk]) (results_box2 (by rfl) _ _ (w.heap.size + 2) 26 _ _ _ (by rfl) hr9 (by rfl) Try.underlying26 (by rfl) 3 (by rfl) (by kernel_rfl)) rfl ⟨⟨none, 0, 0, none, 0, 0, none, 0, 0, by rw [E.out]; rfl, by rw [E.out]; exact Lists.nil _ _⟩, (hM2.out.put hu9 hr9).old⟩
  · have E : Hid (mergeRd A.tri B.tri = ansErr A.chk 0) := by show _ = _; unfold mergeRd; rw [if_neg (by rw [HTA.out]; exact hc), HTA.out]
    have hcb : (A.chk != 0) = true := by simp [hc]
    clear hc
    have hr := hM1.out.r
    go_wp2_with (refine wpList_bstore (by rfl) _ _ _ (by rfl) (w.heap.size + 2) 26 (by rfl) _ _ (by rfl) hr 3 (by rfl) (by kernel_rfl) (by rfl) (by intro x hx; simp at hx; subst hx; rfl) ?_; intro w9 hr9 hu9)
    exact bodyPost_ret (v := .tuple #[.agg #[.slice none 0 0, .slice none 0 0, .slice none 0 0], .int .i64 A.chk]) (results_box2 (by rfl) _ _ (w.heap.size + 2) 26 _ _ _ (by rfl) hr9 (by rfl) Try.underlying26 (by rfl) 3 (by rfl) (by kernel_rfl)) rfl ⟨⟨none, 0, 0, none, 0, 0, none, 0, 0, by rw [E.out]; rfl, by rw [E.out]; exact Lists.nil _ _⟩, (hM1.out.put hu9 hr9).old⟩
end Go.Proofs.Ytdjpkgaicmklmaa

/- How the program merges and extends: what is newer, laid over what is there: without the program. -/
namespace Go.Proofs.Ytdjpkgaicmklmaa
open Go.RowKit

section
variable {α : Type} (key : α → Int)
theorem look_filter (p : α → Bool) : ∀ {l : List α}, Asc key l → ∀ k, look key (l.filter p) k = (look key l k).filter p
  | [], _, _ => rfl
  | x :: l, h, k => by
    simp only [Asc, List.pairwise_cons] at h
    have ih := look_filter p (l := l) h.2 k
    by_cases hp : p x = true
    · rw [List.filter_cons_of_pos hp]
      simp only [look]
      by_cases e : key x = k
      · rw [if_pos e, if_pos e]; simp [Option.filter, hp]
      · rw [if_neg e, if_neg e]; exact ih
    · rw [List.filter_cons_of_neg hp, ih]
      simp only [look]
      by_cases e : key x = k
      · rw [if_pos e, look_none key (fun y hy => by have := h.1 y hy; omega)]; simp [Option.filter, hp]
      · rw [if_neg e]
theorem put_app (f : α → α → α) {c : α} {D : List α} : ∀ {L : List α}, (∀ x ∈ L, key x < key c) → putK key f (L ++ D) c = L ++ putK key f D c
  | [], _ => rfl
  | x :: L, h => by
    simp only [List.cons_append, putK]
    rw [if_pos (h x (by simp)), put_app f (fun y hy => h y (by simp [hy]))]
theorem put_eq (f : α → α → α) {c o : α} {D : List α} (h : key o = key c) : putK key f (o :: D) c = f o c :: D := by
  simp only [putK]; rw [if_neg (by omega), if_pos h]
theorem put_lt (f : α → α → α) {c o : α} {D : List α} (h : key c < key o) : putK key f (o :: D) c = c :: o :: D := by
  simp only [putK]; rw [if_neg (by omega), if_neg (by omega)]
theorem lay_snoc (f : α → α → α) (a b : List α) (c : α) : layK key f a (b ++ [c]) = putK key f (layK key f a b) c := by
  unfold layK; rw [List.foldl_append]; rfl
theorem asc_filter {l : List α} (p : α → Bool) (h : Asc key l) : Asc key (l.filter p) := List.Pairwise.filter p h
end

/-- What one list of clocks has newer than another. -/
def newK (old r : List Ck) : List Ck := r.filter fun c => decide (clkOf old c.site < c.count)
def newP (old : List Cd) (c : Cd) : Bool := match look Cd.id old c.id with
  | some o => laterB c o
  | none => true
def newC (old r : List Cd) : List Cd := r.filter (newP old)
theorem newK_snoc (old r : List Ck) (c : Ck) : newK old (r ++ [c]) = if clkOf old c.site < c.count then newK old r ++ [c] else newK old r := by
  unfold newK; rw [List.filter_append]
  by_cases h : clkOf old c.site < c.count <;> simp [h]
theorem newC_snoc (old r : List Cd) (c : Cd) : newC old (r ++ [c]) = if newP old c = true then newC old r ++ [c] else newC old r := by
  unfold newC; rw [List.filter_append]
  by_cases h : newP old c = true <;> simp [h]
theorem newK_len (old r : List Ck) : (newK old r).length ≤ r.length := List.length_filter_le _ _
theorem newC_len (old r : List Cd) : (newC old r).length ≤ r.length := List.length_filter_le _ _
theorem newK_asc {old r : List Ck} (h : Asc Ck.site r) : Asc Ck.site (newK old r) := asc_filter Ck.site _ h
theorem newC_asc {old r : List Cd} (h : Asc Cd.id r) : Asc Cd.id (newC old r) := asc_filter Cd.id _ h
theorem lay_newK {a b : List Ck} (ha : Asc Ck.site a) (hb : Asc Ck.site b) (pb : ∀ x ∈ b, 1 ≤ x.count) : layK Ck.site (fun _ c => c) a (newK a b) = mergeK a b := by
  refine asc_ext Ck.site (layK_asc Ck.site (fun o c h => rfl) ha) (layK_asc Ck.site (fun o c h => keepK_site o c h) ha) fun k => ?_
  unfold mergeK
  rw [look_lay Ck.site (fun o c h => rfl) ha (newK_asc hb), look_lay Ck.site (fun o c h => keepK_site o c h) ha hb]
  unfold newK
  rw [look_filter Ck.site _ hb]
  cases h2 : look Ck.site b k with
  | none => simp [over_none, Option.filter]
  | some y =>
    have m2 := look_mem Ck.site h2
    have p2 := pb y m2.1
    cases h1 : look Ck.site a k with
    | none =>
      have hc : clkOf a y.site = 0 := by unfold clkOf; rw [m2.2, h1]
      have : clkOf a y.site < y.count := by omega
      simp [Option.filter, this, over]
    | some x =>
      have hc : clkOf a y.site = x.count := by unfold clkOf; rw [m2.2, h1]
      by_cases h : x.count < y.count
      · have : clkOf a y.site < y.count := by omega
        simp [Option.filter, this, over, keepK, h]
      · have : ¬ clkOf a y.site < y.count := by omega
        simp [Option.filter, this, over, keepK, h]
theorem lay_newC {a b : List Cd} (ha : Asc Cd.id a) (hb : Asc Cd.id b) : layK Cd.id (fun _ c => c) a (newC a b) = mergeC a b := by
  refine asc_ext Cd.id (layK_asc Cd.id (fun o c h => rfl) ha) (layK_asc Cd.id (fun o c h => keepC_id o c h) ha) fun k => ?_
  unfold mergeC
  rw [look_lay Cd.id (fun o c h => rfl) ha (newC_asc hb), look_lay Cd.id (fun o c h => keepC_id o c h) ha hb]
  unfold newC
  rw [look_filter Cd.id _ hb]
  cases h2 : look Cd.id b k with
  | none => simp [over_none, Option.filter]
  | some y =>
    have m2 := look_mem Cd.id h2
    cases h1 : look Cd.id a k with
    | none =>
      have hc : newP a y = true := by unfold newP; rw [m2.2, h1]
      simp [Option.filter, hc, over]
    | some x =>
      have hc : newP a y = laterB y x := by unfold newP; rw [m2.2, h1]
      by_cases h : laterB y x = true
      · simp [Option.filter, hc, over, keepC, h]
      · simp [Option.filter, hc, over, keepC, h]
/-- Of what follows, what is newer is what is otherwise. -/
theorem laterB_irr (x : Cd) : laterB x x = false := by unfold laterB; simp
theorem diff_new {o r : Tri} (ha : Asc Ck.site r.K ∧ Asc Cd.id r.C) (hp : ∀ x ∈ r.K, 1 ≤ x.count) (h : followB o r = true) : newK o.K r.K = (diffS o r).K ∧ newC o.C r.C = (diffS o r).C := by
  simp only [followB, followK, followC, Bool.and_eq_true, List.all_eq_true] at h
  constructor
  · unfold newK diffS
    apply List.filter_congr
    intro c hc
    have p := hp c hc
    cases hl : look Ck.site o.K c.site with
    | none =>
      have : clkOf o.K c.site = 0 := by unfold clkOf; rw [hl]
      simp; omega
    | some d =>
      have hd := look_mem Ck.site hl
      have hk : clkOf o.K c.site = d.count := by unfold clkOf; rw [hl]
      have := h.1 d hd.1
      rw [hd.2, look_some Ck.site ha.1 hc] at this
      simp only [decide_eq_true_eq] at this
      rw [hk]
      by_cases e : d.count < c.count
      · have : d ≠ c := fun e2 => by subst e2; omega
        simp [e, this]
      · have : d = c := by
          have h1 : d.site = c.site := hd.2
          have h2 : d.count = c.count := by omega
          cases d; cases c; simp at h1 h2; subst h1; subst h2; rfl
        subst this; simp
  · unfold newC diffS
    apply List.filter_congr
    intro c hc
    cases hl : look Cd.id o.C c.id with
    | none => simp [newP, hl]
    | some d =>
      have hd := look_mem Cd.id hl
      have := h.2 d hd.1
      rw [hd.2, look_some Cd.id ha.2 hc] at this
      simp only [Bool.or_eq_true, decide_eq_true_eq] at this
      simp only [newP, hl]
      rcases this with h3 | h3
      · have : d ≠ c := fun e2 => by subst e2; rw [laterB_irr] at h3; cases h3
        simp [h3, this]
      · subst h3; simp [laterB_irr]
end Go.Proofs.Ytdjpkgaicmklmaa

/- What is newer, of the program: later, cardAt, NewerClocks, NewerCards: walked. -/
namespace Go.Proofs.Ytdjpkgaicmklmaa
open Go.RowKit

set_option maxRecDepth 100000 in
set_option maxHeartbeats 4000000 in
theorem plater_any (a b : Cd) (w : World) :
    Calls Try.prog 153 #[cdV a, cdV b] w fun e w' => e = .returned (.bool (laterB a b)) ∧ Below w.heap.size w w' := by
  obtain ⟨hA, hB, hs, hb⟩ := two_boxes w 69 69 a.cells.toArray b.cells.toArray
  have a1 := hA.cell 1; have a2 := hA.cell 2
  have b1 := hB.cell 1; have b2 := hB.cell 2
  dsimp only [List.getElem?_cons_zero, List.getElem?_cons_succ] at a1 a2 b1 b2
  have HB : Hid (Below w.heap.size w ((w.alloc (.cells a.cells.toArray 69)).alloc (.cells b.cells.toArray 69))) := hb
  have HL : Hid (laterB a b = (decide (b.count < a.count) || (a.count == b.count && decide (b.site < a.site)))) := by
    show _ = _; unfold laterB; first | rfl | (simp; done)
  clear hA hB hs hb
  by_cases h2 : a.count = b.count
  · have q : (a.count != b.count) = false := by simp [h2]
    have E : Hid (laterB a b = decide (b.site < a.site)) := by show _ = _; rw [HL.out]; simp [h2]
    clear HL h2
    go_enter Try.func153, Try.ntmps153
    go_wp2_with fail
    go_ret
    exact ⟨by rw [E.out]; rfl, HB.out⟩
  · have q : (a.count != b.count) = true := by simp [h2]
    have E : Hid (laterB a b = decide (b.count < a.count)) := by show _ = _; rw [HL.out]; simp [h2]
    clear HL h2
    go_enter Try.func153, Try.ntmps153
    go_wp2_with fail
    go_ret
    exact ⟨by rw [E.out]; rfl, HB.out⟩

/-- The place of a card's number, or the end. -/
def cardIx (L : List Cd) (id : Int) : Nat := L.findIdx fun c => c.id == id
theorem cardIx_hit {L : List Cd} {id : Int} {k : Nat} (hk : k < L.length) (h : ((L.getD k cd0).id == id) = true) (hno : ∀ j, j < k → ((L.getD j cd0).id == id) = false) : cardIx L id = k := by
  unfold cardIx
  rw [List.findIdx_eq hk]
  refine ⟨by simpa [List.getD, hk] using h, fun j hj => ?_⟩
  have := hno j hj
  simpa [List.getD, show j < L.length by omega] using this
theorem cardIx_none {L : List Cd} {id : Int} (hno : ∀ j, j < L.length → ((L.getD j cd0).id == id) = false) : cardIx L id = L.length := by
  unfold cardIx
  apply List.findIdx_eq_length_of_false
  intro c hc
  obtain ⟨j, hj, rfl⟩ := List.mem_iff_getElem.1 hc
  have := hno j hj
  simpa [List.getD, hj] using this
theorem cardIx_le (L : List Cd) (id : Int) : cardIx L id ≤ L.length := List.findIdx_le_length
theorem cardIx_look : ∀ (L : List Cd) (id : Int), look Cd.id L id = if cardIx L id < L.length then some (L.getD (cardIx L id) cd0) else none
  | [], id => rfl
  | c :: L, id => by
    have ih := cardIx_look L id
    unfold cardIx at ih ⊢
    simp only [look, List.findIdx_cons]
    by_cases e : c.id = id
    · simp [e]
    · have : (c.id == id) = false := by rw [beq_eq_false_iff_ne]; exact e
      rw [if_neg e, this, ih]
      simp
theorem newP_end {L : List Cd} {c : Cd} (h : ¬ cardIx L c.id < L.length) : newP L c = true := by
  unfold newP; rw [cardIx_look, if_neg h]
theorem newP_in {L : List Cd} {c : Cd} (h : cardIx L c.id < L.length) : newP L c = laterB c (L.getD (cardIx L c.id) cd0) := by
  unfold newP; rw [cardIx_look, if_pos h]
theorem clk_list {O : List Ck} {n : Nat} (hn : n = O.length) (s : Int) : (clockTo (fun i => O.getD i ck0) s n).getD 0 = clkOf O s := by
  subst hn
  rw [clockTo_look, range_getD]
  unfold clkOf
  cases look Ck.site O s <;> rfl
theorem take_clock (E : List Ck) (i : Nat) (h : i < E.length) : E.take (i + 1) = E.take i ++ [E.getD i ck0] := by
  rw [List.take_succ_eq_append_getElem h, List.getD_eq_getElem?_getD, List.getElem?_eq_getElem h]; rfl
theorem take_card (E : List Cd) (i : Nat) (h : i < E.length) : E.take (i + 1) = E.take i ++ [E.getD i cd0] := by
  rw [List.take_succ_eq_append_getElem h, List.getD_eq_getElem?_getD, List.getElem?_eq_getElem h]; rfl

set_option maxHeartbeats 2000000 in
theorem pcardAt_any (L : List Cd) (a : Option Addr) (n cap : Nat) (id : Int) (w : World) (hn : n = L.length) (hn2 : n ≤ 140737488355328) (hL : Lies w a n 5 (fun i => (L.getD i cd0).cells)) :
    Calls Try.prog 152 #[.slice a n cap, .int .i64 id] w fun e w' => e = .returned (.int .i64 (cardIx L id : Int)) ∧ w' = w := by
  have HL : Hid (n = L.length) := hn
  clear hn
  go_enter Try.func152, Try.ntmps152
  go_wp2
  go_loop [5] (fun i => ∃ k : Nat, k ≤ n ∧ i = .int .i64 k ∧ (∀ j, j < k → ((L.getD j cd0).id == id) = false)) (fun i => n - (intOf i).toNat)
  case atStart => exact ⟨0, Nat.zero_le _, rfl, fun j hj => by omega⟩
  case round =>
    obtain ⟨k, hk, rfl, hno⟩ := hrel
    have HN : Hid (∀ j, j < k → ((L.getD j cd0).id == id) = false) := hno
    clear hno
    by_cases hlt : k < n
    · obtain ⟨b, o, hbl, hix, c0, c1, c2, c3, c4⟩ := Lies.card (c := fun i => L.getD i cd0) hL cap hlt
      have HE : Hid (((L.getD k cd0).id == id) = true → cardIx L id = k) := fun hq => cardIx_hit (by rw [← HL.out]; exact hlt) hq HN.out
      have HQ : Hid (((L.getD k cd0).id == id) = false → ∀ j, j < k + 1 → ((L.getD j cd0).id == id) = false) := fun hq j hj => by rcases Nat.lt_or_ge j k with h | h; (exact HN.out j h); (rw [show j = k by omega]; exact hq)
      generalize L.getD k cd0 = c at *
      cases hq : (c.id == id) with
      | true =>
        have E : Hid (cardIx L id = k) := HE.out hq
        go_wp2
        go_ret
        exact ⟨ret_int (by rw [E.out]), rfl⟩
      | false =>
        have E : Hid (∀ j, j < k + 1 → ((L.getD j cd0).id == id) = false) := HQ.out hq
        go_wp2
        go_round
        case rel => exact ⟨k + 1, by omega, by go_num, E.out⟩
        case measure => simp [intOf]; omega
    · have e1 : k = n := by omega
      have E : Hid (cardIx L id = n) := by
        show _ = _
        rw [HL.out]; exact cardIx_none (fun j hj => HN.out j (by have := HL.out; omega))
      clear e1
      go_wp2
      go_ret
      exact ⟨ret_int (by rw [E.out]), rfl⟩

set_option maxRecDepth 100000 in
set_option maxHeartbeats 4000000 in
theorem newerClocks_any (O R : List Ck) (a b : Option Addr) (n m ca cb : Nat) (w : World) (hO : Lies w a n 2 (fun i => (O.getD i ck0).cells)) (hR : Lies w b m 2 (fun i => (R.getD i ck0).cells)) (hn : n = O.length) (hm : m = R.length) (hn2 : n ≤ 1099511627776) (hm2 : m ≤ 1099511627776) :
    Calls Try.prog 137 #[.slice a n ca, .slice b m cb] w fun e w' => ∃ ad cap N, e = .returned (.slice ad N cap) ∧ N = (newK O R).length ∧ Vec w' w.heap.size 67 2 ad N cap (kcells (newK O R)) ∧ Below w.heap.size w w' := by
  have hV0 : Hid (Vec (w.alloc (.cells #[] 67)) w.heap.size 67 2 (some ⟨w.heap.size, 0, none⟩) 0 0 (kcells [])) := Vec.lit w w.heap.size 67 2 0 [] (Nat.le_refl _) (by omega) rfl
  have HN : Hid (n = O.length) := hn
  have HM : Hid (m = R.length) := hm
  have HO : Hid (Lies w a n 2 (fun i => (O.getD i ck0).cells)) := hO
  have HR : Hid (Lies w b m 2 (fun i => (R.getD i ck0).cells)) := hR
  clear hn hm hO hR
  go_enter Try.func137, Try.ntmps137
  go_wp2_with fail
  go_loopw [5, 6, 7] (fun v u _ wr => ∃ (i : Nat) (ad : Option Addr) (cap N : Nat), i ≤ m ∧ u = .int .i64 i ∧ v = .slice ad N cap ∧ N = (newK O (R.take i)).length ∧ N ≤ i ∧ Vec wr w.heap.size 67 2 ad N cap (kcells (newK O (R.take i))) ∧ Below w.heap.size w wr) (fun _ u _ _ => m - (intOf u).toNat)
  case atStart => exact ⟨0, _, _, 0, by omega, rfl, rfl, rfl, by omega, hV0.out, (Below.refl _ _).alloc (Nat.le_refl _) _⟩
  case round =>
    obtain ⟨i, ad, cap, N, hi, rfl, rfl, hN, hNi, hv, hb⟩ := hrel
    have HNN : Hid (N = (newK O (R.take i)).length) := hN
    clear hN
    by_cases hlt : i < m
    · have hil : i < R.length := by rw [← HM.out]; exact hlt
      obtain ⟨bb, ob, hblb, hixb, e0, e1⟩ := Lies.clock (c := fun i => R.getD i ck0) (HR.out.below hb) cb hlt
      have HT : Hid (newK O (R.take (i + 1)) = if clkOf O (R.getD i ck0).site < (R.getD i ck0).count then newK O (R.take i) ++ [R.getD i ck0] else newK O (R.take i)) := by
        show _ = _; rw [take_clock R i hil, newK_snoc]
      clear hil
      generalize R.getD i ck0 = c at *
      go_wp2_with fail
      refine (countOf_any a n ca (fun i => O.getD i ck0) c.site _ (by omega) (HO.out.below hb)).mono ?_
      rintro e w1 ⟨rfl, rfl⟩
      rw [clk_list HN.out]
      have hz := hb.size
      have HBA : Hid (∀ o : Obj, Below w.heap.size w (w1.alloc o)) := fun o => hb.alloc hb.size o
      by_cases hp : clkOf O c.site < c.count
      · rw [if_pos hp] at HT
        generalize clkOf O c.site = x at *
        go_wp2_with (at_builtin; refine wpList_push (by rfl) _ _ 22 (by rfl) w.heap.size 67 2 16 (.agg #[.int .i64 0, .int .i64 0]) Try.underlying22 (by kernel_rfl) rfl (by decide) ad N cap _ (by rfl) (hv.keep ((Below.refl _ _).alloc (Nat.le_refl _) _)) _ _ c.cells (by rfl) rfl ?_ ?_ ?_ ?_ ?_ ?_; exact new_cells _ _ _; exact ones1 _; (omega); (omega); (simp; omega); intro ad' cap' w' hv' hb' hs')
        go_roundw
        case rel => exact ⟨i + 1, ad', cap', N + 1, by omega, by go_num, rfl, by rw [HT.out, List.length_append, ← HNN.out]; rfl, by omega, by rw [HT.out, kcells_app]; simpa [kcells] using hv', (HBA.out _).trans hb'⟩
        case measure => simp [intOf]; omega
      · rw [if_neg hp] at HT
        generalize clkOf O c.site = x at *
        go_wp2_with fail
        go_roundw
        case rel => exact ⟨i + 1, ad, cap, N, by omega, by go_num, rfl, by rw [HT.out]; exact HNN.out, by omega, by rw [HT.out]; exact hv, hb⟩
        case measure => simp [intOf]; omega
    · obtain rfl : m = i := by omega
      have HE : Hid (newK O (R.take m) = newK O R) := by show _ = _; rw [HM.out, List.take_length]
      go_wp2_with fail
      go_ret
      exact ⟨ad, cap, N, rfl, by rw [← HE.out]; exact HNN.out, by rw [← HE.out]; exact hv, hb⟩

set_option maxRecDepth 100000 in
set_option maxHeartbeats 4000000 in
theorem newerCards_any (O R : List Cd) (a b : Option Addr) (n m ca cb : Nat) (w : World) (hO : Lies w a n 5 (fun i => (O.getD i cd0).cells)) (hR : Lies w b m 5 (fun i => (R.getD i cd0).cells)) (hn : n = O.length) (hm : m = R.length) (hn2 : n ≤ 1099511627776) (hm2 : m ≤ 1099511627776) :
    Calls Try.prog 138 #[.slice a n ca, .slice b m cb] w fun e w' => ∃ ad cap N, e = .returned (.slice ad N cap) ∧ N = (newC O R).length ∧ Vec w' w.heap.size 69 5 ad N cap (ccells (newC O R)) ∧ Below w.heap.size w w' := by
  have hV0 : Hid (Vec (w.alloc (.cells #[] 69)) w.heap.size 69 5 (some ⟨w.heap.size, 0, none⟩) 0 0 (ccells [])) := Vec.lit w w.heap.size 69 5 0 [] (Nat.le_refl _) (by omega) rfl
  have HN : Hid (n = O.length) := hn
  have HM : Hid (m = R.length) := hm
  have HO : Hid (Lies w a n 5 (fun i => (O.getD i cd0).cells)) := hO
  have HR : Hid (Lies w b m 5 (fun i => (R.getD i cd0).cells)) := hR
  clear hn hm hO hR
  go_enter Try.func138, Try.ntmps138
  go_wp2_with fail
  go_loopw [5, 6, 7] (fun v u _ wr => ∃ (i : Nat) (ad : Option Addr) (cap N : Nat), i ≤ m ∧ u = .int .i64 i ∧ v = .slice ad N cap ∧ N = (newC O (R.take i)).length ∧ N ≤ i ∧ Vec wr w.heap.size 69 5 ad N cap (ccells (newC O (R.take i))) ∧ Below w.heap.size w wr) (fun _ u _ _ => m - (intOf u).toNat)
  case atStart => exact ⟨0, _, _, 0, by omega, rfl, rfl, rfl, by omega, hV0.out, (Below.refl _ _).alloc (Nat.le_refl _) _⟩
  case round =>
    obtain ⟨i, ad, cap, N, hi, rfl, rfl, hN, hNi, hv, hb⟩ := hrel
    have HNN : Hid (N = (newC O (R.take i)).length) := hN
    clear hN
    by_cases hlt : i < m
    · have hil : i < R.length := by rw [← HM.out]; exact hlt
      obtain ⟨bb, ob, hblb, hixb, e0, e1, e2, e3, e4⟩ := Lies.card (c := fun i => R.getD i cd0) (HR.out.below hb) cb hlt
      have HT : Hid (newC O (R.take (i + 1)) = if newP O (R.getD i cd0) = true then newC O (R.take i) ++ [R.getD i cd0] else newC O (R.take i)) := by
        show _ = _; rw [take_card R i hil, newC_snoc]
      clear hil
      generalize R.getD i cd0 = c at *
      go_wp2_with fail
      refine (pcardAt_any O a n ca c.id _ HN.out (by omega) (HO.out.below hb)).mono ?_
      rintro e w1 ⟨rfl, rfl⟩
      have hz := hb.size
      have HV : Hid (∀ X, Below w1.heap.size w1 X → Vec X w.heap.size 69 5 ad N cap (ccells (newC O (R.take i))) ∧ Below w.heap.size w X ∧ w.heap.size ≤ X.heap.size) := fun X h => ⟨hv.keep h, hb.trans (h.mono hb.size), Nat.le_trans hb.size h.size⟩
      have HO1 : Hid (Lies w1 a n 5 (fun i => (O.getD i cd0).cells)) := HO.out.below hb
      have HLE : Hid (cardIx O c.id ≤ n) := by show _ ≤ _; rw [HN.out]; exact cardIx_le _ _
      clear hv hb
      by_cases hq : cardIx O c.id < n
      · obtain ⟨bo, oo, hblo, hixo, f0, f1, f2, f3, f4⟩ := Lies.card (c := fun i => O.getD i cd0) HO1.out ca hq
        have HP : Hid (newP O c = laterB c (O.getD (cardIx O c.id) cd0)) := newP_in (by rw [← HN.out]; exact hq)
        generalize O.getD (cardIx O c.id) cd0 = d at *
        generalize cardIx O c.id = q at *
        have hqn : ((q : Int) == (n : Int)) = false := by rw [beq_eq_false_iff_ne]; omega
        go_wp2_with fail
        go_region_held3 (fun w' => w'.cell? ⟨bb, ob, none⟩ = some (.int .i64 c.id) ∧ w'.cell? ⟨bb, ob + 1, none⟩ = some (.int .i64 c.site) ∧ w'.cell? ⟨bb, ob + 2, none⟩ = some (.int .i64 c.count) ∧ w'.cell? ⟨bb, ob + 3, none⟩ = some (.bool c.gone) ∧ w'.cell? ⟨bb, ob + 4, none⟩ = some (.string c.text) ∧
             w'.cell? ⟨bo, oo, none⟩ = some (.int .i64 d.id) ∧ w'.cell? ⟨bo, oo + 1, none⟩ = some (.int .i64 d.site) ∧ w'.cell? ⟨bo, oo + 2, none⟩ = some (.int .i64 d.count) ∧ w'.cell? ⟨bo, oo + 3, none⟩ = some (.bool d.gone) ∧ w'.cell? ⟨bo, oo + 4, none⟩ = some (.string d.text)) (first | (go_keep; done) | (simp only [hcc bb _ hblb, hcc bo _ hblo]; go_keep; done))
             (first | (go_at_call 153; refine (plater_any c d _).mono ?_; rintro e w' ⟨rfl, hb2⟩; obtain ⟨hcc, hff⟩ := bcell hb2))
        have hbw : Below w1.heap.size w1 w' := Below.trans (by (repeat (first | exact Below.refl _ _ | refine Below.drew ?_))) hb2
        obtain ⟨hvX, hbX, hzX⟩ := HV.out w' hbw
        replace e0 := (hbw.cell (p := ⟨bb, ob, none⟩) hblb).trans e0
        replace e1 := (hbw.cell (p := ⟨bb, ob + 1, none⟩) hblb).trans e1
        replace e2 := (hbw.cell (p := ⟨bb, ob + 2, none⟩) hblb).trans e2
        replace e3 := (hbw.cell (p := ⟨bb, ob + 3, none⟩) hblb).trans e3
        replace e4 := (hbw.cell (p := ⟨bb, ob + 4, none⟩) hblb).trans e4
        clear hbw hb2 hcc hff HV
        cases hl : laterB c d with
        | true =>
          rw [HP.out, if_pos hl] at HT
          clear HP hl
          go_wp2_with (at_builtin; refine wpList_push (by rfl) _ _ 23 (by rfl) w.heap.size 69 5 48 (.agg #[.int .i64 0, .int .i64 0, .int .i64 0, .bool false, .string ⟨#[]⟩]) Try.underlying23 (by kernel_rfl) rfl (by decide) ad N cap _ (by rfl) (hvX.keep ((Below.refl _ _).alloc (Nat.le_refl _) _)) _ _ c.cells (by rfl) rfl ?_ ?_ ?_ ?_ ?_ ?_; exact new_cells _ _ _; exact ones2 _; (omega); (omega); (simp; omega); intro ad' cap' w9 hv' hb' hs')
          go_roundw
          case rel => exact ⟨i + 1, ad', cap', N + 1, by omega, by go_num, rfl, by rw [HT.out, List.length_append, ← HNN.out]; rfl, by omega, by rw [HT.out, ccells_app]; simpa [ccells] using hv', (hbX.alloc hzX _).trans hb'⟩
          case measure => simp [intOf]; omega
        | false =>
          rw [HP.out, if_neg (by rw [hl]; decide)] at HT
          clear HP hl
          go_wp2_with fail
          go_roundw
          case rel => exact ⟨i + 1, ad, cap, N, by omega, by go_num, rfl, by rw [HT.out]; exact HNN.out, by omega, by rw [HT.out]; exact hvX, hbX⟩
          case measure => simp [intOf]; omega
      · have HP : Hid (newP O c = true) := newP_end (by rw [← HN.out]; exact hq)
        have hqe : cardIx O c.id = n := by have := HLE.out; omega
        rw [hqe]
        rw [HP.out, if_pos rfl] at HT
        clear hqe hq HLE HP
        have hqn : ((n : Int) == (n : Int)) = true := by simp
        go_wp2_with fail
        go_quiet (fail)
        have hvx := fun (k : Nat) => (HV.out _ (below_drewN (Below.refl w1.heap.size w1) k)).1
        go_wp2_with (at_builtin; refine wpList_push (by rfl) _ _ 23 (by rfl) w.heap.size 69 5 48 (.agg #[.int .i64 0, .int .i64 0, .int .i64 0, .bool false, .string ⟨#[]⟩]) Try.underlying23 (by kernel_rfl) rfl (by decide) ad N cap _ (by rfl) ((hvx _).keep ((Below.refl _ _).alloc (Nat.le_refl _) _)) _ _ c.cells (by rfl) rfl ?_ ?_ ?_ ?_ ?_ ?_; exact new_cells _ _ _; exact ones2 _; (omega); (omega); (simp; omega); intro ad' cap' w' hv' hb' hs')
        go_roundw
        case rel => exact ⟨i + 1, ad', cap', N + 1, by omega, by go_num, rfl, by rw [HT.out, List.length_append, ← HNN.out]; rfl, by omega, by rw [HT.out, ccells_app]; simpa [ccells] using hv', ((HV.out _ (below_drewN (Below.refl _ _) _)).2.1.alloc (HV.out _ (below_drewN (Below.refl _ _) _)).2.2 _).trans hb'⟩
        case measure => simp [intOf]; omega
    · obtain rfl : m = i := by omega
      have HE : Hid (newC O (R.take m) = newC O R) := by show _ = _; rw [HM.out, List.take_length]
      go_wp2_with fail
      go_ret
      exact ⟨ad, cap, N, rfl, by rw [← HE.out]; exact HNN.out, by rw [← HE.out]; exact hv, hb⟩
end Go.Proofs.Ytdjpkgaicmklmaa

/- clocksOver of the program: one rising list laid over another: walked. -/
namespace Go.Proofs.Ytdjpkgaicmklmaa
open Go.RowKit

section
variable {P : Program} {w : World} {ops : Array Oper} {rest : List Oper} {o : Oper} {a : Act} {Q : Exit → Act → World → Prop}
/-- 'l[k:]': the list behind, its address a name. -/
theorem wpList_tailm (hgd : o.guard = none) (t : TypeId) (x lo : Operand) (ho : o.op = .slice t x (some lo) none none) (ht : P.underlying t = some (.slice (P.elem t))) (m : Nat) (hs : (P.info? (P.elem t)).map (·.size) = some m)
    (ad : Option Addr) (n cap k : Nat) (K : Int) (hx : a.eval x = .slice ad n cap) (hlo : a.eval lo = .int .i64 K) (hK : K = (k : Int)) (hk : k ≤ n) (f : Nat → List Value) (hL : Lies w ad n m f) (hc : n ≤ cap)
    (h : ∀ ad', Lies w ad' (n - k) m (fun i => f (k + i)) → wpList P ops Q rest (a.put o.dst (.slice ad' (n - k) (cap - k))) w) : wpList P ops Q (o :: rest) a w := by
  subst hK
  cases hq : P.info? (P.elem t) with
  | none => simp [hq] at hs
  | some i =>
    have hi : i.size = m := by simpa [hq] using hs
    have hz : (sizeOf (P.elem t)).run P w = .ok m w := by simp [sizeOf, typeInfo, hq, hi]
    have hrun : (Instr.sliceAt t (.slice ad n cap) (some (.int .i64 (k : Int))) none none).run P w = .ok (.slice (if cap = k then ad else ad.map (·.add (k * m))) (n - k) (cap - k)) w := by
      rw [run_sliceAt_slice w t _ _ _ _ ht, run_slice_l w t ad n cap ht .i64 (k : Int) (by omega) (by omega), hz]
      simp [sliced]
    refine wpList_plain hgd fun K hK => ?_
    unfold Oper.wp
    simp [execOp, ho, hx, hlo, hrun, Result.andThen]
    exact hK _ _ (h _ (hL.drop cap k hc))
end
theorem range_cells {α : Type} (cells : α → List Value) (z : α) (U : List α) (k : Nat) : ((List.range (U.length - k)).map fun j => cells (U.getD (k + j) z)).flatten = ((U.drop k).map cells).flatten := by
  congr 1
  apply List.ext_getElem?
  intro i
  by_cases hi : k + i < U.length
  · have h2 : i < U.length - k := by omega
    simp [hi, h2, List.getD]
  · have h2 : ¬ i < U.length - k := by omega
    simp [h2]
theorem range_ks (U : List Ck) (k : Nat) : ((List.range (U.length - k)).map fun j => (U.getD (k + j) ck0).cells).flatten = kcells (U.drop k) := range_cells Ck.cells ck0 U k
theorem range_cs (U : List Cd) (k : Nat) : ((List.range (U.length - k)).map fun j => (U.getD (k + j) cd0).cells).flatten = ccells (U.drop k) := range_cells Cd.cells cd0 U k

set_option maxRecDepth 100000 in
set_option maxHeartbeats 8000000 in
theorem clocksOver_any (U V : List Ck) (a b : Option Addr) (n m ca cb : Nat) (w : World) (hU : Lies w a n 2 (fun i => (U.getD i ck0).cells)) (hV : Lies w b m 2 (fun i => (V.getD i ck0).cells)) (hn : n = U.length) (hm : m = V.length) (hn2 : n ≤ 1099511627776) (hm2 : m ≤ 1099511627776) (hca : n ≤ ca) (hA : Asc Ck.site V) :
    Calls Try.prog 155 #[.slice a n ca, .slice b m cb] w fun e w' => ∃ ad cap N, e = .returned (.slice ad N cap) ∧ N = (layK Ck.site (fun _ c => c) U V).length ∧ Vec w' w.heap.size 67 2 ad N cap (kcells (layK Ck.site (fun _ c => c) U V)) ∧ Below w.heap.size w w' := by
  have hV0 : Hid (Vec (w.alloc (.cells #[] 67)) w.heap.size 67 2 (some ⟨w.heap.size, 0, none⟩) 0 0 (kcells [])) := Vec.lit w w.heap.size 67 2 0 [] (Nat.le_refl _) (by omega) rfl
  have HN : Hid (n = U.length) := hn
  have HM : Hid (m = V.length) := hm
  have HU : Hid (Lies w a n 2 (fun i => (U.getD i ck0).cells)) := hU
  have HV : Hid (Lies w b m 2 (fun i => (V.getD i ck0).cells)) := hV
  have HA : Hid (Asc Ck.site V) := hA
  clear hn hm hU hV hA
  go_enter Try.func155, Try.ntmps155
  go_wp2_with fail
  go_loopw [5, 6, 7] (fun v x u wr => ∃ (i k : Nat) (ad : Option Addr) (cap N : Nat) (L : List Ck), i ≤ m ∧ k ≤ n ∧ u = .int .i64 i ∧ x = .int .i64 k ∧ v = .slice ad N cap ∧ N = L.length ∧ N ≤ i + k ∧ L ++ U.drop k = layK Ck.site (fun _ c => c) U (V.take i) ∧ (∀ x ∈ L, ∀ j, i ≤ j → j < V.length → Ck.site x < Ck.site (V.getD j ck0)) ∧ Vec wr w.heap.size 67 2 ad N cap (kcells L) ∧ Below w.heap.size w wr) (fun _ _ u _ => m - (intOf u).toNat)
  case atStart => exact ⟨0, 0, _, _, 0, [], by omega, by omega, rfl, rfl, rfl, rfl, by omega, by simp [layK], (fun x hx => by cases hx), hV0.out, (Below.refl _ _).alloc (Nat.le_refl _) _⟩
  case round =>
    clear hV0
    obtain ⟨i, k, ad, cap, N, L, hi, hk, rfl, rfl, rfl, hN, hNi, hS, hlow, hv, hb⟩ := hrel
    have HNN : Hid (N = L.length) := hN
    have HS : Hid (L ++ U.drop k = layK Ck.site (fun _ c => c) U (V.take i)) := hS
    have HLOW : Hid (∀ x ∈ L, ∀ j, i ≤ j → j < V.length → Ck.site x < Ck.site (V.getD j ck0)) := hlow
    clear hN hS hlow
    by_cases hlt : i < m
    · have hil : i < V.length := by rw [← HM.out]; exact hlt
      have HVB : Hid (∀ X, Below w.heap.size w X → Lies X b m 2 (fun i => (V.getD i ck0).cells)) := fun X h => HV.out.below h
      have HT : Hid (layK Ck.site (fun _ c => c) U (V.take (i + 1)) = putK Ck.site (fun _ c => c) (layK Ck.site (fun _ c => c) U (V.take i)) (V.getD i ck0)) := by
        show _ = _; rw [take_clock V i hil, lay_snoc]
      have HUP : Hid (∀ j, i < j → j < V.length → Ck.site (V.getD i ck0) < Ck.site (V.getD j ck0)) := fun j h1 h2 => by
        have := List.pairwise_iff_getElem.1 HA.out i j hil h2 h1
        simpa [List.getD, hil, h2] using this
      have HL0 : Hid (∀ x ∈ L, Ck.site x < Ck.site (V.getD i ck0)) := fun x hx => HLOW.out x hx i (Nat.le_refl _) hil
      have HV5 : Hid (Vec wr w.heap.size 67 2 ad N cap (kcells L)) := hv
      have HB5 : Hid (Below w.heap.size w wr) := hb
      generalize layK Ck.site (fun _ c => c) U (V.take i) = S at *
      generalize hwr : wr = w5 at *
      clear hv hb hwr HLOW hil
      go_wp2_with fail
      go_loopw [5, 6] (fun v x wr => ∃ (k : Nat) (ad : Option Addr) (cap N : Nat) (L : List Ck), k ≤ n ∧ x = .int .i64 k ∧ v = .slice ad N cap ∧ N = L.length ∧ N ≤ i + k ∧ L ++ U.drop k = S ∧ (∀ x ∈ L, Ck.site x < Ck.site (V.getD i ck0)) ∧ Vec wr w.heap.size 67 2 ad N cap (kcells L) ∧ Below w.heap.size w wr) (fun _ x _ => n - (intOf x).toNat)
      case atStart => exact ⟨k, ad, cap, N, L, hk, rfl, rfl, HNN.out, hNi, HS.out, HL0.out, HV5.out, HB5.out⟩
      case round =>
        clear HNN HS HL0 HV5 HB5 hk hNi
        obtain ⟨k, ad, cap, N, L, hk, rfl, rfl, hN, hNi, hS, hlow, hv, hb⟩ := hrel
        have HNN : Hid (N = L.length) := hN
        have HS : Hid (L ++ U.drop k = S) := hS
        have HLOW : Hid (∀ x ∈ L, Ck.site x < Ck.site (V.getD i ck0)) := hlow
        clear hN hS hlow
        obtain ⟨bv, ov, hblv, hixv, e0, e1⟩ := Lies.clock (c := fun i => V.getD i ck0) (HVB.out _ hb) cb hlt
        have hz := hb.size
        have HALL : Hid (∀ X, Below wr.heap.size wr X → Vec X w.heap.size 67 2 ad N cap (kcells L) ∧ Below w.heap.size w X ∧ w.heap.size ≤ X.heap.size) := fun X h => ⟨hv.keep h, hb.trans (h.mono hb.size), Nat.le_trans hb.size h.size⟩
        by_cases hlk : k < n
        · have hkl : k < U.length := by rw [← HN.out]; exact hlk
          obtain ⟨bu, ou, hblu, hixu, f0, f1⟩ := Lies.clock (c := fun i => U.getD i ck0) (HU.out.below hb) ca hlk
          have HD : Hid (U.drop k = U.getD k ck0 :: U.drop (k + 1)) := by
            show _ = _; rw [List.drop_eq_getElem_cons hkl]; simp [List.getD, hkl]
          have hd1 : decide ((k : Int) < (n : Int)) = true := by simp; exact hlk
          clear hkl hv hb
          by_cases hq : Ck.site (U.getD k ck0) < Ck.site (V.getD i ck0)
          · have HQ : Hid (Ck.site (U.getD k ck0) < Ck.site (V.getD i ck0)) := hq
            have hd2 : decide (Ck.site (U.getD k ck0) < Ck.site (V.getD i ck0)) = true := decide_eq_true hq
            clear hq
            generalize U.getD k ck0 = u at *
            generalize V.getD i ck0 = c at *
            go_wp2_with fail
            go_quiet (fail)
            generalize hX : wr.drewN _ = X
            have hbX : Below wr.heap.size wr X := by rw [← hX]; exact below_drewN (Below.refl _ _) _
            obtain ⟨hvX, hbw, hzX⟩ := HALL.out X hbX
            replace f0 := (hbX.cell (p := ⟨bu, ou, none⟩) hblu).trans f0; replace f1 := (hbX.cell (p := ⟨bu, ou + 1, none⟩) hblu).trans f1
            clear hX HALL
            go_wp2_with (at_builtin; refine wpList_push (by rfl) _ _ 22 (by rfl) w.heap.size 67 2 16 (.agg #[.int .i64 0, .int .i64 0]) Try.underlying22 (by kernel_rfl) rfl (by decide) ad N cap _ (by rfl) (hvX.keep ((Below.refl _ _).alloc (Nat.le_refl _) _)) _ _ u.cells (by rfl) rfl ?_ ?_ ?_ ?_ ?_ ?_; exact new_cells _ _ _; exact ones1 _; (omega); (omega); (simp; omega); intro ad' cap' w' hv' hb' hs')
            go_roundw
            case rel => exact ⟨k + 1, ad', cap', N + 1, L ++ [u], by omega, by go_num, rfl, by rw [List.length_append, ← HNN.out]; rfl, by omega, by rw [← HS.out, HD.out]; simp, fun x hx => by rcases List.mem_append.1 hx with h | h; (exact HLOW.out x h); (simp at h; subst h; exact HQ.out), by rw [kcells_app]; simpa [kcells] using hv', (hbw.alloc hzX _).trans hb'⟩
            case measure => simp [intOf]; omega
          · have HQ : Hid (¬ Ck.site (U.getD k ck0) < Ck.site (V.getD i ck0)) := hq
            have hd2 : decide (Ck.site (U.getD k ck0) < Ck.site (V.getD i ck0)) = false := decide_eq_false hq
            clear hq
            have HCS : Hid ((∀ x ∈ L ++ [V.getD i ck0], ∀ j, i + 1 ≤ j → j < V.length → Ck.site x < Ck.site (V.getD j ck0))) := fun x hx j h1 h2 => by
              have hc := HUP.out j (by omega) h2
              rcases List.mem_append.1 hx with h | h
              · have := HLOW.out x h; omega
              · simp at h; subst h; exact hc
            generalize hu : U.getD k ck0 = u at *
            generalize hcg : V.getD i ck0 = c at *
            clear hu hcg
            go_wp2_with fail
            go_quiet (fail)
            generalize hX : wr.drewN _ = X
            have hbX : Below wr.heap.size wr X := by rw [← hX]; exact below_drewN (Below.refl _ _) _
            obtain ⟨hvX, hbw, hzX⟩ := HALL.out X hbX
            replace f0 := (hbX.cell (p := ⟨bu, ou, none⟩) hblu).trans f0; replace f1 := (hbX.cell (p := ⟨bu, ou + 1, none⟩) hblu).trans f1
            replace e0 := (hbX.cell (p := ⟨bv, ov, none⟩) hblv).trans e0; replace e1 := (hbX.cell (p := ⟨bv, ov + 1, none⟩) hblv).trans e1
            clear hX HALL
            by_cases he : Ck.site u = Ck.site c
            · have HE : Hid (Ck.site u = Ck.site c) := he
              have hd3 : (Ck.site u == Ck.site c) = true := by simp [he]
              clear he
              have HALL : Hid (∀ Y, Below X.heap.size X Y → Vec Y w.heap.size 67 2 ad N cap (kcells L) ∧ Below w.heap.size w Y ∧ w.heap.size ≤ Y.heap.size) := fun Y h => ⟨hvX.keep h, hbw.trans (h.mono hzX), Nat.le_trans hzX h.size⟩
              go_wp2_with fail
              go_quiet (fail)
              generalize hY : X.drewN _ = Y
              have hbY : Below X.heap.size X Y := by rw [← hY]; exact below_drewN (Below.refl _ _) _
              obtain ⟨hvY, hbwY, hzY⟩ := HALL.out Y hbY
              replace e0 := (hbY.cell (p := ⟨bv, ov, none⟩) (Nat.lt_of_lt_of_le hblv hbX.size)).trans e0; replace e1 := (hbY.cell (p := ⟨bv, ov + 1, none⟩) (Nat.lt_of_lt_of_le hblv hbX.size)).trans e1
              clear hY HALL hvX hbw hzX
              go_wp2_with (at_builtin; refine wpList_push (by rfl) _ _ 22 (by rfl) w.heap.size 67 2 16 (.agg #[.int .i64 0, .int .i64 0]) Try.underlying22 (by kernel_rfl) rfl (by decide) ad N cap _ (by rfl) (hvY.keep ((Below.refl _ _).alloc (Nat.le_refl _) _)) _ _ c.cells (by rfl) rfl ?_ ?_ ?_ ?_ ?_ ?_; exact new_cells _ _ _; exact ones1 _; (omega); (omega); (simp; omega); intro ad' cap' w' hv' hb' hs')
              go_roundw
              case rel => exact ⟨i + 1, k + 1, ad', cap', N + 1, L ++ [c], by omega, by omega, by go_num, by go_num, rfl, by rw [List.length_append, ← HNN.out]; rfl, by omega, by rw [HT.out, ← HS.out, HD.out, put_app Ck.site _ HLOW.out, put_eq Ck.site _ HE.out]; simp, HCS.out, by rw [kcells_app]; simpa [kcells] using hv', (hbwY.alloc hzY _).trans hb'⟩
              case measure => simp [intOf]; omega
            · have HE : Hid (Ck.site c < Ck.site u) := by have := HQ.out; show _ < _; omega
              have hd3 : (Ck.site u == Ck.site c) = false := by rw [beq_eq_false_iff_ne]; exact he
              clear he
              have HALL : Hid (∀ Y, Below X.heap.size X Y → Vec Y w.heap.size 67 2 ad N cap (kcells L) ∧ Below w.heap.size w Y ∧ w.heap.size ≤ Y.heap.size) := fun Y h => ⟨hvX.keep h, hbw.trans (h.mono hzX), Nat.le_trans hzX h.size⟩
              go_wp2_with fail
              go_quiet (fail)
              generalize hY : X.drewN _ = Y
              have hbY : Below X.heap.size X Y := by rw [← hY]; exact below_drewN (Below.refl _ _) _
              obtain ⟨hvY, hbwY, hzY⟩ := HALL.out Y hbY
              replace e0 := (hbY.cell (p := ⟨bv, ov, none⟩) (Nat.lt_of_lt_of_le hblv hbX.size)).trans e0; replace e1 := (hbY.cell (p := ⟨bv, ov + 1, none⟩) (Nat.lt_of_lt_of_le hblv hbX.size)).trans e1
              clear hY HALL hvX hbw hzX
              go_wp2_with (at_builtin; refine wpList_push (by rfl) _ _ 22 (by rfl) w.heap.size 67 2 16 (.agg #[.int .i64 0, .int .i64 0]) Try.underlying22 (by kernel_rfl) rfl (by decide) ad N cap _ (by rfl) (hvY.keep ((Below.refl _ _).alloc (Nat.le_refl _) _)) _ _ c.cells (by rfl) rfl ?_ ?_ ?_ ?_ ?_ ?_; exact new_cells _ _ _; exact ones1 _; (omega); (omega); (simp; omega); intro ad' cap' w' hv' hb' hs')
              go_roundw
              case rel => exact ⟨i + 1, k, ad', cap', N + 1, L ++ [c], by omega, by omega, by go_num, by go_num, rfl, by rw [List.length_append, ← HNN.out]; rfl, by omega, by rw [HT.out, ← HS.out, put_app Ck.site _ HLOW.out, HD.out, put_lt Ck.site _ HE.out]; simp, HCS.out, by rw [kcells_app]; simpa [kcells] using hv', (hbwY.alloc hzY _).trans hb'⟩
              case measure => simp [intOf]; omega
        · have hkn : k = n := by omega
          have HD : Hid (U.drop k = []) := by show _ = _; rw [hkn, HN.out]; exact List.drop_length
          have hd0 : ¬ (k : Int) < (n : Int) := by omega
          have hd1 : decide ((k : Int) < (n : Int)) = false := decide_eq_false hd0
          clear hkn
          have HCS : Hid ((∀ x ∈ L ++ [V.getD i ck0], ∀ j, i + 1 ≤ j → j < V.length → Ck.site x < Ck.site (V.getD j ck0))) := fun x hx j h1 h2 => by
              have hc := HUP.out j (by omega) h2
              rcases List.mem_append.1 hx with h | h
              · have := HLOW.out x h; omega
              · simp at h; subst h; exact hc
          generalize hcg : V.getD i ck0 = c at *
          clear hcg hv hb
          go_wp2_with fail
          go_quiet (fail)
          generalize hX : wr.drewN _ = X
          have hbX : Below wr.heap.size wr X := by rw [← hX]; exact below_drewN (Below.refl _ _) _
          obtain ⟨hvX, hbw, hzX⟩ := HALL.out X hbX
          replace e0 := (hbX.cell (p := ⟨bv, ov, none⟩) hblv).trans e0; replace e1 := (hbX.cell (p := ⟨bv, ov + 1, none⟩) hblv).trans e1
          clear hX HALL
          have HALL : Hid (∀ Y, Below X.heap.size X Y → Vec Y w.heap.size 67 2 ad N cap (kcells L) ∧ Below w.heap.size w Y ∧ w.heap.size ≤ Y.heap.size) := fun Y h => ⟨hvX.keep h, hbw.trans (h.mono hzX), Nat.le_trans hzX h.size⟩
          go_wp2_with fail
          go_quiet (fail)
          generalize hY : X.drewN _ = Y
          have hbY : Below X.heap.size X Y := by rw [← hY]; exact below_drewN (Below.refl _ _) _
          obtain ⟨hvY, hbwY, hzY⟩ := HALL.out Y hbY
          replace e0 := (hbY.cell (p := ⟨bv, ov, none⟩) (Nat.lt_of_lt_of_le hblv hbX.size)).trans e0; replace e1 := (hbY.cell (p := ⟨bv, ov + 1, none⟩) (Nat.lt_of_lt_of_le hblv hbX.size)).trans e1
          clear hY HALL hvX hbw hzX
          go_wp2_with (at_builtin; refine wpList_push (by rfl) _ _ 22 (by rfl) w.heap.size 67 2 16 (.agg #[.int .i64 0, .int .i64 0]) Try.underlying22 (by kernel_rfl) rfl (by decide) ad N cap _ (by rfl) (hvY.keep ((Below.refl _ _).alloc (Nat.le_refl _) _)) _ _ c.cells (by rfl) rfl ?_ ?_ ?_ ?_ ?_ ?_; exact new_cells _ _ _; exact ones1 _; (omega); (omega); (simp; omega); intro ad' cap' w' hv' hb' hs')
          go_roundw
          case rel => exact ⟨i + 1, k, ad', cap', N + 1, L ++ [c], by omega, by omega, by go_num, by go_num, rfl, by rw [List.length_append, ← HNN.out]; rfl, by omega, by rw [HT.out, ← HS.out, put_app Ck.site _ HLOW.out, HD.out]; simp [putK], HCS.out, by rw [kcells_app]; simpa [kcells] using hv', (hbwY.alloc hzY _).trans hb'⟩
          case measure => simp [intOf]; omega
    · obtain rfl : m = i := by omega
      have HE : Hid (L ++ U.drop k = layK Ck.site (fun _ c => c) U V) := by
        show _ = _; rw [HS.out, HM.out, List.take_length]
      have HLU : Hid (Lies wr a n 2 (fun i => (U.getD i ck0).cells)) := HU.out.below hb
      have hz := hb.size
      have u1 : (0 : Int) ≤ (k : Int) := by omega
      have u2 : (k : Int) ≤ (ca : Int) := by omega
      clear HS HLOW
      go_wp2_with (first
        | (refine wpList_tailm (by rfl) 22 _ _ (by rfl) (by kernel_rfl) 2 (by kernel_rfl) a n ca k _ (by rfl) (by rfl) (by omega) (by omega) _ HLU.out hca ?_; intro A9 HL9)
        | (at_builtin; refine wpList_pushAll (by rfl) _ _ 22 (by rfl) w.heap.size 67 2 16 (.agg #[.int .i64 0, .int .i64 0]) Try.underlying22 (by kernel_rfl) rfl (by decide) ad N cap _ (by rfl) hv A9 (n - k) (ca - k) (fun j => (U.getD (k + j) ck0).cells) (by rfl) HL9 (fun _ _ => rfl) (fun j _ => ones1 _) ?_ ?_ ?_ (N + (n - k)) ?_ ?_; (omega); (omega); (exact hz); (omega); intro ad5 cap5 w5 hv5 hb5 hs5))
      go_ret
      refine ⟨ad5, cap5, _, rfl, ?_, ?_, hb.trans hb5⟩
      · rw [← HE.out, List.length_append, List.length_drop, ← HNN.out, ← HN.out]
      · rw [← HE.out, kcells_app]
        have e : ((List.range (n - k)).map fun j => (U.getD (k + j) ck0).cells).flatten = kcells (U.drop k) := by
          rw [HN.out]; exact range_ks U k
        rw [e] at hv5; exact hv5
end Go.Proofs.Ytdjpkgaicmklmaa

