/- Texts of the proof, one behind the other; what each holds is said at its head. -/
import Derived.Test.YtdjpkgaicmklmaaPartReplaysupto9
import Derived.Test.YtdjpkgaicmklmaaPartReplaysupto6
import Derived.Test.YtdjpkgaicmklmaaPartReplaysupto5
import Derived.Test.YtdjpkgaicmklmaaPartReplaysupto8
import Derived.Deep.RegionHeld3
import Derived.Deep.DeepCutAuto
/- cardsOver of the program: one rising list laid over another: walked. -/
namespace Go.Proofs.Ytdjpkgaicmklmaa
open Go.RowKit


set_option maxRecDepth 100000 in
set_option maxHeartbeats 8000000 in
theorem cardsOver_any (U V : List Cd) (a b : Option Addr) (n m ca cb : Nat) (w : World) (hU : Lies w a n 5 (fun i => (U.getD i cd0).cells)) (hV : Lies w b m 5 (fun i => (V.getD i cd0).cells)) (hn : n = U.length) (hm : m = V.length) (hn2 : n ≤ 1099511627776) (hm2 : m ≤ 1099511627776) (hca : n ≤ ca) (hA : Asc Cd.id V) :
    Calls Try.prog 156 #[.slice a n ca, .slice b m cb] w fun e w' => ∃ ad cap N, e = .returned (.slice ad N cap) ∧ N = (layK Cd.id (fun _ c => c) U V).length ∧ Vec w' w.heap.size 69 5 ad N cap (ccells (layK Cd.id (fun _ c => c) U V)) ∧ Below w.heap.size w w' := by
  have hV0 : Hid (Vec (w.alloc (.cells #[] 69)) w.heap.size 69 5 (some ⟨w.heap.size, 0, none⟩) 0 0 (ccells [])) := Vec.lit w w.heap.size 69 5 0 [] (Nat.le_refl _) (by omega) rfl
  have HN : Hid (n = U.length) := hn
  have HM : Hid (m = V.length) := hm
  have HU : Hid (Lies w a n 5 (fun i => (U.getD i cd0).cells)) := hU
  have HV : Hid (Lies w b m 5 (fun i => (V.getD i cd0).cells)) := hV
  have HA : Hid (Asc Cd.id V) := hA
  clear hn hm hU hV hA
  go_enter Try.func156, Try.ntmps156
  go_wp2_with fail
  go_loopw [5, 6, 7] (fun v x u wr => ∃ (i k : Nat) (ad : Option Addr) (cap N : Nat) (L : List Cd), i ≤ m ∧ k ≤ n ∧ u = .int .i64 i ∧ x = .int .i64 k ∧ v = .slice ad N cap ∧ N = L.length ∧ N ≤ i + k ∧ L ++ U.drop k = layK Cd.id (fun _ c => c) U (V.take i) ∧ (∀ x ∈ L, ∀ j, i ≤ j → j < V.length → Cd.id x < Cd.id (V.getD j cd0)) ∧ Vec wr w.heap.size 69 5 ad N cap (ccells L) ∧ Below w.heap.size w wr) (fun _ _ u _ => m - (intOf u).toNat)
  case atStart => exact ⟨0, 0, _, _, 0, [], by omega, by omega, rfl, rfl, rfl, rfl, by omega, by simp [layK], (fun x hx => by cases hx), hV0.out, (Below.refl _ _).alloc (Nat.le_refl _) _⟩
  case round =>
    clear hV0
    obtain ⟨i, k, ad, cap, N, L, hi, hk, rfl, rfl, rfl, hN, hNi, hS, hlow, hv, hb⟩ := hrel
    have HNN : Hid (N = L.length) := hN
    have HS : Hid (L ++ U.drop k = layK Cd.id (fun _ c => c) U (V.take i)) := hS
    have HLOW : Hid (∀ x ∈ L, ∀ j, i ≤ j → j < V.length → Cd.id x < Cd.id (V.getD j cd0)) := hlow
    clear hN hS hlow
    by_cases hlt : i < m
    · have hil : i < V.length := by rw [← HM.out]; exact hlt
      have HVB : Hid (∀ X, Below w.heap.size w X → Lies X b m 5 (fun i => (V.getD i cd0).cells)) := fun X h => HV.out.below h
      have HT : Hid (layK Cd.id (fun _ c => c) U (V.take (i + 1)) = putK Cd.id (fun _ c => c) (layK Cd.id (fun _ c => c) U (V.take i)) (V.getD i cd0)) := by
        show _ = _; rw [take_card V i hil, lay_snoc]
      have HUP : Hid (∀ j, i < j → j < V.length → Cd.id (V.getD i cd0) < Cd.id (V.getD j cd0)) := fun j h1 h2 => by
        have := List.pairwise_iff_getElem.1 HA.out i j hil h2 h1
        simpa [List.getD, hil, h2] using this
      have HL0 : Hid (∀ x ∈ L, Cd.id x < Cd.id (V.getD i cd0)) := fun x hx => HLOW.out x hx i (Nat.le_refl _) hil
      have HV5 : Hid (Vec wr w.heap.size 69 5 ad N cap (ccells L)) := hv
      have HB5 : Hid (Below w.heap.size w wr) := hb
      generalize layK Cd.id (fun _ c => c) U (V.take i) = S at *
      generalize hwr : wr = w5 at *
      clear hv hb hwr HLOW hil
      go_wp2_with fail
      go_loopw [5, 6] (fun v x wr => ∃ (k : Nat) (ad : Option Addr) (cap N : Nat) (L : List Cd), k ≤ n ∧ x = .int .i64 k ∧ v = .slice ad N cap ∧ N = L.length ∧ N ≤ i + k ∧ L ++ U.drop k = S ∧ (∀ x ∈ L, Cd.id x < Cd.id (V.getD i cd0)) ∧ Vec wr w.heap.size 69 5 ad N cap (ccells L) ∧ Below w.heap.size w wr) (fun _ x _ => n - (intOf x).toNat)
      case atStart => exact ⟨k, ad, cap, N, L, hk, rfl, rfl, HNN.out, hNi, HS.out, HL0.out, HV5.out, HB5.out⟩
      case round =>
        clear HNN HS HL0 HV5 HB5 hk hNi
        obtain ⟨k, ad, cap, N, L, hk, rfl, rfl, hN, hNi, hS, hlow, hv, hb⟩ := hrel
        have HNN : Hid (N = L.length) := hN
        have HS : Hid (L ++ U.drop k = S) := hS
        have HLOW : Hid (∀ x ∈ L, Cd.id x < Cd.id (V.getD i cd0)) := hlow
        clear hN hS hlow
        obtain ⟨bv, ov, hblv, hixv, e0, e1, e2, e3, e4⟩ := Lies.card (c := fun i => V.getD i cd0) (HVB.out _ hb) cb hlt
        have hz := hb.size
        have HALL : Hid (∀ X, Below wr.heap.size wr X → Vec X w.heap.size 69 5 ad N cap (ccells L) ∧ Below w.heap.size w X ∧ w.heap.size ≤ X.heap.size) := fun X h => ⟨hv.keep h, hb.trans (h.mono hb.size), Nat.le_trans hb.size h.size⟩
        by_cases hlk : k < n
        · have hkl : k < U.length := by rw [← HN.out]; exact hlk
          obtain ⟨bu, ou, hblu, hixu, f0, f1, f2, f3, f4⟩ := Lies.card (c := fun i => U.getD i cd0) (HU.out.below hb) ca hlk
          have HD : Hid (U.drop k = U.getD k cd0 :: U.drop (k + 1)) := by
            show _ = _; rw [List.drop_eq_getElem_cons hkl]; simp [List.getD, hkl]
          have hd1 : decide ((k : Int) < (n : Int)) = true := by simp; exact hlk
          clear hkl hv hb
          by_cases hq : Cd.id (U.getD k cd0) < Cd.id (V.getD i cd0)
          · have HQ : Hid (Cd.id (U.getD k cd0) < Cd.id (V.getD i cd0)) := hq
            have hd2 : decide (Cd.id (U.getD k cd0) < Cd.id (V.getD i cd0)) = true := decide_eq_true hq
            clear hq
            generalize U.getD k cd0 = u at *
            generalize V.getD i cd0 = c at *
            go_wp2_with fail
            go_quiet (fail)
            generalize hX : wr.drewN _ = X
            have hbX : Below wr.heap.size wr X := by rw [← hX]; exact below_drewN (Below.refl _ _) _
            obtain ⟨hvX, hbw, hzX⟩ := HALL.out X hbX
            replace f0 := (hbX.cell (p := ⟨bu, ou, none⟩) hblu).trans f0; replace f1 := (hbX.cell (p := ⟨bu, ou + 1, none⟩) hblu).trans f1; replace f2 := (hbX.cell (p := ⟨bu, ou + 2, none⟩) hblu).trans f2; replace f3 := (hbX.cell (p := ⟨bu, ou + 3, none⟩) hblu).trans f3; replace f4 := (hbX.cell (p := ⟨bu, ou + 4, none⟩) hblu).trans f4
            clear hX HALL
            go_wp2_with (at_builtin; refine wpList_push (by rfl) _ _ 23 (by rfl) w.heap.size 69 5 48 (.agg #[.int .i64 0, .int .i64 0, .int .i64 0, .bool false, .string ⟨#[]⟩]) Try.underlying23 (by kernel_rfl) rfl (by decide) ad N cap _ (by rfl) (hvX.keep ((Below.refl _ _).alloc (Nat.le_refl _) _)) _ _ u.cells (by rfl) rfl ?_ ?_ ?_ ?_ ?_ ?_; exact new_cells _ _ _; exact ones2 _; (omega); (omega); (simp; omega); intro ad' cap' w' hv' hb' hs')
            go_roundw
            case rel => exact ⟨k + 1, ad', cap', N + 1, L ++ [u], by omega, by go_num, rfl, by rw [List.length_append, ← HNN.out]; rfl, by omega, by rw [← HS.out, HD.out]; simp, fun x hx => by rcases List.mem_append.1 hx with h | h; (exact HLOW.out x h); (simp at h; subst h; exact HQ.out), by rw [ccells_app]; simpa [ccells] using hv', (hbw.alloc hzX _).trans hb'⟩
            case measure => simp [intOf]; omega
          · have HQ : Hid (¬ Cd.id (U.getD k cd0) < Cd.id (V.getD i cd0)) := hq
            have hd2 : decide (Cd.id (U.getD k cd0) < Cd.id (V.getD i cd0)) = false := decide_eq_false hq
            clear hq
            have HCS : Hid ((∀ x ∈ L ++ [V.getD i cd0], ∀ j, i + 1 ≤ j → j < V.length → Cd.id x < Cd.id (V.getD j cd0))) := fun x hx j h1 h2 => by
              have hc := HUP.out j (by omega) h2
              rcases List.mem_append.1 hx with h | h
              · have := HLOW.out x h; omega
              · simp at h; subst h; exact hc
            generalize hu : U.getD k cd0 = u at *
            generalize hcg : V.getD i cd0 = c at *
            clear hu hcg
            go_wp2_with fail
            go_quiet (fail)
            generalize hX : wr.drewN _ = X
            have hbX : Below wr.heap.size wr X := by rw [← hX]; exact below_drewN (Below.refl _ _) _
            obtain ⟨hvX, hbw, hzX⟩ := HALL.out X hbX
            replace f0 := (hbX.cell (p := ⟨bu, ou, none⟩) hblu).trans f0; replace f1 := (hbX.cell (p := ⟨bu, ou + 1, none⟩) hblu).trans f1; replace f2 := (hbX.cell (p := ⟨bu, ou + 2, none⟩) hblu).trans f2; replace f3 := (hbX.cell (p := ⟨bu, ou + 3, none⟩) hblu).trans f3; replace f4 := (hbX.cell (p := ⟨bu, ou + 4, none⟩) hblu).trans f4
            replace e0 := (hbX.cell (p := ⟨bv, ov, none⟩) hblv).trans e0; replace e1 := (hbX.cell (p := ⟨bv, ov + 1, none⟩) hblv).trans e1; replace e2 := (hbX.cell (p := ⟨bv, ov + 2, none⟩) hblv).trans e2; replace e3 := (hbX.cell (p := ⟨bv, ov + 3, none⟩) hblv).trans e3; replace e4 := (hbX.cell (p := ⟨bv, ov + 4, none⟩) hblv).trans e4
            clear hX HALL
            by_cases he : Cd.id u = Cd.id c
            · have HE : Hid (Cd.id u = Cd.id c) := he
              have hd3 : (Cd.id u == Cd.id c) = true := by simp [he]
              clear he
              have HALL : Hid (∀ Y, Below X.heap.size X Y → Vec Y w.heap.size 69 5 ad N cap (ccells L) ∧ Below w.heap.size w Y ∧ w.heap.size ≤ Y.heap.size) := fun Y h => ⟨hvX.keep h, hbw.trans (h.mono hzX), Nat.le_trans hzX h.size⟩
              go_wp2_with fail
              go_quiet (fail)
              generalize hY : X.drewN _ = Y
              have hbY : Below X.heap.size X Y := by rw [← hY]; exact below_drewN (Below.refl _ _) _
              obtain ⟨hvY, hbwY, hzY⟩ := HALL.out Y hbY
              replace e0 := (hbY.cell (p := ⟨bv, ov, none⟩) (Nat.lt_of_lt_of_le hblv hbX.size)).trans e0; replace e1 := (hbY.cell (p := ⟨bv, ov + 1, none⟩) (Nat.lt_of_lt_of_le hblv hbX.size)).trans e1; replace e2 := (hbY.cell (p := ⟨bv, ov + 2, none⟩) (Nat.lt_of_lt_of_le hblv hbX.size)).trans e2; replace e3 := (hbY.cell (p := ⟨bv, ov + 3, none⟩) (Nat.lt_of_lt_of_le hblv hbX.size)).trans e3; replace e4 := (hbY.cell (p := ⟨bv, ov + 4, none⟩) (Nat.lt_of_lt_of_le hblv hbX.size)).trans e4
              clear hY HALL hvX hbw hzX
              go_wp2_with (at_builtin; refine wpList_push (by rfl) _ _ 23 (by rfl) w.heap.size 69 5 48 (.agg #[.int .i64 0, .int .i64 0, .int .i64 0, .bool false, .string ⟨#[]⟩]) Try.underlying23 (by kernel_rfl) rfl (by decide) ad N cap _ (by rfl) (hvY.keep ((Below.refl _ _).alloc (Nat.le_refl _) _)) _ _ c.cells (by rfl) rfl ?_ ?_ ?_ ?_ ?_ ?_; exact new_cells _ _ _; exact ones2 _; (omega); (omega); (simp; omega); intro ad' cap' w' hv' hb' hs')
              go_roundw
              case rel => exact ⟨i + 1, k + 1, ad', cap', N + 1, L ++ [c], by omega, by omega, by go_num, by go_num, rfl, by rw [List.length_append, ← HNN.out]; rfl, by omega, by rw [HT.out, ← HS.out, HD.out, put_app Cd.id _ HLOW.out, put_eq Cd.id _ HE.out]; simp, HCS.out, by rw [ccells_app]; simpa [ccells] using hv', (hbwY.alloc hzY _).trans hb'⟩
              case measure => simp [intOf]; omega
            · have HE : Hid (Cd.id c < Cd.id u) := by have := HQ.out; show _ < _; omega
              have hd3 : (Cd.id u == Cd.id c) = false := by rw [beq_eq_false_iff_ne]; exact he
              clear he
              have HALL : Hid (∀ Y, Below X.heap.size X Y → Vec Y w.heap.size 69 5 ad N cap (ccells L) ∧ Below w.heap.size w Y ∧ w.heap.size ≤ Y.heap.size) := fun Y h => ⟨hvX.keep h, hbw.trans (h.mono hzX), Nat.le_trans hzX h.size⟩
              go_wp2_with fail
              go_quiet (fail)
              generalize hY : X.drewN _ = Y
              have hbY : Below X.heap.size X Y := by rw [← hY]; exact below_drewN (Below.refl _ _) _
              obtain ⟨hvY, hbwY, hzY⟩ := HALL.out Y hbY
              replace e0 := (hbY.cell (p := ⟨bv, ov, none⟩) (Nat.lt_of_lt_of_le hblv hbX.size)).trans e0; replace e1 := (hbY.cell (p := ⟨bv, ov + 1, none⟩) (Nat.lt_of_lt_of_le hblv hbX.size)).trans e1; replace e2 := (hbY.cell (p := ⟨bv, ov + 2, none⟩) (Nat.lt_of_lt_of_le hblv hbX.size)).trans e2; replace e3 := (hbY.cell (p := ⟨bv, ov + 3, none⟩) (Nat.lt_of_lt_of_le hblv hbX.size)).trans e3; replace e4 := (hbY.cell (p := ⟨bv, ov + 4, none⟩) (Nat.lt_of_lt_of_le hblv hbX.size)).trans e4
              clear hY HALL hvX hbw hzX
              go_wp2_with (at_builtin; refine wpList_push (by rfl) _ _ 23 (by rfl) w.heap.size 69 5 48 (.agg #[.int .i64 0, .int .i64 0, .int .i64 0, .bool false, .string ⟨#[]⟩]) Try.underlying23 (by kernel_rfl) rfl (by decide) ad N cap _ (by rfl) (hvY.keep ((Below.refl _ _).alloc (Nat.le_refl _) _)) _ _ c.cells (by rfl) rfl ?_ ?_ ?_ ?_ ?_ ?_; exact new_cells _ _ _; exact ones2 _; (omega); (omega); (simp; omega); intro ad' cap' w' hv' hb' hs')
              go_roundw
              case rel => exact ⟨i + 1, k, ad', cap', N + 1, L ++ [c], by omega, by omega, by go_num, by go_num, rfl, by rw [List.length_append, ← HNN.out]; rfl, by omega, by rw [HT.out, ← HS.out, put_app Cd.id _ HLOW.out, HD.out, put_lt Cd.id _ HE.out]; simp, HCS.out, by rw [ccells_app]; simpa [ccells] using hv', (hbwY.alloc hzY _).trans hb'⟩
              case measure => simp [intOf]; omega
        · have hkn : k = n := by omega
          have HD : Hid (U.drop k = []) := by show _ = _; rw [hkn, HN.out]; exact List.drop_length
          have hd0 : ¬ (k : Int) < (n : Int) := by omega
          have hd1 : decide ((k : Int) < (n : Int)) = false := decide_eq_false hd0
          clear hkn
          have HCS : Hid ((∀ x ∈ L ++ [V.getD i cd0], ∀ j, i + 1 ≤ j → j < V.length → Cd.id x < Cd.id (V.getD j cd0))) := fun x hx j h1 h2 => by
              have hc := HUP.out j (by omega) h2
              rcases List.mem_append.1 hx with h | h
              · have := HLOW.out x h; omega
              · simp at h; subst h; exact hc
          generalize hcg : V.getD i cd0 = c at *
          clear hcg hv hb
          go_wp2_with fail
          go_quiet (fail)
          generalize hX : wr.drewN _ = X
          have hbX : Below wr.heap.size wr X := by rw [← hX]; exact below_drewN (Below.refl _ _) _
          obtain ⟨hvX, hbw, hzX⟩ := HALL.out X hbX
          replace e0 := (hbX.cell (p := ⟨bv, ov, none⟩) hblv).trans e0; replace e1 := (hbX.cell (p := ⟨bv, ov + 1, none⟩) hblv).trans e1; replace e2 := (hbX.cell (p := ⟨bv, ov + 2, none⟩) hblv).trans e2; replace e3 := (hbX.cell (p := ⟨bv, ov + 3, none⟩) hblv).trans e3; replace e4 := (hbX.cell (p := ⟨bv, ov + 4, none⟩) hblv).trans e4
          clear hX HALL
          have HALL : Hid (∀ Y, Below X.heap.size X Y → Vec Y w.heap.size 69 5 ad N cap (ccells L) ∧ Below w.heap.size w Y ∧ w.heap.size ≤ Y.heap.size) := fun Y h => ⟨hvX.keep h, hbw.trans (h.mono hzX), Nat.le_trans hzX h.size⟩
          go_wp2_with fail
          go_quiet (fail)
          generalize hY : X.drewN _ = Y
          have hbY : Below X.heap.size X Y := by rw [← hY]; exact below_drewN (Below.refl _ _) _
          obtain ⟨hvY, hbwY, hzY⟩ := HALL.out Y hbY
          replace e0 := (hbY.cell (p := ⟨bv, ov, none⟩) (Nat.lt_of_lt_of_le hblv hbX.size)).trans e0; replace e1 := (hbY.cell (p := ⟨bv, ov + 1, none⟩) (Nat.lt_of_lt_of_le hblv hbX.size)).trans e1; replace e2 := (hbY.cell (p := ⟨bv, ov + 2, none⟩) (Nat.lt_of_lt_of_le hblv hbX.size)).trans e2; replace e3 := (hbY.cell (p := ⟨bv, ov + 3, none⟩) (Nat.lt_of_lt_of_le hblv hbX.size)).trans e3; replace e4 := (hbY.cell (p := ⟨bv, ov + 4, none⟩) (Nat.lt_of_lt_of_le hblv hbX.size)).trans e4
          clear hY HALL hvX hbw hzX
          go_wp2_with (at_builtin; refine wpList_push (by rfl) _ _ 23 (by rfl) w.heap.size 69 5 48 (.agg #[.int .i64 0, .int .i64 0, .int .i64 0, .bool false, .string ⟨#[]⟩]) Try.underlying23 (by kernel_rfl) rfl (by decide) ad N cap _ (by rfl) (hvY.keep ((Below.refl _ _).alloc (Nat.le_refl _) _)) _ _ c.cells (by rfl) rfl ?_ ?_ ?_ ?_ ?_ ?_; exact new_cells _ _ _; exact ones2 _; (omega); (omega); (simp; omega); intro ad' cap' w' hv' hb' hs')
          go_roundw
          case rel => exact ⟨i + 1, k, ad', cap', N + 1, L ++ [c], by omega, by omega, by go_num, by go_num, rfl, by rw [List.length_append, ← HNN.out]; rfl, by omega, by rw [HT.out, ← HS.out, put_app Cd.id _ HLOW.out, HD.out]; simp [putK], HCS.out, by rw [ccells_app]; simpa [ccells] using hv', (hbwY.alloc hzY _).trans hb'⟩
          case measure => simp [intOf]; omega
    · obtain rfl : m = i := by omega
      have HE : Hid (L ++ U.drop k = layK Cd.id (fun _ c => c) U V) := by
        show _ = _; rw [HS.out, HM.out, List.take_length]
      have HLU : Hid (Lies wr a n 5 (fun i => (U.getD i cd0).cells)) := HU.out.below hb
      have hz := hb.size
      have u1 : (0 : Int) ≤ (k : Int) := by omega
      have u2 : (k : Int) ≤ (ca : Int) := by omega
      clear HS HLOW
      go_wp2_with (first
        | (refine wpList_tailm (by rfl) 23 _ _ (by rfl) (by kernel_rfl) 5 (by kernel_rfl) a n ca k _ (by rfl) (by rfl) (by omega) (by omega) _ HLU.out hca ?_; intro A9 HL9)
        | (at_builtin; refine wpList_pushAll (by rfl) _ _ 23 (by rfl) w.heap.size 69 5 48 (.agg #[.int .i64 0, .int .i64 0, .int .i64 0, .bool false, .string ⟨#[]⟩]) Try.underlying23 (by kernel_rfl) rfl (by decide) ad N cap _ (by rfl) hv A9 (n - k) (ca - k) (fun j => (U.getD (k + j) cd0).cells) (by rfl) HL9 (fun _ _ => rfl) (fun j _ => ones2 _) ?_ ?_ ?_ (N + (n - k)) ?_ ?_; (omega); (omega); (exact hz); (omega); intro ad5 cap5 w5 hv5 hb5 hs5))
      go_ret
      refine ⟨ad5, cap5, _, rfl, ?_, ?_, hb.trans hb5⟩
      · rw [← HE.out, List.length_append, List.length_drop, ← HNN.out, ← HN.out]
      · rw [← HE.out, ccells_app]
        have e : ((List.range (n - k)).map fun j => (U.getD (k + j) cd0).cells).flatten = ccells (U.drop k) := by
          rw [HN.out]; exact range_cs U k
        rw [e] at hv5; exact hv5
end Go.Proofs.Ytdjpkgaicmklmaa

/- parcelref.carded, walked. -/
namespace Go.Proofs.Ytdjpkgaicmklmaa
open Go.RowKit
set_option maxRecDepth 100000 in
set_option maxHeartbeats 4000000 in
theorem rcarded_any (L : List Cd) (c : Cd) (a : Option Addr) (n ca : Nat) (w : World) (hL : Lies w a n 5 (fun i => (L.getD i cd0).cells)) (hn : n = L.length) (hn2 : n ≤ 1099511627776) (hasc : Asc Cd.id L) :
    Calls Try.prog 143 #[.slice a n ca, .agg c.cells.toArray] w fun e w' => ∃ ad cap N, e = .returned (.slice ad N cap) ∧ N = (putK Cd.id (fun _ c => c) L c).length ∧ Vec w' w.heap.size 69 5 ad N cap (ccells (putK Cd.id (fun _ c => c) L c)) ∧ Below w.heap.size w w' := by
  have HL : Hid (Lies w a n 5 (fun i => (L.getD i cd0).cells)) := hL
  have HN : Hid (n = L.length) := hn
  have HF : Hid (finI c (runI Cd.id c L) = putK Cd.id (fun _ c => c) L c) := fin_put Cd.id c L hasc
  obtain ⟨hX, hW, hB⟩ := one_box w 69 c.cells.toArray
  have HX0 : Hid (Bx (w.alloc (.cells c.cells.toArray 69)) w.heap.size 69 c.cells ∧ Below w.heap.size w (w.alloc (.cells c.cells.toArray 69)) ∧ (w.alloc (.cells c.cells.toArray 69)).heap.size = w.heap.size + 1) := ⟨hX, hB, hW⟩
  clear hL hn hasc hX hW hB
  go_enter Try.func143, Try.ntmps143
  go_wp2_with fail
  generalize w.alloc (.cells c.cells.toArray 69) = W at *
  go_loopw [5, 6, 7] (fun v t u wr => ∃ (i : Nat) (ad : Option Addr) (cap N : Nat), i ≤ n ∧ u = .int .i64 i ∧ v = .slice ad N cap ∧ t = .bool (runI Cd.id c (L.take i)).2 ∧ N = (runI Cd.id c (L.take i)).1.length ∧ Vec wr W.heap.size 69 5 ad N cap (ccells (runI Cd.id c (L.take i)).1) ∧ Below W.heap.size W wr) (fun _ _ u _ => n - (intOf u).toNat)
  case atStart => exact ⟨0, none, 0, 0, by omega, rfl, rfl, by rw [List.take_zero]; rfl, by rw [List.take_zero]; rfl, by rw [List.take_zero]; exact Vec.nil _ _ _ _, Below.refl _ _⟩
  case round =>
    obtain ⟨i, ad, cap, N, hi, rfl, rfl, rfl, hN, hv, hb⟩ := hrel
    have HNN : Hid (N = (runI Cd.id c (L.take i)).1.length) := hN
    have hNi : N ≤ 2 * n := by have := runI_len Cd.id c (L.take i); have h2 : (L.take i).length ≤ n := by { rw [List.length_take]; omega }; omega
    have HBC : Hid (∀ X, Below W.heap.size W X → X.cell? ⟨w.heap.size, 0, none⟩ = some (.int .i64 c.id) ∧ X.cell? ⟨w.heap.size, 1, none⟩ = some (.int .i64 c.site) ∧ X.cell? ⟨w.heap.size, 2, none⟩ = some (.int .i64 c.count) ∧ X.cell? ⟨w.heap.size, 3, none⟩ = some (.bool c.gone) ∧ X.cell? ⟨w.heap.size, 4, none⟩ = some (.string c.text)) := fun X hX => by
      have hx := HX0.out.1.below hX HX0.out.1.lt
      exact ⟨hx.cell 0, hx.cell 1, hx.cell 2, hx.cell 3, hx.cell 4⟩
    clear hN
    by_cases hlt : i < n
    · have hil : i < L.length := by rw [← HN.out]; exact hlt
      obtain ⟨bx, ox, hbl, hix, e0 , e1 , e2 , e3 , e4⟩ := Lies.card (c := fun i => L.getD i cd0) HL.out ca hlt
      have HEC : Hid (∀ X, Below W.heap.size W X → X.cell? ⟨bx, ox, none⟩ = some (.int .i64 (L.getD i cd0).id) ∧ X.cell? ⟨bx, ox + 1, none⟩ = some (.int .i64 (L.getD i cd0).site) ∧ X.cell? ⟨bx, ox + 2, none⟩ = some (.int .i64 (L.getD i cd0).count) ∧ X.cell? ⟨bx, ox + 3, none⟩ = some (.bool (L.getD i cd0).gone) ∧ X.cell? ⟨bx, ox + 4, none⟩ = some (.string (L.getD i cd0).text)) := fun X hX => by
        have hxw : Below w.heap.size w X := HX0.out.2.1.trans (hX.mono HX0.out.2.1.size)
        exact ⟨(hxw.cell (p := ⟨bx, ox, none⟩) hbl).trans e0, (hxw.cell (p := ⟨bx, ox + 1, none⟩) hbl).trans e1, (hxw.cell (p := ⟨bx, ox + 2, none⟩) hbl).trans e2, (hxw.cell (p := ⟨bx, ox + 3, none⟩) hbl).trans e3, (hxw.cell (p := ⟨bx, ox + 4, none⟩) hbl).trans e4⟩
      have HT : Hid (runI Cd.id c (L.take (i + 1)) = stepI Cd.id c (runI Cd.id c (L.take i)) (L.getD i cd0)) := by show _ = _; rw [take_card L i hil, runI_snoc]
      clear e0 e1 e2 e3 e4 hil
      generalize L.getD i cd0 = x at *
      generalize runI Cd.id c (L.take i) = s at *
      obtain ⟨P, bl⟩ := s
      dsimp only at HNN hv HT ⊢
      have HALL : Hid (∀ X, Below wr.heap.size wr X → Vec X W.heap.size 69 5 ad N cap (ccells P) ∧ Below W.heap.size W X ∧ W.heap.size ≤ X.heap.size) := fun X h => ⟨hv.keep h, hb.trans (h.mono hb.size), Nat.le_trans hb.size h.size⟩
      obtain ⟨z0, z1, z2, z3, z4⟩ := HBC.out _ hb
      obtain ⟨e0, e1, e2, e3, e4⟩ := HEC.out _ hb
      clear hv hb
      cases bl with
      | true =>
        by_cases hne : x.id = c.id
        · have HR : Hid (runI Cd.id c (L.take (i + 1)) = (P, true)) := by show _ = _; rw [HT.out]; unfold stepI; rw [if_neg (by intro q; cases q.1)]; simp only; rw [if_pos hne]
          have hd2 : (x.id != c.id) = false := by rw [bne_eq_false_iff_eq]; exact hne
          clear HT hne
          go_wp2_with fail
          go_quiet (fail)
          generalize hX : wr.drewN _ = X
          have hbX : Below wr.heap.size wr X := by rw [← hX]; exact below_drewN (Below.refl _ _) _
          obtain ⟨hvX, hbwX, hzX⟩ := HALL.out X hbX
          clear hX HALL z0 z1 z2 z3 z4 e0 e1 e2 e3 e4
          obtain ⟨z0, z1, z2, z3, z4⟩ := HBC.out _ hbwX
          obtain ⟨e0, e1, e2, e3, e4⟩ := HEC.out _ hbwX
          have HALL : Hid (∀ Y, Below X.heap.size X Y → Vec Y W.heap.size 69 5 ad N cap (ccells P) ∧ Below W.heap.size W Y ∧ W.heap.size ≤ Y.heap.size) := fun Y h => ⟨hvX.keep h, hbwX.trans (h.mono hbwX.size), Nat.le_trans hbwX.size h.size⟩
          clear hvX hbX hbwX hzX
          go_wp2_with fail
          go_quiet (fail)
          generalize hY : X.drewN _ = Y
          have hbY : Below X.heap.size X Y := by rw [← hY]; exact below_drewN (Below.refl _ _) _
          obtain ⟨hvY, hbwY, hzY⟩ := HALL.out Y hbY
          clear hY HALL z0 z1 z2 z3 z4 e0 e1 e2 e3 e4
          obtain ⟨z0, z1, z2, z3, z4⟩ := HBC.out _ hbwY
          obtain ⟨e0, e1, e2, e3, e4⟩ := HEC.out _ hbwY
          go_wp2_with fail
          go_roundw
          case rel => exact ⟨i + 1, ad, cap, N, by omega, by go_num, rfl, by rw [HR.out], by rw [HR.out]; simp; have := HNN.out; omega, by rw [HR.out]; exact hvY, hbwY⟩
          case measure => simp [intOf]; omega
        · have HR : Hid (runI Cd.id c (L.take (i + 1)) = (P ++ [x], true)) := by show _ = _; rw [HT.out]; unfold stepI; rw [if_neg (by intro q; cases q.1)]; simp only; rw [if_neg hne]
          have hd2 : (x.id != c.id) = true := bne_iff_ne.mpr hne
          clear HT hne
          go_wp2_with fail
          go_quiet (fail)
          generalize hX : wr.drewN _ = X
          have hbX : Below wr.heap.size wr X := by rw [← hX]; exact below_drewN (Below.refl _ _) _
          obtain ⟨hvX, hbwX, hzX⟩ := HALL.out X hbX
          clear hX HALL z0 z1 z2 z3 z4 e0 e1 e2 e3 e4
          obtain ⟨z0, z1, z2, z3, z4⟩ := HBC.out _ hbwX
          obtain ⟨e0, e1, e2, e3, e4⟩ := HEC.out _ hbwX
          have HALL : Hid (∀ Y, Below X.heap.size X Y → Vec Y W.heap.size 69 5 ad N cap (ccells P) ∧ Below W.heap.size W Y ∧ W.heap.size ≤ Y.heap.size) := fun Y h => ⟨hvX.keep h, hbwX.trans (h.mono hbwX.size), Nat.le_trans hbwX.size h.size⟩
          clear hvX hbX hbwX hzX
          go_wp2_with fail
          go_quiet (fail)
          generalize hY : X.drewN _ = Y
          have hbY : Below X.heap.size X Y := by rw [← hY]; exact below_drewN (Below.refl _ _) _
          obtain ⟨hvY, hbwY, hzY⟩ := HALL.out Y hbY
          clear hY HALL z0 z1 z2 z3 z4 e0 e1 e2 e3 e4
          obtain ⟨z0, z1, z2, z3, z4⟩ := HBC.out _ hbwY
          obtain ⟨e0, e1, e2, e3, e4⟩ := HEC.out _ hbwY
          go_wp2_with (at_builtin; refine wpList_push (by rfl) _ _ 23 (by rfl) W.heap.size 69 5 48 (.agg #[.int .i64 0, .int .i64 0, .int .i64 0, .bool false, .string ⟨#[]⟩]) Try.underlying23 (by kernel_rfl) rfl (by decide) ad (N) cap _ (by rfl) (hvY.keep ((Below.refl _ _).alloc (Nat.le_refl _) _)) _ _ x.cells (by rfl) rfl ?_ ?_ ?_ ?_ ?_ ?_; exact new_cells _ _ _; exact ones2 _; (omega); (omega); (simp; omega); intro ad' cap' w' hv' hb' hs')
          go_roundw
          case rel => exact ⟨i + 1, ad', cap', N + 1, by omega, by go_num, rfl, by rw [HR.out], by rw [HR.out]; simp; have := HNN.out; omega, by rw [HR.out]; show Vec w' _ _ _ _ _ _ (ccells (P ++ [x])); rw [ccells_app]; simpa [ccells] using hv', (hbwY.alloc hzY _).trans hb'⟩
          case measure => simp [intOf]; omega
      | false =>
        by_cases hle : c.id ≤ x.id
        · by_cases hne : x.id = c.id
          · have HR : Hid (runI Cd.id c (L.take (i + 1)) = (P ++ [c], true)) := by show _ = _; rw [HT.out]; unfold stepI; rw [if_pos ⟨rfl, hle⟩]; simp only; rw [if_pos hne]
            have hd1 : decide (c.id ≤ x.id) = true := decide_eq_true hle
            have hd2 : (x.id != c.id) = false := by rw [bne_eq_false_iff_eq]; exact hne
            clear HT hle hne
            go_wp2_with fail
            go_quiet (fail)
            generalize hX : wr.drewN _ = X
            have hbX : Below wr.heap.size wr X := by rw [← hX]; exact below_drewN (Below.refl _ _) _
            obtain ⟨hvX, hbwX, hzX⟩ := HALL.out X hbX
            clear hX HALL z0 z1 z2 z3 z4 e0 e1 e2 e3 e4
            obtain ⟨z0, z1, z2, z3, z4⟩ := HBC.out _ hbwX
            obtain ⟨e0, e1, e2, e3, e4⟩ := HEC.out _ hbwX
            go_wp2_with (at_builtin; refine wpList_push (by rfl) _ _ 23 (by rfl) W.heap.size 69 5 48 (.agg #[.int .i64 0, .int .i64 0, .int .i64 0, .bool false, .string ⟨#[]⟩]) Try.underlying23 (by kernel_rfl) rfl (by decide) ad (N) cap _ (by rfl) (hvX.keep ((Below.refl _ _).alloc (Nat.le_refl _) _)) _ _ c.cells (by rfl) rfl ?_ ?_ ?_ ?_ ?_ ?_; exact new_cells _ _ _; exact ones2 _; (omega); (omega); (simp; omega); intro ad1 cap1 w1 hv1 hb1 hs1)
            rw [show ccells P ++ c.cells = ccells (P ++ [c]) by rw [ccells_app]; simp [ccells]] at hv1
            have hbw1 := (hbwX.alloc hzX _).trans hb1
            have HALL : Hid (∀ X, Below w1.heap.size w1 X → Vec X W.heap.size 69 5 ad1 (N + 1) cap1 (ccells (P ++ [c])) ∧ Below W.heap.size W X ∧ W.heap.size ≤ X.heap.size) := fun X h => ⟨hv1.keep h, hbw1.trans (h.mono hbw1.size), Nat.le_trans hbw1.size h.size⟩
            clear z0 z1 z2 z3 z4 e0 e1 e2 e3 e4
            obtain ⟨z0, z1, z2, z3, z4⟩ := HBC.out _ hbw1
            obtain ⟨e0, e1, e2, e3, e4⟩ := HEC.out _ hbw1
            clear hvX hbX hbwX hzX hv1 hb1 hs1 hbw1
            go_wp2_with fail
            go_quiet (fail)
            generalize hY : w1.drewN _ = Y
            have hbY : Below w1.heap.size w1 Y := by rw [← hY]; exact below_drewN (Below.refl _ _) _
            obtain ⟨hvY, hbwY, hzY⟩ := HALL.out Y hbY
            clear hY HALL z0 z1 z2 z3 z4 e0 e1 e2 e3 e4
            obtain ⟨z0, z1, z2, z3, z4⟩ := HBC.out _ hbwY
            obtain ⟨e0, e1, e2, e3, e4⟩ := HEC.out _ hbwY
            go_wp2_with fail
            go_roundw
            case rel => exact ⟨i + 1, ad1, cap1, N + 1, by omega, by go_num, rfl, by rw [HR.out], by rw [HR.out]; simp; have := HNN.out; omega, by rw [HR.out]; exact hvY, hbwY⟩
            case measure => simp [intOf]; omega
          · have HR : Hid (runI Cd.id c (L.take (i + 1)) = (P ++ [c] ++ [x], true)) := by show _ = _; rw [HT.out]; unfold stepI; rw [if_pos ⟨rfl, hle⟩]; simp only; rw [if_neg hne]
            have hd1 : decide (c.id ≤ x.id) = true := decide_eq_true hle
            have hd2 : (x.id != c.id) = true := bne_iff_ne.mpr hne
            clear HT hle hne
            go_wp2_with fail
            go_quiet (fail)
            generalize hX : wr.drewN _ = X
            have hbX : Below wr.heap.size wr X := by rw [← hX]; exact below_drewN (Below.refl _ _) _
            obtain ⟨hvX, hbwX, hzX⟩ := HALL.out X hbX
            clear hX HALL z0 z1 z2 z3 z4 e0 e1 e2 e3 e4
            obtain ⟨z0, z1, z2, z3, z4⟩ := HBC.out _ hbwX
            obtain ⟨e0, e1, e2, e3, e4⟩ := HEC.out _ hbwX
            go_wp2_with (at_builtin; refine wpList_push (by rfl) _ _ 23 (by rfl) W.heap.size 69 5 48 (.agg #[.int .i64 0, .int .i64 0, .int .i64 0, .bool false, .string ⟨#[]⟩]) Try.underlying23 (by kernel_rfl) rfl (by decide) ad (N) cap _ (by rfl) (hvX.keep ((Below.refl _ _).alloc (Nat.le_refl _) _)) _ _ c.cells (by rfl) rfl ?_ ?_ ?_ ?_ ?_ ?_; exact new_cells _ _ _; exact ones2 _; (omega); (omega); (simp; omega); intro ad1 cap1 w1 hv1 hb1 hs1)
            rw [show ccells P ++ c.cells = ccells (P ++ [c]) by rw [ccells_app]; simp [ccells]] at hv1
            have hbw1 := (hbwX.alloc hzX _).trans hb1
            have HALL : Hid (∀ X, Below w1.heap.size w1 X → Vec X W.heap.size 69 5 ad1 (N + 1) cap1 (ccells (P ++ [c])) ∧ Below W.heap.size W X ∧ W.heap.size ≤ X.heap.size) := fun X h => ⟨hv1.keep h, hbw1.trans (h.mono hbw1.size), Nat.le_trans hbw1.size h.size⟩
            clear z0 z1 z2 z3 z4 e0 e1 e2 e3 e4
            obtain ⟨z0, z1, z2, z3, z4⟩ := HBC.out _ hbw1
            obtain ⟨e0, e1, e2, e3, e4⟩ := HEC.out _ hbw1
            clear hvX hbX hbwX hzX hv1 hb1 hs1 hbw1
            go_wp2_with fail
            go_quiet (fail)
            generalize hY : w1.drewN _ = Y
            have hbY : Below w1.heap.size w1 Y := by rw [← hY]; exact below_drewN (Below.refl _ _) _
            obtain ⟨hvY, hbwY, hzY⟩ := HALL.out Y hbY
            clear hY HALL z0 z1 z2 z3 z4 e0 e1 e2 e3 e4
            obtain ⟨z0, z1, z2, z3, z4⟩ := HBC.out _ hbwY
            obtain ⟨e0, e1, e2, e3, e4⟩ := HEC.out _ hbwY
            go_wp2_with (at_builtin; refine wpList_push (by rfl) _ _ 23 (by rfl) W.heap.size 69 5 48 (.agg #[.int .i64 0, .int .i64 0, .int .i64 0, .bool false, .string ⟨#[]⟩]) Try.underlying23 (by kernel_rfl) rfl (by decide) ad1 (N + 1) cap1 _ (by rfl) (hvY.keep ((Below.refl _ _).alloc (Nat.le_refl _) _)) _ _ x.cells (by rfl) rfl ?_ ?_ ?_ ?_ ?_ ?_; exact new_cells _ _ _; exact ones2 _; (omega); (omega); (simp; omega); intro ad' cap' w' hv' hb' hs')
            go_roundw
            case rel => exact ⟨i + 1, ad', cap', N + 1 + 1, by omega, by go_num, rfl, by rw [HR.out], by rw [HR.out]; simp; have := HNN.out; omega, by rw [HR.out]; show Vec w' _ _ _ _ _ _ (ccells (P ++ [c] ++ [x])); rw [ccells_app]; simpa [ccells] using hv', (hbwY.alloc hzY _).trans hb'⟩
            case measure => simp [intOf]; omega
        · have hne : ¬ x.id = c.id := by omega
          have HR : Hid (runI Cd.id c (L.take (i + 1)) = (P ++ [x], false)) := by show _ = _; rw [HT.out]; unfold stepI; rw [if_neg (by intro q; exact hle q.2)]; simp only; rw [if_neg hne]
          have hd1 : decide (c.id ≤ x.id) = false := decide_eq_false hle
          have hd2 : (x.id != c.id) = true := bne_iff_ne.mpr hne
          clear HT hle hne
          go_wp2_with fail
          go_quiet (fail)
          generalize hX : wr.drewN _ = X
          have hbX : Below wr.heap.size wr X := by rw [← hX]; exact below_drewN (Below.refl _ _) _
          obtain ⟨hvX, hbwX, hzX⟩ := HALL.out X hbX
          clear hX HALL z0 z1 z2 z3 z4 e0 e1 e2 e3 e4
          obtain ⟨z0, z1, z2, z3, z4⟩ := HBC.out _ hbwX
          obtain ⟨e0, e1, e2, e3, e4⟩ := HEC.out _ hbwX
          have HALL : Hid (∀ Y, Below X.heap.size X Y → Vec Y W.heap.size 69 5 ad N cap (ccells P) ∧ Below W.heap.size W Y ∧ W.heap.size ≤ Y.heap.size) := fun Y h => ⟨hvX.keep h, hbwX.trans (h.mono hbwX.size), Nat.le_trans hbwX.size h.size⟩
          clear hvX hbX hbwX hzX
          go_wp2_with fail
          go_quiet (fail)
          generalize hY : X.drewN _ = Y
          have hbY : Below X.heap.size X Y := by rw [← hY]; exact below_drewN (Below.refl _ _) _
          obtain ⟨hvY, hbwY, hzY⟩ := HALL.out Y hbY
          clear hY HALL z0 z1 z2 z3 z4 e0 e1 e2 e3 e4
          obtain ⟨z0, z1, z2, z3, z4⟩ := HBC.out _ hbwY
          obtain ⟨e0, e1, e2, e3, e4⟩ := HEC.out _ hbwY
          go_wp2_with (at_builtin; refine wpList_push (by rfl) _ _ 23 (by rfl) W.heap.size 69 5 48 (.agg #[.int .i64 0, .int .i64 0, .int .i64 0, .bool false, .string ⟨#[]⟩]) Try.underlying23 (by kernel_rfl) rfl (by decide) ad (N) cap _ (by rfl) (hvY.keep ((Below.refl _ _).alloc (Nat.le_refl _) _)) _ _ x.cells (by rfl) rfl ?_ ?_ ?_ ?_ ?_ ?_; exact new_cells _ _ _; exact ones2 _; (omega); (omega); (simp; omega); intro ad' cap' w' hv' hb' hs')
          go_roundw
          case rel => exact ⟨i + 1, ad', cap', N + 1, by omega, by go_num, rfl, by rw [HR.out], by rw [HR.out]; simp; have := HNN.out; omega, by rw [HR.out]; show Vec w' _ _ _ _ _ _ (ccells (P ++ [x])); rw [ccells_app]; simpa [ccells] using hv', (hbwY.alloc hzY _).trans hb'⟩
          case measure => simp [intOf]; omega
    · obtain rfl : n = i := by omega
      have HTK : Hid (L.take n = L) := by show _ = _; rw [HN.out]; exact List.take_length
      rw [HTK.out] at hv HNN ⊢
      generalize runI Cd.id c L = s at *
      obtain ⟨P, bl⟩ := s
      dsimp only at HNN hv HF ⊢
      have hold := fun X (hX : Below W.heap.size W X) => HX0.out.2.1.trans (hX.mono HX0.out.2.1.size)
      have HOLD : Hid (∀ X, Below W.heap.size W X → Below w.heap.size w X) := hold
      have HW : Hid (w.heap.size ≤ W.heap.size) := HX0.out.2.1.size
      obtain ⟨z0, z1, z2, z3, z4⟩ := HBC.out _ hb
      clear hold
      cases bl with
      | true =>
        have HE : Hid (P = putK Cd.id (fun _ c => c) L c) := by show _ = _; rw [← HF.out]; rfl
        go_wp2_with fail
        go_ret
        exact ⟨ad, cap, N, rfl, by rw [← HE.out]; exact HNN.out, by rw [← HE.out]; exact hv.mono HW.out, HOLD.out _ hb⟩
      | false =>
        have HE : Hid (P ++ [c] = putK Cd.id (fun _ c => c) L c) := by show _ = _; rw [← HF.out]; rfl
        have hzz := hb.size
        have HBW : Hid (Below W.heap.size W wr) := hb
        clear hb
        go_wp2_with (at_builtin; refine wpList_push (by rfl) _ _ 23 (by rfl) W.heap.size 69 5 48 (.agg #[.int .i64 0, .int .i64 0, .int .i64 0, .bool false, .string ⟨#[]⟩]) Try.underlying23 (by kernel_rfl) rfl (by decide) ad (N) cap _ (by rfl) (hv.keep ((Below.refl _ _).alloc (Nat.le_refl _) _)) _ _ c.cells (by rfl) rfl ?_ ?_ ?_ ?_ ?_ ?_; exact new_cells _ _ _; exact ones2 _; (omega); (omega); (simp; omega); intro ad' cap' w' hv' hb' hs')
        go_ret
        exact ⟨ad', cap', N + 1, rfl, by rw [← HE.out, List.length_append, ← HNN.out]; rfl, by rw [← HE.out, ccells_app]; exact (by simpa [ccells] using hv' : Vec w' W.heap.size 69 5 ad' (N + 1) cap' (ccells P ++ ccells [c])).mono HW.out, HOLD.out _ ((HBW.out.alloc hzz _).trans hb')⟩
end Go.Proofs.Ytdjpkgaicmklmaa

/- The reference's joined: walked. -/
namespace Go.Proofs.Ytdjpkgaicmklmaa
open Go.RowKit

theorem both_snoc (a b : List Ed) (e : Ed) : bothE a (b ++ [e]) = if e ∈ bothE a b then bothE a b else bothE a b ++ [e] := by
  unfold bothE; rw [List.foldl_append]; rfl
theorem range_ecells (E : List Ed) : ((List.range E.length).map fun i => (E.getD i ed0).cells).flatten = ecells E := by
  unfold ecells
  congr 1
  apply List.ext_getElem?
  intro i
  by_cases hi : i < E.length
  · simp [hi]
  · simp [hi]
theorem take_edit (E : List Ed) (i : Nat) (h : i < E.length) : E.take (i + 1) = E.take i ++ [E.getD i ed0] := by
  rw [List.take_succ_eq_append_getElem h, List.getD_eq_getElem?_getD, List.getElem?_eq_getElem h]; rfl
theorem ones_ed (x : Ed) : ∀ u, u ∈ x.cells → u.oneCell' = true := ones3 x

set_option maxRecDepth 100000 in
set_option maxHeartbeats 4000000 in
theorem rjoined_any (EA EB : List Ed) (a b : Option Addr) (n m ca cb : Nat) (w : World) (hA : Lies w a n 2 (fun i => (EA.getD i ed0).cells)) (hB : Lies w b m 2 (fun i => (EB.getD i ed0).cells)) (hn : n = EA.length) (hm : m = EB.length) (hn2 : n ≤ 1000) (hm2 : m ≤ 1000) :
    Calls Try.prog 106 #[.slice a n ca, .slice b m cb] w fun e w' => ∃ ad cap N, e = .returned (.slice ad N cap) ∧ N = (bothE EA EB).length ∧ Vec w' w.heap.size 71 2 ad N cap (ecells (bothE EA EB)) ∧ Below w.heap.size w w' := by
  have HN : Hid (n = EA.length) := hn
  have HM : Hid (m = EB.length) := hm
  have HA : Hid (Lies w a n 2 (fun i => (EA.getD i ed0).cells)) := hA
  have HB : Hid (Lies w b m 2 (fun i => (EB.getD i ed0).cells)) := hB
  clear hn hm hA hB
  go_enter Try.func106, Try.ntmps106
  go_wp2_with (at_builtin; refine wpList_pushAll (by rfl) _ _ 24 (by rfl) w.heap.size 71 2 24 (.agg #[.int .i64 0, .string ⟨#[]⟩]) Try.underlying24 (by kernel_rfl) rfl (by decide) none 0 0 [] (by rfl) (Vec.nil _ _ _ _) a n ca (fun i => (EA.getD i ed0).cells) (by rfl) HA.out (fun _ _ => rfl) (fun j _ => ones_ed _) ?_ ?_ ?_ n ?_ ?_; (omega); (omega); (exact Nat.le_refl _); (omega); intro ad1 cap1 w1 hv1 hb1 hs1)
  rw [List.nil_append, HN.out, range_ecells, ← HN.out] at hv1
  have HV1 : Hid (Vec w1 w.heap.size 71 2 ad1 n cap1 (ecells EA)) := hv1
  have HB1 : Hid (Below w.heap.size w w1) := hb1
  clear hv1 hb1 hs1
  go_loopw [5, 6, 7, 8] (fun v u _ _ wr => ∃ (i : Nat) (ad : Option Addr) (cap N : Nat), i ≤ m ∧ u = .int .i64 i ∧ v = .slice ad N cap ∧ N = (bothE EA (EB.take i)).length ∧ N ≤ 2000 ∧ Vec wr w.heap.size 71 2 ad N cap (ecells (bothE EA (EB.take i))) ∧ Below w.heap.size w wr) (fun _ u _ _ _ => m - (intOf u).toNat)
  case atStart => exact ⟨0, ad1, cap1, n, by omega, rfl, rfl, by simpa [bothE] using HN.out, by omega, by simpa [bothE] using HV1.out, HB1.out⟩
  case round =>
    obtain ⟨i, ad, cap, N, hi, rfl, rfl, hN, hN2, hv, hbw⟩ := hrel
    have HNN : Hid (N = (bothE EA (EB.take i)).length) := hN
    have HNB : Hid (N ≤ n + m) := by show _ ≤ _; have := both_len (EB.take i) EA; rw [hN, HN.out, HM.out]; simp at this; omega
    clear hN
    by_cases hlt : i < m
    · have hil : i < EB.length := by rw [← HM.out]; exact hlt
      have HT : Hid (bothE EA (EB.take (i + 1)) = if EB.getD i ed0 ∈ bothE EA (EB.take i) then bothE EA (EB.take i) else bothE EA (EB.take i) ++ [EB.getD i ed0]) := by
        show _ = _; rw [take_edit EB i hil, both_snoc]
      obtain ⟨bb, ob, hblb, hixb, e0, e1⟩ := Lies.edit (c := fun i => EB.getD i ed0) (HB.out.below hbw) cb hlt
      have HLV : Hid (Lies wr ad N 2 (fun i => ((bothE EA (EB.take i)).getD i ed0).cells) ∨ True) := Or.inr trivial
      generalize hL : bothE EA (EB.take i) = L at *
      have HL : Hid (Lies wr ad N 2 (fun k => (L.getD k ed0).cells)) := evec_lies hv HNN.out.symm
      generalize EB.getD i ed0 = ee at *
      clear hL HLV hil
      have HV5 : Hid (Vec wr w.heap.size 71 2 ad N cap (ecells L)) := hv
      have HBW : Hid (Below w.heap.size w wr) := hbw
      clear hv hbw
      generalize hwr : wr = w5 at *
      clear hwr
      go_wp2_with fail
      go_loopw [7, 8] (fun t u w2 => ∃ (k : Nat), k ≤ N ∧ u = .int .i64 k ∧ t = .bool (decide (ee ∈ L.take k)) ∧ Below w5.heap.size w5 w2) (fun _ u _ => N - (intOf u).toNat)
      case atStart => exact ⟨0, by omega, rfl, by simp, Below.refl _ _⟩
      case round =>
        obtain ⟨k, hk, rfl, rfl, hb2⟩ := hrel
        have f0 : wr.cell? ⟨bb, ob, none⟩ = some (.int .i64 ee.id) := (hb2.cell (p := ⟨bb, ob, none⟩) hblb).trans e0
        have f1 : wr.cell? ⟨bb, ob + 1, none⟩ = some (.string ee.text) := (hb2.cell (p := ⟨bb, ob + 1, none⟩) hblb).trans e1
        by_cases hlt2 : k < N
        · have hkl : k < L.length := by rw [← HNN.out]; exact hlt2
          have HTK : Hid (L.take (k + 1) = L.take k ++ [L.getD k ed0]) := take_edit L k hkl
          obtain ⟨bo, oo, hblo, hixo, g0, g1⟩ := Lies.edit (c := fun i => L.getD i ed0) (HL.out.below hb2) cap hlt2
          clear hkl
          generalize L.getD k ed0 = le at *
          cases hth : decide (ee ∈ L.take k) with
          | true =>
            have HD : Hid (decide (ee ∈ L.take (k + 1)) = true) := by
              have h : ee ∈ L.take k := of_decide_eq_true hth
              show _ = _; rw [HTK.out]; simp [h]
            clear hth
            go_wp2_with fail
            go_quiet (fail)
            go_wp2_with fail
            go_roundw
            case rel => exact ⟨k + 1, by omega, by go_num, by rw [HD.out], below_drewN hb2 _⟩
            case measure => simp [intOf]; omega
          | false =>
            have hno : ¬ ee ∈ L.take k := of_decide_eq_false hth
            by_cases heq : le = ee
            · have HD : Hid (decide (ee ∈ L.take (k + 1)) = true) := by show _ = _; rw [HTK.out, heq]; simp
              rw [heq] at g0 g1
              clear hth hno heq
              go_wp2_with fail
              go_quiet (fail)
              go_wp2_with fail
              go_roundw
              case rel => exact ⟨k + 1, by omega, by go_num, by rw [HD.out], below_drewN hb2 _⟩
              case measure => simp [intOf]; omega
            · have HD : Hid (decide (ee ∈ L.take (k + 1)) = false) := by
                show _ = _; rw [HTK.out, decide_eq_false_iff_not]
                simp only [List.mem_append, List.mem_singleton]
                rintro (h | h)
                · exact hno h
                · exact heq h.symm
              have hne := ed_ne heq
              clear hth hno heq
              rcases hne with hne | ⟨r1, hne⟩
              · have hq : (le.id == ee.id) = false := by rw [beq_eq_false_iff_ne]; exact hne
                clear hne
                go_wp2_with fail
                go_quiet (fail)
                go_wp2_with fail
                go_roundw
                case rel => exact ⟨k + 1, by omega, by go_num, by rw [HD.out], below_drewN hb2 _⟩
                case measure => simp [intOf]; omega
              · rw [r1] at g0
                have hnb := ba_beq hne
                have hnl := bl_beq hne
                clear hne r1
                go_wp2_with fail
                go_quiet (fail)
                go_wp2_with fail
                go_roundw
                case rel => exact ⟨k + 1, by omega, by go_num, by rw [HD.out], below_drewN hb2 _⟩
                case measure => simp [intOf]; omega
        · obtain rfl : N = k := by omega
          have HTL : Hid (L.take N = L) := by show _ = _; rw [HNN.out]; exact List.take_length
          have hv2 := HV5.out.keep hb2
          have hbw2 := HBW.out.trans (hb2.mono HBW.out.size)
          have hz2 := hbw2.size
          have HB2 : Hid (Below w5.heap.size w5 wr) := hb2
          clear hb2
          cases hth : decide (ee ∈ L.take N) with
          | true =>
            have HE : Hid (bothE EA (EB.take (i + 1)) = L) := by
              have h : ee ∈ L.take N := of_decide_eq_true hth
              rw [HTL.out] at h
              show _ = _; rw [HT.out, if_pos h]
            clear hth
            go_wp2_with fail
            go_roundw
            case rel => exact ⟨i + 1, ad, cap, N, by omega, by go_num, rfl, by rw [HE.out]; exact HNN.out, by omega, by rw [HE.out]; exact hv2, hbw2⟩
            case measure => simp [intOf]; omega
          | false =>
            have HE : Hid (bothE EA (EB.take (i + 1)) = L ++ [ee]) := by
              have h : ¬ ee ∈ L.take N := of_decide_eq_false hth
              rw [HTL.out] at h
              show _ = _; rw [HT.out, if_neg h]
            have HN3 : Hid (N + 1 ≤ 2000) := by
              have h1 := both_len (EB.take (i + 1)) EA
              rw [HE.out] at h1
              simp at h1
              have := HNN.out; have := HN.out; have := HM.out
              show _ ≤ _; omega
            have hN4 := HN3.out
            clear hth
            go_wp2_with (at_builtin; refine wpList_push (by rfl) _ _ 24 (by rfl) w.heap.size 71 2 24 (.agg #[.int .i64 0, .string ⟨#[]⟩]) Try.underlying24 (by kernel_rfl) rfl (by decide) ad N cap _ (by rfl) (hv2.keep ((Below.refl _ _).alloc (Nat.le_refl _) _)) _ _ ee.cells (by rfl) rfl ?_ ?_ ?_ ?_ ?_ ?_; exact new_cells _ _ _; exact ones3 _; (omega); (omega); (simp; omega); intro ad' cap' w' hv' hb' hs')
            go_roundw
            case rel => exact ⟨i + 1, ad', cap', N + 1, by omega, by go_num, rfl, by rw [HE.out, List.length_append, ← HNN.out]; rfl, by omega, by rw [HE.out, ecells_app]; simpa [ecells] using hv', (hbw2.alloc hz2 _).trans hb'⟩
            case measure => simp [intOf]; omega
    · obtain rfl : m = i := by omega
      have HE : Hid (bothE EA (EB.take m) = bothE EA EB) := by show _ = _; rw [HM.out, List.take_length]
      go_wp2_with fail
      go_ret
      exact ⟨ad, cap, N, rfl, by rw [← HE.out]; exact HNN.out, by rw [← HE.out]; exact hv, hbw⟩
end Go.Proofs.Ytdjpkgaicmklmaa

/- hasEdit, mergedEdits, sameCard, Clashing of the program: walked. -/
namespace Go.Proofs.Ytdjpkgaicmklmaa
open Go.RowKit

abbrev edV (x : Ed) : Value := .agg #[.int .i64 x.id, .string x.text]

set_option maxRecDepth 100000 in
set_option maxHeartbeats 4000000 in
theorem hasEdit_any (L : List Ed) (x : Ed) (a : Option Addr) (n ca : Nat) (w : World) (hL : Lies w a n 2 (fun i => (L.getD i ed0).cells)) (hn : n = L.length) (hn2 : n ≤ 1099511627776) :
    Calls Try.prog 154 #[.slice a n ca, edV x] w fun e w' => e = .returned (.bool (decide (x ∈ L))) ∧ Below w.heap.size w w' := by
  obtain ⟨hX, hsz, hbb⟩ := one_box w 71 x.cells.toArray
  have HN : Hid (n = L.length) := hn
  have HL : Hid (Lies w a n 2 (fun i => (L.getD i ed0).cells)) := hL
  have HX0 : Hid (Bx (w.alloc (.cells x.cells.toArray 71)) w.heap.size 71 x.cells) := hX
  have HB0 : Hid (Below w.heap.size w (w.alloc (.cells x.cells.toArray 71))) := hbb
  clear hn hL hX hsz hbb
  go_enter Try.func154, Try.ntmps154
  go_wp2_with fail
  go_loopw [5] (fun u wr => ∃ k : Nat, k ≤ n ∧ u = .int .i64 k ∧ ¬ x ∈ L.take k ∧ Bx wr w.heap.size 71 x.cells ∧ Below w.heap.size w wr) (fun u _ => n - (intOf u).toNat)
  case atStart => exact ⟨0, Nat.zero_le _, rfl, by simp, HX0.out, HB0.out⟩
  case round =>
    clear HX0 HB0
    obtain ⟨k, hk, rfl, hno, hx, hb⟩ := hrel
    have HNO : Hid (¬ x ∈ L.take k) := hno
    clear hno
    have x0 := hx.cell 0; have x1 := hx.cell 1
    dsimp only [List.getElem?_cons_zero, List.getElem?_cons_succ] at x0 x1
    by_cases hlt : k < n
    · have hkl : k < L.length := by rw [← HN.out]; exact hlt
      have HTK : Hid (L.take (k + 1) = L.take k ++ [L.getD k ed0]) := take_edit L k hkl
      have HMM : Hid (L.getD k ed0 ∈ L) := getD_mem hkl
      obtain ⟨bo, oo, hblo, hixo, g0, g1⟩ := Lies.edit (c := fun i => L.getD i ed0) (HL.out.below hb) ca hlt
      have HBX : Hid (∀ q, Bx (wr.drewN q) w.heap.size 71 x.cells ∧ Below w.heap.size w (wr.drewN q)) := fun q => ⟨hx.drewN q, below_drewN hb q⟩
      clear hkl hx hb
      generalize L.getD k ed0 = le at *
      by_cases heq : le = x
      · have HD : Hid (decide (x ∈ L) = true) := by rw [heq] at HMM; show _ = _; rw [decide_eq_true_iff]; exact HMM.out
        rw [heq] at g0 g1
        clear heq
        go_wp2_with fail
        go_quiet (fail)
        go_wp2_with fail
        go_ret
        exact ⟨by rw [HD.out]; rfl, (HBX.out _).2⟩
      · have HD : Hid (¬ x ∈ L.take (k + 1)) := by
          show ¬ _; rw [HTK.out]
          simp only [List.mem_append, List.mem_singleton]
          rintro (h | h)
          · exact HNO.out h
          · exact heq h.symm
        have hne := ed_ne heq
        clear heq
        rcases hne with hne | ⟨r1, hne⟩
        · have hq : (le.id == x.id) = false := by rw [beq_eq_false_iff_ne]; exact hne
          clear hne
          go_wp2_with fail
          go_quiet (fail)
          go_wp2_with fail
          go_roundw
          case rel => exact ⟨k + 1, by omega, by go_num, HD.out, (HBX.out _).1, (HBX.out _).2⟩
          case measure => simp [intOf]; omega
        · rw [r1] at g0
          have hnb := ba_beq hne
          have hnl := bl_beq hne
          clear hne r1
          go_wp2_with fail
          go_quiet (fail)
          go_wp2_with fail
          go_roundw
          case rel => exact ⟨k + 1, by omega, by go_num, HD.out, (HBX.out _).1, (HBX.out _).2⟩
          case measure => simp [intOf]; omega
    · obtain rfl : n = k := by omega
      have HD : Hid (decide (x ∈ L) = false) := by
        have h := HNO.out
        rw [HN.out, List.take_length] at h
        show _ = _; rw [decide_eq_false_iff_not]; exact h
      go_wp2_with fail
      go_ret
      exact ⟨by rw [HD.out]; rfl, hb⟩

set_option maxRecDepth 100000 in
set_option maxHeartbeats 4000000 in
theorem mergedEdits_any (EA EB : List Ed) (a b : Option Addr) (n m ca cb : Nat) (w : World) (hA : Lies w a n 2 (fun i => (EA.getD i ed0).cells)) (hB : Lies w b m 2 (fun i => (EB.getD i ed0).cells)) (hn : n = EA.length) (hm : m = EB.length) (hn2 : n ≤ 274877906944) (hm2 : m ≤ 274877906944) :
    Calls Try.prog 139 #[.slice a n ca, .slice b m cb] w fun e w' => ∃ ad cap N, e = .returned (.slice ad N cap) ∧ N = (bothE EA EB).length ∧ Vec w' w.heap.size 71 2 ad N cap (ecells (bothE EA EB)) ∧ Below w.heap.size w w' := by
  have hV0 : Hid (Vec (w.alloc (.cells #[] 71)) w.heap.size 71 2 (some ⟨w.heap.size, 0, none⟩) 0 0 []) := Vec.lit w w.heap.size 71 2 0 [] (Nat.le_refl _) (by omega) rfl
  have HN : Hid (n = EA.length) := hn
  have HM : Hid (m = EB.length) := hm
  have HA : Hid (Lies w a n 2 (fun i => (EA.getD i ed0).cells)) := hA
  have HB : Hid (Lies w b m 2 (fun i => (EB.getD i ed0).cells)) := hB
  have HA2 : Hid (Lies (w.alloc (.cells #[] 71)) a n 2 (fun i => (EA.getD i ed0).cells)) := hA.below ((Below.refl _ _).alloc (Nat.le_refl _) _)
  have HSZ : Hid (w.heap.size ≤ (w.alloc (.cells #[] 71)).heap.size) := by show _ ≤ _; simp
  clear hn hm hA hB
  go_enter Try.func139, Try.ntmps139
  go_wp2_with (at_builtin; refine wpList_pushAll (by rfl) _ _ 24 (by rfl) w.heap.size 71 2 24 (.agg #[.int .i64 0, .string ⟨#[]⟩]) Try.underlying24 (by kernel_rfl) rfl (by decide) _ 0 0 [] (by rfl) hV0.out a n ca (fun i => (EA.getD i ed0).cells) (by rfl) HA2.out (fun _ _ => rfl) (fun j _ => ones_ed _) ?_ ?_ ?_ n ?_ ?_; (omega); (omega); (exact HSZ.out); (omega); intro ad1 cap1 w1 hv1 hb1 hs1)
  rw [List.nil_append, HN.out, range_ecells, ← HN.out] at hv1
  have HV1 : Hid (Vec w1 w.heap.size 71 2 ad1 n cap1 (ecells EA)) := hv1
  have HB1 : Hid (Below w.heap.size w w1) := ((Below.refl _ w).alloc (Nat.le_refl _) _).trans hb1
  clear hv1 hb1 hs1 hV0
  go_loopw [5, 6] (fun v u wr => ∃ (i : Nat) (ad : Option Addr) (cap N : Nat), i ≤ m ∧ u = .int .i64 i ∧ v = .slice ad N cap ∧ N = (bothE EA (EB.take i)).length ∧ N ≤ n + i ∧ Vec wr w.heap.size 71 2 ad N cap (ecells (bothE EA (EB.take i))) ∧ Below w.heap.size w wr) (fun _ u _ => m - (intOf u).toNat)
  case atStart => exact ⟨0, ad1, cap1, n, by omega, rfl, rfl, by simpa [bothE] using HN.out, by omega, by simpa [bothE] using HV1.out, HB1.out⟩
  case round =>
    clear HV1 HB1
    obtain ⟨i, ad, cap, N, hi, rfl, rfl, hN, hN2, hv, hbw⟩ := hrel
    have HNN : Hid (N = (bothE EA (EB.take i)).length) := hN
    clear hN
    by_cases hlt : i < m
    · have hil : i < EB.length := by rw [← HM.out]; exact hlt
      have HT : Hid (bothE EA (EB.take (i + 1)) = if EB.getD i ed0 ∈ bothE EA (EB.take i) then bothE EA (EB.take i) else bothE EA (EB.take i) ++ [EB.getD i ed0]) := by
        show _ = _; rw [take_edit EB i hil, both_snoc]
      obtain ⟨bb, ob, hblb, hixb, e0, e1⟩ := Lies.edit (c := fun i => EB.getD i ed0) (HB.out.below hbw) cb hlt
      generalize hL : bothE EA (EB.take i) = L at *
      have HL : Hid (Lies wr ad N 2 (fun k => (L.getD k ed0).cells)) := evec_lies hv HNN.out.symm
      generalize EB.getD i ed0 = ee at *
      clear hL hil
      go_wp2_with fail
      refine (hasEdit_any L ee ad N cap _ HL.out HNN.out (by omega)).mono ?_
      rintro e w1 ⟨rfl, hb1⟩
      have hv1 := hv.keep hb1
      have hbw1 := hbw.trans (hb1.mono hbw.size)
      have hz1 := hbw1.size
      replace e0 := (hb1.cell (p := ⟨bb, ob, none⟩) hblb).trans e0
      replace e1 := (hb1.cell (p := ⟨bb, ob + 1, none⟩) hblb).trans e1
      clear hv hbw hb1
      by_cases hth : ee ∈ L
      · rw [if_pos hth] at HT
        have hd : decide (ee ∈ L) = true := by simp [hth]
        rw [hd]
        clear hth hd
        go_wp2_with fail
        go_roundw
        case rel => exact ⟨i + 1, ad, cap, N, by omega, by go_num, rfl, by rw [HT.out]; exact HNN.out, by omega, by rw [HT.out]; exact hv1, hbw1⟩
        case measure => simp [intOf]; omega
      · rw [if_neg hth] at HT
        have hd : decide (ee ∈ L) = false := by simp [hth]
        rw [hd]
        clear hth hd
        go_wp2_with (at_builtin; refine wpList_push (by rfl) _ _ 24 (by rfl) w.heap.size 71 2 24 (.agg #[.int .i64 0, .string ⟨#[]⟩]) Try.underlying24 (by kernel_rfl) rfl (by decide) ad N cap _ (by rfl) (hv1.keep ((Below.refl _ _).alloc (Nat.le_refl _) _)) _ _ ee.cells (by rfl) rfl ?_ ?_ ?_ ?_ ?_ ?_; exact new_cells _ _ _; exact ones3 _; (omega); (omega); (simp; omega); intro ad' cap' w' hv' hb' hs')
        go_roundw
        case rel => exact ⟨i + 1, ad', cap', N + 1, by omega, by go_num, rfl, by rw [HT.out, List.length_append, ← HNN.out]; rfl, by omega, by rw [HT.out, ecells_app]; simpa [ecells] using hv', (hbw1.alloc hz1 _).trans hb'⟩
        case measure => simp [intOf]; omega
    · obtain rfl : m = i := by omega
      have HE : Hid (bothE EA (EB.take m) = bothE EA EB) := by show _ = _; rw [HM.out, List.take_length]
      go_wp2_with fail
      go_ret
      exact ⟨ad, cap, N, rfl, by rw [← HE.out]; exact HNN.out, by rw [← HE.out]; exact hv, hbw⟩

set_option maxRecDepth 100000 in
set_option maxHeartbeats 4000000 in
theorem sameCard_any (x y : Cd) (w : World) :
    Calls Try.prog 136 #[cdV x, cdV y] w fun e w' => e = .returned (.bool (decide (x = y))) ∧ Below w.heap.size w w' := by
  obtain ⟨hA, hB, hs, hb⟩ := two_boxes w 69 69 x.cells.toArray y.cells.toArray
  have a0 := hA.cell 0; have a1 := hA.cell 1; have a2 := hA.cell 2; have a3 := hA.cell 3; have a4 := hA.cell 4
  have b0 := hB.cell 0; have b1 := hB.cell 1; have b2 := hB.cell 2; have b3 := hB.cell 3; have b4 := hB.cell 4
  dsimp only [List.getElem?_cons_zero, List.getElem?_cons_succ] at a0 a1 a2 a3 a4 b0 b1 b2 b3 b4
  have HBL : Hid (Below w.heap.size w ((w.alloc (.cells x.cells.toArray 69)).alloc (.cells y.cells.toArray 69))) := hb
  have HST : Hid (stampB x y = (x.site == y.site && x.count == y.count)) := rfl
  have HA : Hid (∀ w', Below ((w.alloc (.cells x.cells.toArray 69)).alloc (.cells y.cells.toArray 69)).heap.size ((w.alloc (.cells x.cells.toArray 69)).alloc (.cells y.cells.toArray 69)) w' → (w'.cell? ⟨w.heap.size, 3, none⟩ = some (.bool x.gone) ∧ w'.cell? ⟨w.heap.size, 4, none⟩ = some (.string x.text)) ∧ (w'.cell? ⟨w.heap.size + 1, 3, none⟩ = some (.bool y.gone) ∧ w'.cell? ⟨w.heap.size + 1, 4, none⟩ = some (.string y.text)) ∧ Below w.heap.size w w') := fun w' h =>
    ⟨⟨(hA.below h hA.lt).cell 3, (hA.below h hA.lt).cell 4⟩, ⟨(hB.below h hB.lt).cell 3, (hB.below h hB.lt).cell 4⟩, hb.trans (h.mono hb.size)⟩
  clear hA hB hs hb
  by_cases he : x = y
  · subst he
    have HS2 : Hid (stampB x x = true) := by show _ = _; rw [HST.out]; simp
    clear HST
    go_enter Try.func136, Try.ntmps136
    go_wp2_with fail
    refine (sameStamp_any x x _).mono ?_
    rintro e w1 ⟨rfl, hb1⟩
    rw [HS2.out]
    obtain ⟨⟨p3, p4⟩, ⟨q3, q4⟩, hbw⟩ := HA.out w1 hb1
    clear hb1
    go_wp2_with fail
    go_ret
    exact ⟨by simp, hbw⟩
  · have HD : Hid (decide (x = y) = false) := by show _ = _; simp [he]
    have hne := cd_ne he
    clear he
    rcases hne with hne | ⟨r1, hne⟩ | ⟨r1, r2, hne⟩ | ⟨r1, r2, r3, hne⟩ | ⟨r1, r2, r3, r4, hne⟩
    · have qi : (x.id == y.id) = false := by rw [beq_eq_false_iff_ne]; exact hne
      clear hne HST
      go_enter Try.func136, Try.ntmps136
      go_wp2_with fail
      go_ret
      exact ⟨by rw [HD.out]; rfl, HBL.out⟩
    · have qi : (x.id == y.id) = true := by simp [r1]
      have HS2 : Hid (stampB x y = false) := by show _ = _; rw [HST.out]; simp [hne]
      clear hne HST r1
      go_enter Try.func136, Try.ntmps136
      go_wp2_with fail
      refine (sameStamp_any x y _).mono ?_
      rintro e w1 ⟨rfl, hb1⟩
      rw [HS2.out]
      obtain ⟨⟨p3, p4⟩, ⟨q3, q4⟩, hbw⟩ := HA.out w1 hb1
      clear hb1
      go_wp2_with fail
      go_ret
      exact ⟨by rw [HD.out]; rfl, hbw⟩
    · have qi : (x.id == y.id) = true := by simp [r1]
      have HS2 : Hid (stampB x y = false) := by show _ = _; rw [HST.out]; simp [hne]
      clear hne HST r1 r2
      go_enter Try.func136, Try.ntmps136
      go_wp2_with fail
      refine (sameStamp_any x y _).mono ?_
      rintro e w1 ⟨rfl, hb1⟩
      rw [HS2.out]
      obtain ⟨⟨p3, p4⟩, ⟨q3, q4⟩, hbw⟩ := HA.out w1 hb1
      clear hb1
      go_wp2_with fail
      go_ret
      exact ⟨by rw [HD.out]; rfl, hbw⟩
    · have qi : (x.id == y.id) = true := by simp [r1]
      have qg : (x.gone == y.gone) = false := by rw [beq_eq_false_iff_ne]; exact hne
      have HS2 : Hid (stampB x y = true) := by show _ = _; rw [HST.out]; simp [r2, r3]
      clear hne HST r1 r2 r3
      go_enter Try.func136, Try.ntmps136
      go_wp2_with fail
      refine (sameStamp_any x y _).mono ?_
      rintro e w1 ⟨rfl, hb1⟩
      rw [HS2.out]
      obtain ⟨⟨p3, p4⟩, ⟨q3, q4⟩, hbw⟩ := HA.out w1 hb1
      clear hb1
      go_wp2_with fail
      go_ret
      exact ⟨by rw [HD.out]; rfl, hbw⟩
    · have qi : (x.id == y.id) = true := by simp [r1]
      have qg : (x.gone == y.gone) = true := by simp [r4]
      have hnb := ba_beq hne
      have hnl := bl_beq hne
      have HS2 : Hid (stampB x y = true) := by show _ = _; rw [HST.out]; simp [r2, r3]
      clear hne HST r1 r2 r3 r4
      go_enter Try.func136, Try.ntmps136
      go_wp2_with fail
      refine (sameStamp_any x y _).mono ?_
      rintro e w1 ⟨rfl, hb1⟩
      rw [HS2.out]
      obtain ⟨⟨p3, p4⟩, ⟨q3, q4⟩, hbw⟩ := HA.out w1 hb1
      clear hb1
      go_wp2_with fail
      go_ret
      exact ⟨by rw [HD.out]; rfl, hbw⟩
end Go.Proofs.Ytdjpkgaicmklmaa

/- What the walks of the merges share. -/
namespace Go.Proofs.Ytdjpkgaicmklmaa
open Go.RowKit

/-- What Merge answers. -/
def MergeAns (x : Ans) (Bs : Nat) (e : Ending) (w' : World) : Prop := ∃ a1 n1 c1 a2 n2 c2 a3 n3 c3, e = .returned (.tuple #[.agg #[.slice a1 n1 c1, .slice a2 n2 c2, .slice a3 n3 c3], .int .i64 x.err]) ∧ Lists w' Bs x.K x.C x.E a1 n1 c1 a2 n2 c2 a3 n3 c3
theorem tri_chk (R : Rep) : R.tri.rep.chk = R.chk := (same_lists R).chk
/-- Two replicas that were handed in, and the result's variable. -/
structure M3 (w : World) (x y z : List Value) (wr : World) : Prop where
  a : Bx wr w.heap.size 26 x
  b : Bx wr (w.heap.size + 1) 26 y
  r : Bx wr (w.heap.size + 2) 26 z
  sz : w.heap.size + 3 ≤ wr.heap.size
  old : Below w.heap.size w wr
theorem M3.step {w : World} {x y z : List Value} {wr w' : World} (h : M3 w x y z wr) (hb : Below wr.heap.size wr w') : M3 w x y z w' :=
  ⟨h.a.below hb h.a.lt, h.b.below hb h.b.lt, h.r.below hb h.r.lt, Nat.le_trans h.sz hb.size, h.old.trans (hb.mono h.old.size)⟩
theorem M3.start (w : World) (x y z : Array Value) : M3 w x.toList y.toList z.toList (((w.alloc (.cells x 26)).alloc (.cells y 26)).alloc (.cells z 26)) := by
  obtain ⟨h1, h2, h3, h4⟩ := two_boxes w 26 26 x y
  have h5 := Bx.new ((w.alloc (.cells x 26)).alloc (.cells y 26)) 26 z
  rw [h3] at h5
  refine ⟨h1.alloc _, h2.alloc _, h5, ?_, h4.alloc h4.size _⟩
  show ((((w.alloc (.cells x 26)).alloc (.cells y 26)).heap.push _).size) ≥ _
  simp [h3]
theorem M3.put {w : World} {x y z z' : List Value} {wr w' : World} (h : M3 w x y z wr) (hu : Upd (w.heap.size + 2) wr w') (hr : Bx w' (w.heap.size + 2) 26 z') : M3 w x y z' w' :=
  ⟨h.a.upd hu (by omega), h.b.upd hu (by omega), hr, by rw [hu.size]; exact h.sz, hu.below h.old (by omega)⟩
theorem out_keep {Y w' : World} {cs : Array Value} {t : TypeId} (hb : Below (Y.alloc (.cells cs t)).heap.size (Y.alloc (.cells cs t)) w') : Bx w' Y.heap.size t cs.toList := (Bx.new Y t cs).below hb (Bx.new Y t cs).lt
theorem out_keep2 {Y w' : World} {cs : Array Value} {t : TypeId} (hb : Below (Y.alloc (.cells cs t)).drew.heap.size (Y.alloc (.cells cs t)).drew w') : Bx w' Y.heap.size t cs.toList := ((Bx.new Y t cs).drewN 1).below hb (Bx.new Y t cs).lt
theorem clash_no {a b : List Cd} (h : ∀ i, i < a.length → ∀ j, j < b.length → ¬ ((a.getD i cd0).site = (b.getD j cd0).site ∧ (a.getD i cd0).count = (b.getD j cd0).count ∧ a.getD i cd0 ≠ b.getD j cd0)) : clashB2 a b = false := by
  simp only [clashB2, List.any_eq_false, decide_eq_true_eq, Bool.not_eq_true]
  intro x hx y hy
  obtain ⟨i, hi, rfl⟩ := List.mem_iff_getElem.1 hx
  obtain ⟨j, hj, rfl⟩ := List.mem_iff_getElem.1 hy
  have := h i hi j hj
  simpa [List.getD, hi, hj] using this
theorem clash_yes {a b : List Cd} {i j : Nat} (hi : i < a.length) (hj : j < b.length) (h : (a.getD i cd0).site = (b.getD j cd0).site ∧ (a.getD i cd0).count = (b.getD j cd0).count ∧ a.getD i cd0 ≠ b.getD j cd0) : clashB2 a b = true := by
  simp only [clashB2, List.any_eq_true, decide_eq_true_eq]
  refine ⟨a[i], List.getElem_mem hi, b[j], List.getElem_mem hj, ?_⟩
  simpa [List.getD, hi, hj] using h
theorem tri_card (R : Rep) (i : Nat) (h : i < R.n2) : R.tri.C.getD i cd0 = R.d i := by simp [Rep.tri, List.getD, h]
theorem tri_edit (R : Rep) (i : Nat) (h : i < R.n3) : R.tri.E.getD i ed0 = R.e i := by simp [Rep.tri, List.getD, h]
theorem tri_len (R : Rep) : R.tri.K.length = R.n1 ∧ R.tri.C.length = R.n2 ∧ R.tri.E.length = R.n3 := by simp [Rep.tri]

/-- The merged replica in its variable, as far as it is made. -/
structure MO (W wx : World) (g Bc : Nat) (A B : Rep) (adK : Option Addr) (NK capK : Nat) (adC : Option Addr) (NC capC : Nat) (adE : Option Addr) (NE capE : Nat) (C : List Cd) : Prop where
  old : Below W.heap.size W wx
  o : Bx wx g 26 (repC adK NK capK adC NC capC adE NE capE)
  nk : NK = (refClk A.tri.K B.tri.K 200).length
  nc : NC = C.length
  ne : NE = (bothE A.tri.E B.tri.E).length
  k : Vec wx W.heap.size 67 2 adK NK capK (kcells (refClk A.tri.K B.tri.K 200))
  c : Vec wx Bc 69 5 adC NC capC (ccells C)
  e : Vec wx W.heap.size 71 2 adE NE capE (ecells (bothE A.tri.E B.tri.E))
theorem mo_new (Bc : Nat) {W wE : World} {A B : Rep} {adK adE : Option Addr} {NK capK NE capE : Nat} (h1 : NK = (refClk A.tri.K B.tri.K 200).length) (h2 : NE = (bothE A.tri.E B.tri.E).length) (hk : Vec wE W.heap.size 67 2 adK NK capK (kcells (refClk A.tri.K B.tri.K 200))) (he : Vec wE W.heap.size 71 2 adE NE capE (ecells (bothE A.tri.E B.tri.E))) (hb : Below W.heap.size W wE) :
    MO W (wE.alloc (.cells #[.slice adK NK capK, .slice none 0 0, .slice adE NE capE] 26)) wE.heap.size Bc A B adK NK capK none 0 0 adE NE capE [] :=
  ⟨hb.alloc hb.size _, Bx.new _ _ _, h1, rfl, h2, hk.keep ((Below.refl _ _).alloc (Nat.le_refl _) _), Vec.nil _ _ _ _, he.keep ((Below.refl _ _).alloc (Nat.le_refl _) _)⟩
theorem mo_set (Bc : Nat) {W wE : World} {A B : Rep} {adK adE : Option Addr} {NK capK NE capE g : Nat} (h1 : NK = (refClk A.tri.K B.tri.K 200).length) (h2 : NE = (bothE A.tri.E B.tri.E).length) (hk : Vec wE W.heap.size 67 2 adK NK capK (kcells (refClk A.tri.K B.tri.K 200))) (he : Vec wE W.heap.size 71 2 adE NE capE (ecells (bothE A.tri.E B.tri.E))) (hb : Below W.heap.size W wE) (ob : Bx wE g 26 (repC none 0 0 none 0 0 none 0 0)) (hg : W.heap.size ≤ g) :
    MO W (((wE.setCell ⟨g, 0, none⟩ (.slice adK NK capK)).setCell ⟨g, 1, none⟩ (.slice none 0 0)).setCell ⟨g, 2, none⟩ (.slice adE NE capE)) g Bc A B adK NK capK none 0 0 adE NE capE [] := by
  have hu : Upd g wE (((wE.setCell ⟨g, 0, none⟩ (.slice adK NK capK)).setCell ⟨g, 1, none⟩ (.slice none 0 0)).setCell ⟨g, 2, none⟩ (.slice adE NE capE)) := (((Upd.refl g wE).setCell _ rfl _).setCell _ rfl _).setCell _ rfl _
  exact ⟨hu.below hb hg, ((ob.setCell 0 _).setCell 1 _).setCell 2 _, h1, rfl, h2, hk.updo hu (fun b hb e1 => ob.apart hk (by decide) (by rw [hb]; simp [e1])), Vec.nil _ _ _ _, he.updo hu (fun b hb e1 => ob.apart he (by decide) (by rw [hb]; simp [e1]))⟩

theorem MO.step {W wx w' : World} {g Bc : Nat} {A B : Rep} {adK : Option Addr} {NK capK : Nat} {adC : Option Addr} {NC capC : Nat} {adE : Option Addr} {NE capE : Nat} {C : List Cd} (h : MO W wx g Bc A B adK NK capK adC NC capC adE NE capE C) (hb : Below wx.heap.size wx w') : MO W w' g Bc A B adK NK capK adC NC capC adE NE capE C :=
  ⟨h.old.trans (hb.mono h.old.size), h.o.below hb h.o.lt, h.nk, h.nc, h.ne, h.k.keep hb, h.c.keep hb, h.e.keep hb⟩
theorem MO.base {W wx : World} {g Bc : Nat} {A B : Rep} {adK : Option Addr} {NK capK : Nat} {adE : Option Addr} {NE capE : Nat} (h : MO W wx g Bc A B adK NK capK none 0 0 adE NE capE []) (Bd : Nat) : MO W wx g Bd A B adK NK capK none 0 0 adE NE capE [] :=
  ⟨h.old, h.o, h.nk, h.nc, h.ne, h.k, Vec.nil _ _ _ _, h.e⟩
theorem vec_low {w : World} {B e m : Nat} {ad : Option Addr} {n cap : Nat} {xs : List Value} (h : Vec w B e m ad n cap xs) : ∀ b, ad = some b → b.block < w.heap.size := by
  intro b hb
  obtain ⟨_, cur, hc⟩ := h.typed b.block (by rw [hb]; rfl)
  exact (Array.getElem?_eq_some_iff.1 hc).1
theorem Vec.low {w w' : World} {B Bc e m : Nat} {ad : Option Addr} {n cap : Nat} {xs : List Value} (h : Vec w B e m ad n cap xs) (hl : ∀ b, ad = some b → b.block < Bc) (hb : Below Bc w w') : Vec w' B e m ad n cap xs := by
  refine ⟨h.1, ?_⟩
  rcases h.2 with h2 | ⟨g, c, cur, hv, hB, hg, r⟩
  · exact Or.inl h2
  · have e1 : ad = some ⟨g, 0, none⟩ := by simp at hv; exact hv.1
    exact Or.inr ⟨g, c, cur, hv, hB, by rw [hb.block g (hl _ e1)]; exact hg, r⟩
/-- One card more. -/
theorem MO.push {W w7 w8 : World} {g Bc : Nat} {A B : Rep} {adK : Option Addr} {NK capK : Nat} {adC : Option Addr} {NC capC : Nat} {adE : Option Addr} {NE capE : Nat} {C : List Cd} (h : MO W w7 g Bc A B adK NK capK adC NC capC adE NE capE C) (hb : Below Bc w7 w8) (hBc : W.heap.size ≤ Bc) (lk : ∀ b, adK = some b → b.block < Bc) (le : ∀ b, adE = some b → b.block < Bc) (lg : g < Bc) (hg : W.heap.size ≤ g)
    {x : Cd} {ad' : Option Addr} {cap' : Nat} (hv : Vec w8 Bc 69 5 ad' (NC + 1) cap' (ccells C ++ x.cells)) :
    MO W (w8.setCell ⟨g, 1, none⟩ (.slice ad' (NC + 1) cap')) g Bc A B adK NK capK ad' (NC + 1) cap' adE NE capE (C ++ [x]) := by
  have ho : Bx w8 g 26 (repC adK NK capK adC NC capC adE NE capE) := h.o.below hb lg
  have hu : Upd g w8 (w8.setCell ⟨g, 1, none⟩ (.slice ad' (NC + 1) cap')) := (Upd.refl g w8).setCell _ rfl _
  have hk8 := h.k.low lk hb
  have he8 := h.e.low le hb
  exact ⟨hu.below (h.old.trans (hb.mono hBc)) hg, ho.setCell 1 _, h.nk, by rw [h.nc]; simp, h.ne, hk8.updo hu (fun b hb e1 => ho.apart hk8 (by decide) (by rw [hb]; simp [e1])), by rw [ccells_app, show ccells [x] = x.cells by simp [ccells]]; exact hv.updo hu (fun b hb e1 => ho.apart hv (by decide) (by rw [hb]; simp [e1])), he8.updo hu (fun b hb e1 => ho.apart he8 (by decide) (by rw [hb]; simp [e1]))⟩
theorem heap_newA (W : World) (x : Obj) : (W.alloc x).drew.heap[W.heap.size]? = some x := by show (W.heap.push x)[W.heap.size]? = _; simp
theorem new_atA {X : World} {N : Nat} {cs : List Value} {t : TypeId} (h : X.heap[N]? = some (.cells cs.toArray t)) : ∀ j u, cs[j]? = some u → X.cell? ((⟨N, 0, none⟩ : Addr).add j) = some u := by
  intro j u hu
  rw [addr_add]
  simp [World.cell?, h, hu]
theorem lowTo_eq (A B : Rep) (id : Int) : ∀ k, k ≤ A.n2 + B.n2 → lowTo A B id k = ((idsOf A.tri.C B.tri.C).take k).foldl (lowStep id) 0
  | 0, _ => by simp [lowTo]
  | k + 1, h => by
    have hl : (idsOf A.tri.C B.tri.C).length = A.n2 + B.n2 := by simp [idsOf, Rep.tri]
    rw [List.take_succ_eq_append_getElem (by omega), List.foldl_append, ← lowTo_eq A B id k (by omega)]
    simp only [lowTo, List.foldl_cons, List.foldl_nil]
    congr 1
    unfold idsR idsOf
    split
    · rename_i h1
      rw [List.getElem_append_left (by simp [Rep.tri]; exact h1)]; simp [Rep.tri]
    · rename_i h1
      rw [List.getElem_append_right (by simp [Rep.tri]; omega)]; simp [Rep.tri]
theorem lowR_eq (A B : Rep) (id : Int) : lowR A B id = lowAbove id (idsOf A.tri.C B.tri.C) := by
  have hl : (idsOf A.tri.C B.tri.C).length = A.n2 + B.n2 := by simp [idsOf, Rep.tri]
  unfold lowR lowAbove
  rw [lowTo_eq A B id _ (Nat.le_refl _), List.take_of_length_le (by omega)]
theorem Rep.nums {R : Rep} (h : R.chk = 0) : (∀ i, i < R.n1 → 1 ≤ (R.c i).site ∧ (R.c i).site ≤ 200 ∧ 1 ≤ (R.c i).count) ∧ (∀ i, i < R.n2 → 1 ≤ (R.d i).id) := by
  have g1 : R.manyB = false := by
    cases hh : R.manyB
    · rfl
    · simp [Rep.chk, hh] at h
  have g2 : R.numB = false := by
    cases hh : R.numB
    · rfl
    · simp [Rep.chk, g1, hh] at h
  unfold Rep.numB at g2
  simp only [Bool.or_eq_false_iff] at g2
  refine ⟨fun i hi => ?_, fun i hi => ?_⟩
  · cases hn : R.num1 i with
    | true => rw [anyTo_hit hi hn] at g2; exact absurd g2.1 (by simp)
    | false => simp [Rep.num1, scB, outB] at hn; omega
  · cases hn : R.num2 i with
    | true => rw [anyTo_hit hi hn] at g2; exact absurd g2.2.1 (by simp)
    | false => simp [Rep.num2, scB, outB] at hn; omega
theorem tri_good {R : Rep} (h : R.chk = 0) : Asc Cd.id R.tri.C ∧ ∀ x ∈ R.tri.C, 0 < x.id := by
  have h2 : R.tri.rep.chk = 0 := by rw [tri_chk]; exact h
  refine ⟨(Tri.asc h2).2, fun x hx => ?_⟩
  simp only [Rep.tri, List.mem_map, List.mem_range] at hx
  obtain ⟨i, hi, rfl⟩ := hx
  have := (Rep.nums h).2 i hi; omega
theorem tri_clocks {R : Rep} (h : R.chk = 0) : Asc Ck.site R.tri.K ∧ ∀ x ∈ R.tri.K, 1 ≤ x.site ∧ x.site ≤ 200 ∧ 1 ≤ x.count := by
  have h2 : R.tri.rep.chk = 0 := by rw [tri_chk]; exact h
  refine ⟨(Tri.asc h2).1, fun x hx => ?_⟩
  simp only [Rep.tri, List.mem_map, List.mem_range] at hx
  obtain ⟨i, hi, rfl⟩ := hx
  exact (Rep.nums h).1 i hi
/-- Where a number stands among the merged ones. -/
def posU (M : List Cd) (u : Value) : Nat := M.findIdx fun c => c.id == intOf u
theorem posU_at {M : List Cd} (h : Asc Cd.id M) (p : ∀ c ∈ M, 0 < c.id) (k : Nat) (hk : k ≤ M.length) : posU M (.int .i64 (idAt M k)) = k := by
  unfold posU
  rcases Nat.lt_or_ge k M.length with h1 | h1
  · have e : idAt M k = M[k].id := by unfold idAt; rw [List.getElem?_eq_getElem h1]
    rw [List.findIdx_eq h1]
    refine ⟨by simp [intOf, e], fun j hj => ?_⟩
    have := List.pairwise_iff_getElem.1 h j k (by omega) h1 hj
    simp only [intOf, e, beq_eq_false_iff_ne]
    omega
  · have e : idAt M k = 0 := by unfold idAt; rw [List.getElem?_eq_none h1]
    rw [List.findIdx_eq_length_of_false (fun c hc => by have := p c hc; simp only [intOf, e, beq_eq_false_iff_ne]; omega)]
    omega
theorem look_range (d : Nat → Cd) (id : Int) : ∀ n, look Cd.id ((List.range n).map d) id = (firstOf (fun i => (d i).id == id) n).map d
  | 0 => rfl
  | n + 1 => by
    rw [List.range_succ, List.map_append, look_append, look_range d id n]
    unfold firstOf
    rw [List.range_succ, List.find?_append]
    cases hf : (List.range n).find? (fun i => (d i).id == id) with
    | some i => rfl
    | none =>
      simp only [Option.map_none, Option.none_or, List.map_cons, List.map_nil, look, List.find?_cons, List.find?_nil]
      by_cases e : (d n).id = id
      · simp [e]
      · have : ((d n).id == id) = false := by rw [beq_eq_false_iff_ne]; exact e
        simp [e, this]
theorem look_find (R : Rep) (id : Int) : look Cd.id R.tri.C id = (findR R id).map R.d := look_range R.d id R.n2
theorem find_lt {R : Rep} {id : Int} {i : Nat} (h : findR R id = some i) : i < R.n2 := (firstOf_some.mp h).2.1

theorem layK_len {α : Type} (key : α → Int) (f : α → α → α) : ∀ (b a : List α), (layK key f a b).length ≤ a.length + b.length
  | [], a => by simp [layK]
  | c :: b, a => by
    have h := layK_len key f b (putK key f a c)
    have h2 : ∀ l : List α, (putK key f l c).length ≤ l.length + 1 := by
      intro l
      induction l with
      | nil => simp [putK]
      | cons o l ih => simp only [putK]; split; (simp; omega); split <;> simp
    have := h2 a
    simp only [layK, List.foldl_cons] at h ⊢
    simp; omega
end Go.Proofs.Ytdjpkgaicmklmaa

/- Clashing of the program: walked. -/
namespace Go.Proofs.Ytdjpkgaicmklmaa
open Go.RowKit

theorem stamp_iff (x y : Cd) : stampB x y = true ↔ x.site = y.site ∧ x.count = y.count := by unfold stampB; simp

set_option maxRecDepth 100000 in
set_option maxHeartbeats 8000000 in
theorem pclash_any (A B : List Cd) (a b : Option Addr) (n m ca cb : Nat) (w : World) (hA : Lies w a n 5 (fun i => (A.getD i cd0).cells)) (hB : Lies w b m 5 (fun i => (B.getD i cd0).cells)) (hn : n = A.length) (hm : m = B.length) (hn2 : n ≤ 1099511627776) (hm2 : m ≤ 1099511627776) :
    Calls Try.prog 103 #[.slice a n ca, .slice b m cb] w fun e w' => e = .returned (.bool (clashB2 A B)) ∧ Below w.heap.size w w' := by
  have HN : Hid (n = A.length) := hn
  have HM : Hid (m = B.length) := hm
  have HA : Hid (Lies w a n 5 (fun i => (A.getD i cd0).cells)) := hA
  have HB : Hid (Lies w b m 5 (fun i => (B.getD i cd0).cells)) := hB
  clear hn hm hA hB
  go_enter Try.func103, Try.ntmps103
  go_wp2_with fail
  go_loopw [5, 6] (fun u _ wr => ∃ i : Nat, i ≤ n ∧ u = .int .i64 i ∧ (∀ i', i' < i → ∀ j, j < m → ¬ ((A.getD i' cd0).site = (B.getD j cd0).site ∧ (A.getD i' cd0).count = (B.getD j cd0).count ∧ A.getD i' cd0 ≠ B.getD j cd0)) ∧ Below w.heap.size w wr) (fun u _ _ => n - (intOf u).toNat)
  case atStart => exact ⟨0, Nat.zero_le _, rfl, fun i' h => by omega, Below.refl _ _⟩
  case round =>
    obtain ⟨i, hi, rfl, hno, hb⟩ := hrel
    have HNO : Hid (∀ i', i' < i → ∀ j, j < m → ¬ ((A.getD i' cd0).site = (B.getD j cd0).site ∧ (A.getD i' cd0).count = (B.getD j cd0).count ∧ A.getD i' cd0 ≠ B.getD j cd0)) := hno
    clear hno
    by_cases hlt : i < n
    · go_wp2_with fail
      go_loopw [6] (fun u wr => ∃ j : Nat, j ≤ m ∧ u = .int .i64 j ∧ (∀ j', j' < j → ¬ ((A.getD i cd0).site = (B.getD j' cd0).site ∧ (A.getD i cd0).count = (B.getD j' cd0).count ∧ A.getD i cd0 ≠ B.getD j' cd0)) ∧ Below w.heap.size w wr) (fun u _ => m - (intOf u).toNat)
      case atStart => exact ⟨0, Nat.zero_le _, rfl, fun j' h => by omega, hb⟩
      case round =>
        clear hb
        obtain ⟨j, hj, rfl, hno2, hb⟩ := hrel
        have HNO2 : Hid (∀ j', j' < j → ¬ ((A.getD i cd0).site = (B.getD j' cd0).site ∧ (A.getD i cd0).count = (B.getD j' cd0).count ∧ A.getD i cd0 ≠ B.getD j' cd0)) := hno2
        clear hno2
        by_cases hlt2 : j < m
        · obtain ⟨bA, oA, hblA, hixA, c0, c1, c2, c3, c4⟩ := Lies.card (c := fun i => A.getD i cd0) (HA.out.below hb) ca hlt
          obtain ⟨bB, oB, hblB, hixB, d0, d1, d2, d3, d4⟩ := Lies.card (c := fun i => B.getD i cd0) (HB.out.below hb) cb hlt2
          have HSTEP : Hid (¬ ((A.getD i cd0).site = (B.getD j cd0).site ∧ (A.getD i cd0).count = (B.getD j cd0).count ∧ A.getD i cd0 ≠ B.getD j cd0) → ∀ j', j' < j + 1 → ¬ ((A.getD i cd0).site = (B.getD j' cd0).site ∧ (A.getD i cd0).count = (B.getD j' cd0).count ∧ A.getD i cd0 ≠ B.getD j' cd0)) := by
            intro h j' hj'
            rcases Nat.lt_or_ge j' j with h2 | h2
            · exact HNO2.out j' h2
            · rw [show j' = j by omega]; exact h
          have HYES : Hid ((A.getD i cd0).site = (B.getD j cd0).site ∧ (A.getD i cd0).count = (B.getD j cd0).count ∧ A.getD i cd0 ≠ B.getD j cd0 → clashB2 A B = true) := fun h => clash_yes (by rw [← HN.out]; exact hlt) (by rw [← HM.out]; exact hlt2) h
          have HBW : Hid (∀ X, Below wr.heap.size wr X → Below w.heap.size w X) := fun X h => hb.trans (h.mono hb.size)
          have HX : Hid (∀ X, Below wr.heap.size wr X → (X.cell? ⟨bA, oA, none⟩ = some (.int .i64 (A.getD i cd0).id) ∧ X.cell? ⟨bA, oA + 1, none⟩ = some (.int .i64 (A.getD i cd0).site) ∧ X.cell? ⟨bA, oA + 2, none⟩ = some (.int .i64 (A.getD i cd0).count) ∧ X.cell? ⟨bA, oA + 3, none⟩ = some (.bool (A.getD i cd0).gone) ∧ X.cell? ⟨bA, oA + 4, none⟩ = some (.string (A.getD i cd0).text)) ∧
             (X.cell? ⟨bB, oB, none⟩ = some (.int .i64 (B.getD j cd0).id) ∧ X.cell? ⟨bB, oB + 1, none⟩ = some (.int .i64 (B.getD j cd0).site) ∧ X.cell? ⟨bB, oB + 2, none⟩ = some (.int .i64 (B.getD j cd0).count) ∧ X.cell? ⟨bB, oB + 3, none⟩ = some (.bool (B.getD j cd0).gone) ∧ X.cell? ⟨bB, oB + 4, none⟩ = some (.string (B.getD j cd0).text))) := fun X h =>
            ⟨⟨(h.cell (p := ⟨bA, oA, none⟩) hblA).trans c0, (h.cell (p := ⟨bA, oA + 1, none⟩) hblA).trans c1, (h.cell (p := ⟨bA, oA + 2, none⟩) hblA).trans c2, (h.cell (p := ⟨bA, oA + 3, none⟩) hblA).trans c3, (h.cell (p := ⟨bA, oA + 4, none⟩) hblA).trans c4⟩, (h.cell (p := ⟨bB, oB, none⟩) hblB).trans d0, (h.cell (p := ⟨bB, oB + 1, none⟩) hblB).trans d1, (h.cell (p := ⟨bB, oB + 2, none⟩) hblB).trans d2, (h.cell (p := ⟨bB, oB + 3, none⟩) hblB).trans d3, (h.cell (p := ⟨bB, oB + 4, none⟩) hblB).trans d4⟩
          clear HNO2 hb
          generalize A.getD i cd0 = x at *
          generalize B.getD j cd0 = y at *
          cases hst : stampB x y with
          | false =>
            have H9 : Hid (∀ j', j' < j + 1 → ¬ (x.site = (B.getD j' cd0).site ∧ x.count = (B.getD j' cd0).count ∧ x ≠ B.getD j' cd0)) := HSTEP.out (fun h => by rw [(stamp_iff x y).2 ⟨h.1, h.2.1⟩] at hst; cases hst)
            have KS : Hid (∀ X, Calls Try.prog 119 #[cdV x, cdV y] X fun e w' => e = .returned (.bool false) ∧ Below X.heap.size X w') := fun X => (sameStamp_any x y X).mono fun e w' ⟨h1, h2⟩ => ⟨by rw [h1, hst], h2⟩
            clear HSTEP HYES hst
            go_wp2_with fail
            -- GEN
            refine wp_region_held_drew (S := (fun X => (X.cell? ⟨bA, oA, none⟩ = some (.int .i64 x.id) ∧ X.cell? ⟨bA, oA + 1, none⟩ = some (.int .i64 x.site) ∧ X.cell? ⟨bA, oA + 2, none⟩ = some (.int .i64 x.count) ∧ X.cell? ⟨bA, oA + 3, none⟩ = some (.bool x.gone) ∧ X.cell? ⟨bA, oA + 4, none⟩ = some (.string x.text)) ∧
             (X.cell? ⟨bB, oB, none⟩ = some (.int .i64 y.id) ∧ X.cell? ⟨bB, oB + 1, none⟩ = some (.int .i64 y.site) ∧ X.cell? ⟨bB, oB + 2, none⟩ = some (.int .i64 y.count) ∧ X.cell? ⟨bB, oB + 3, none⟩ = some (.bool y.gone) ∧ X.cell? ⟨bB, oB + 4, none⟩ = some (.string y.text)))) (by kernel_rfl) ?_ (fun hHeld => ?_)
            · (refine HX.out _ ?_; (repeat (first | exact Below.refl _ _ | exact hb1 | refine Below.drew ?_)))
            refine wpAnyH_take (i := 0) (oi := { dst := some 19, op := Op.move (Operand.tmp 0), type := 23, pos := "stamps.go:28", after := #[], guard := none }) (v := .slice a n ca) rfl (by kernel_rfl) (by kernel_rfl) (by kernel_rfl) (fun _ _ _ h => h) (Or.inl ⟨by rfl, ?_⟩) (by assumption) ?_
            · (intro w hSw; (try dsimp only at hSw); go_simp)
            simp only [Act.put, List.setIfInBounds_toArray, List.set_cons_zero, List.set_cons_succ]
            refine wpAnyH_take (i := 1) (oi := { dst := some 20, op := Op.move (Operand.tmp 5), type := 3, pos := "stamps.go:28", after := #[], guard := none }) (v := .int .i64 (i : Int)) rfl (by kernel_rfl) (by kernel_rfl) (by kernel_rfl) (fun _ _ _ h => h) (Or.inl ⟨by rfl, ?_⟩) (by assumption) ?_
            · (intro w hSw; (try dsimp only at hSw); go_simp)
            simp only [Act.put, List.setIfInBounds_toArray, List.set_cons_zero, List.set_cons_succ]
            refine wpAnyH_take (i := 2) (oi := { dst := some 21, op := Op.indexAddr 23 (Operand.tmp 19) (Operand.tmp 20), type := 0, pos := "stamps.go:28", after := #[{ on := 0, ground := Ground.data }, { on := 1, ground := Ground.data }], guard := none }) (v := .pointer (some ⟨bA, oA, none⟩)) rfl (by kernel_rfl) (by kernel_rfl) (by kernel_rfl) (fun _ _ _ h => h) (Or.inl ⟨by rfl, ?_⟩) (by assumption) ?_
            · (intro w hSw; (try dsimp only at hSw); go_simp)
            simp only [Act.put, List.setIfInBounds_toArray, List.set_cons_zero, List.set_cons_succ]
            refine wpAnyH_take (i := 3) (oi := { dst := some 22, op := Op.load 69 (Operand.tmp 21), type := 69, pos := "stamps.go:28", after := #[{ on := 2, ground := Ground.data }], guard := none }) (v := cdV x) rfl (by kernel_rfl) (by kernel_rfl) (by kernel_rfl) (fun _ _ _ h => h) (Or.inl ⟨by rfl, ?_⟩) (by assumption) ?_
            · (intro w hSw; (try dsimp only at hSw); go_simp)
            simp only [Act.put, List.setIfInBounds_toArray, List.set_cons_zero, List.set_cons_succ]
            refine wpAnyH_take (i := 4) (oi := { dst := some 23, op := Op.move (Operand.tmp 1), type := 23, pos := "stamps.go:28", after := #[], guard := none }) (v := .slice b m cb) rfl (by kernel_rfl) (by kernel_rfl) (by kernel_rfl) (fun _ _ _ h => h) (Or.inl ⟨by rfl, ?_⟩) (by assumption) ?_
            · (intro w hSw; (try dsimp only at hSw); go_simp)
            simp only [Act.put, List.setIfInBounds_toArray, List.set_cons_zero, List.set_cons_succ]
            refine wpAnyH_take (i := 5) (oi := { dst := some 24, op := Op.move (Operand.tmp 6), type := 3, pos := "stamps.go:28", after := #[], guard := none }) (v := .int .i64 (j : Int)) rfl (by kernel_rfl) (by kernel_rfl) (by kernel_rfl) (fun _ _ _ h => h) (Or.inl ⟨by rfl, ?_⟩) (by assumption) ?_
            · (intro w hSw; (try dsimp only at hSw); go_simp)
            simp only [Act.put, List.setIfInBounds_toArray, List.set_cons_zero, List.set_cons_succ]
            refine wpAnyH_take (i := 6) (oi := { dst := some 25, op := Op.indexAddr 23 (Operand.tmp 23) (Operand.tmp 24), type := 0, pos := "stamps.go:28", after := #[{ on := 4, ground := Ground.data }, { on := 5, ground := Ground.data }], guard := none }) (v := .pointer (some ⟨bB, oB, none⟩)) rfl (by kernel_rfl) (by kernel_rfl) (by kernel_rfl) (fun _ _ _ h => h) (Or.inl ⟨by rfl, ?_⟩) (by assumption) ?_
            · (intro w hSw; (try dsimp only at hSw); go_simp)
            simp only [Act.put, List.setIfInBounds_toArray, List.set_cons_zero, List.set_cons_succ]
            refine wpAnyH_take (i := 7) (oi := { dst := some 26, op := Op.load 69 (Operand.tmp 25), type := 69, pos := "stamps.go:28", after := #[{ on := 6, ground := Ground.data }], guard := none }) (v := cdV y) rfl (by kernel_rfl) (by kernel_rfl) (by kernel_rfl) (fun _ _ _ h => h) (Or.inl ⟨by rfl, ?_⟩) (by assumption) ?_
            · (intro w hSw; (try dsimp only at hSw); go_simp)
            simp only [Act.put, List.setIfInBounds_toArray, List.set_cons_zero, List.set_cons_succ]
            refine wpAnyH_ready (rs := [8]) (by kernel_rfl) (by simp) ?_
            refine AllReadyH.cons (o := { dst := some 27, op := Op.call { callee := Callee.value (Operand.func 119), args := #[Operand.tmp 22, Operand.tmp 26], argTypes := #[69, 69] }, type := 4, pos := "stamps.go:28", after := #[{ on := 3, ground := Ground.data }, { on := 7, ground := Ground.data }], guard := none }) rfl (fun K hK => ?_) AllReadyH.nil
            go_simp
            refine (KS.out _).mono ?_
            rintro e w1 ⟨rfl, hb0⟩
            have hb1 : Below wr.heap.size wr w1 := Below.trans (by (repeat (first | exact Below.refl _ _ | refine Below.drew ?_))) hb0
            clear hb0
            (try go_simp)
            refine hK.out _ _ ?_ (fun hHeld2 => ?_)
            · (refine HX.out _ ?_; (repeat (first | exact Below.refl _ _ | exact hb1 | refine Below.drew ?_)))
            clear hK K
            (try simp only [Act.put, List.setIfInBounds_toArray, List.set_cons_zero, List.set_cons_succ])
            refine wpAnyH_take (i := 9) (oi := { dst := some 28, op := Op.move (Operand.tmp 27), type := 4, pos := "stamps.go:28", after := #[{ on := 8, ground := Ground.data }, { on := 8, ground := Ground.chain }], guard := none }) (v := .bool false) rfl (by kernel_rfl) (by kernel_rfl) (by kernel_rfl) (fun _ _ _ h => h) (Or.inl ⟨by rfl, ?_⟩) (by assumption) ?_
            · (intro w hSw; (try dsimp only at hSw); go_simp)
            simp only [Act.put, List.setIfInBounds_toArray, List.set_cons_zero, List.set_cons_succ]
            refine wpAnyH_take (i := 10) (oi := { dst := some 29, op := Op.move (Operand.tmp 0), type := 23, pos := "stamps.go:28", after := #[{ on := 9, ground := Ground.guard }], guard := some (9, true) }) (v := undef) rfl (by kernel_rfl) (by kernel_rfl) (by kernel_rfl) (fun _ _ _ h => h) (Or.inr ⟨by rfl, rfl⟩) (by assumption) ?_
            simp only [Act.put, List.setIfInBounds_toArray, List.set_cons_zero, List.set_cons_succ]
            refine wpAnyH_take (i := 11) (oi := { dst := some 30, op := Op.move (Operand.tmp 5), type := 3, pos := "stamps.go:28", after := #[{ on := 9, ground := Ground.guard }], guard := some (9, true) }) (v := undef) rfl (by kernel_rfl) (by kernel_rfl) (by kernel_rfl) (fun _ _ _ h => h) (Or.inr ⟨by rfl, rfl⟩) (by assumption) ?_
            simp only [Act.put, List.setIfInBounds_toArray, List.set_cons_zero, List.set_cons_succ]
            refine wpAnyH_take (i := 12) (oi := { dst := some 31, op := Op.indexAddr 23 (Operand.tmp 29) (Operand.tmp 30), type := 0, pos := "stamps.go:28", after := #[{ on := 10, ground := Ground.data }, { on := 11, ground := Ground.data }, { on := 9, ground := Ground.guard }], guard := some (9, true) }) (v := undef) rfl (by kernel_rfl) (by kernel_rfl) (by kernel_rfl) (fun _ _ _ h => h) (Or.inr ⟨by rfl, rfl⟩) (by assumption) ?_
            simp only [Act.put, List.setIfInBounds_toArray, List.set_cons_zero, List.set_cons_succ]
            refine wpAnyH_take (i := 13) (oi := { dst := some 32, op := Op.load 69 (Operand.tmp 31), type := 69, pos := "stamps.go:28", after := #[{ on := 12, ground := Ground.data }, { on := 9, ground := Ground.guard }], guard := some (9, true) }) (v := undef) rfl (by kernel_rfl) (by kernel_rfl) (by kernel_rfl) (fun _ _ _ h => h) (Or.inr ⟨by rfl, rfl⟩) (by assumption) ?_
            simp only [Act.put, List.setIfInBounds_toArray, List.set_cons_zero, List.set_cons_succ]
            refine wpAnyH_take (i := 14) (oi := { dst := some 33, op := Op.move (Operand.tmp 1), type := 23, pos := "stamps.go:28", after := #[{ on := 9, ground := Ground.guard }], guard := some (9, true) }) (v := undef) rfl (by kernel_rfl) (by kernel_rfl) (by kernel_rfl) (fun _ _ _ h => h) (Or.inr ⟨by rfl, rfl⟩) (by assumption) ?_
            simp only [Act.put, List.setIfInBounds_toArray, List.set_cons_zero, List.set_cons_succ]
            refine wpAnyH_take (i := 15) (oi := { dst := some 34, op := Op.move (Operand.tmp 6), type := 3, pos := "stamps.go:28", after := #[{ on := 9, ground := Ground.guard }], guard := some (9, true) }) (v := undef) rfl (by kernel_rfl) (by kernel_rfl) (by kernel_rfl) (fun _ _ _ h => h) (Or.inr ⟨by rfl, rfl⟩) (by assumption) ?_
            simp only [Act.put, List.setIfInBounds_toArray, List.set_cons_zero, List.set_cons_succ]
            refine wpAnyH_take (i := 16) (oi := { dst := some 35, op := Op.indexAddr 23 (Operand.tmp 33) (Operand.tmp 34), type := 0, pos := "stamps.go:28", after := #[{ on := 14, ground := Ground.data }, { on := 15, ground := Ground.data }, { on := 9, ground := Ground.guard }], guard := some (9, true) }) (v := undef) rfl (by kernel_rfl) (by kernel_rfl) (by kernel_rfl) (fun _ _ _ h => h) (Or.inr ⟨by rfl, rfl⟩) (by assumption) ?_
            simp only [Act.put, List.setIfInBounds_toArray, List.set_cons_zero, List.set_cons_succ]
            refine wpAnyH_take (i := 17) (oi := { dst := some 36, op := Op.load 69 (Operand.tmp 35), type := 69, pos := "stamps.go:28", after := #[{ on := 16, ground := Ground.data }, { on := 9, ground := Ground.guard }], guard := some (9, true) }) (v := undef) rfl (by kernel_rfl) (by kernel_rfl) (by kernel_rfl) (fun _ _ _ h => h) (Or.inr ⟨by rfl, rfl⟩) (by assumption) ?_
            simp only [Act.put, List.setIfInBounds_toArray, List.set_cons_zero, List.set_cons_succ]
            refine wpAnyH_take (i := 18) (oi := { dst := some 37, op := Op.call { callee := Callee.value (Operand.func 136), args := #[Operand.tmp 32, Operand.tmp 36], argTypes := #[69, 69] }, type := 4, pos := "stamps.go:28", after := #[{ on := 13, ground := Ground.data }, { on := 17, ground := Ground.data }, { on := 9, ground := Ground.chain }, { on := 9, ground := Ground.guard }], guard := some (9, true) }) (v := undef) rfl (by kernel_rfl) (by kernel_rfl) (by kernel_rfl) (fun _ _ _ h => h) (Or.inr ⟨by rfl, rfl⟩) (by assumption) ?_
            simp only [Act.put, List.setIfInBounds_toArray, List.set_cons_zero, List.set_cons_succ]
            refine wpAnyH_take (i := 19) (oi := { dst := some 38, op := Op.unOp UnOp.not 4 (Operand.tmp 37), type := 4, pos := "stamps.go:28", after := #[{ on := 18, ground := Ground.data }, { on := 9, ground := Ground.guard }], guard := some (9, true) }) (v := undef) rfl (by kernel_rfl) (by kernel_rfl) (by kernel_rfl) (fun _ _ _ h => h) (Or.inr ⟨by rfl, rfl⟩) (by assumption) ?_
            simp only [Act.put, List.setIfInBounds_toArray, List.set_cons_zero, List.set_cons_succ]
            refine wpAnyH_take (i := 20) (oi := { dst := some 39, op := Op.pick (Operand.tmp 28) (Operand.tmp 38) (Operand.const (Value.bool false)), type := 4, pos := "stamps.go:28", after := #[{ on := 9, ground := Ground.data }, { on := 19, ground := Ground.data }], guard := none }) (v := .bool false) rfl (by kernel_rfl) (by kernel_rfl) (by kernel_rfl) (fun _ _ _ h => h) (Or.inl ⟨by rfl, ?_⟩) (by assumption) ?_
            · (intro w hSw; (try dsimp only at hSw); go_simp)
            simp only [Act.put, List.setIfInBounds_toArray, List.set_cons_zero, List.set_cons_succ]
            refine wpAnyH_done (by kernel_rfl) ?_ _
            go_wp2_with fail
            go_roundw
            case rel => exact ⟨j + 1, by omega, by go_num, H9.out, HBW.out _ hb1⟩
            case measure => simp [intOf]; omega
          | true =>
            have KS : Hid (∀ X, Calls Try.prog 119 #[cdV x, cdV y] X fun e w' => e = .returned (.bool true) ∧ Below X.heap.size X w') := fun X => (sameStamp_any x y X).mono fun e w' ⟨h1, h2⟩ => ⟨by rw [h1, hst], h2⟩
            have HST := (stamp_iff x y).1 hst
            by_cases he : x = y
            · have H9 : Hid (∀ j', j' < j + 1 → ¬ (x.site = (B.getD j' cd0).site ∧ x.count = (B.getD j' cd0).count ∧ x ≠ B.getD j' cd0)) := HSTEP.out (fun h => h.2.2 he)
              have KD : Hid (∀ X, Calls Try.prog 136 #[cdV x, cdV y] X fun e w' => e = .returned (.bool true) ∧ Below X.heap.size X w') := fun X => (sameCard_any x y X).mono fun e w' ⟨h1, h2⟩ => ⟨by rw [h1]; simp [he], h2⟩
              clear HSTEP HYES hst HST he
              go_wp2_with fail
              (go_region_held3 (fun X => (X.cell? ⟨bA, oA, none⟩ = some (.int .i64 x.id) ∧ X.cell? ⟨bA, oA + 1, none⟩ = some (.int .i64 x.site) ∧ X.cell? ⟨bA, oA + 2, none⟩ = some (.int .i64 x.count) ∧ X.cell? ⟨bA, oA + 3, none⟩ = some (.bool x.gone) ∧ X.cell? ⟨bA, oA + 4, none⟩ = some (.string x.text)) ∧
             (X.cell? ⟨bB, oB, none⟩ = some (.int .i64 y.id) ∧ X.cell? ⟨bB, oB + 1, none⟩ = some (.int .i64 y.site) ∧ X.cell? ⟨bB, oB + 2, none⟩ = some (.int .i64 y.count) ∧ X.cell? ⟨bB, oB + 3, none⟩ = some (.bool y.gone) ∧ X.cell? ⟨bB, oB + 4, none⟩ = some (.string y.text)))
              (first | (go_keep; done) | (refine HX.out _ ?_; (repeat (first | exact Below.refl _ _ | exact hb1 | exact hb3 | refine Below.drew ?_))))
              (first | (go_at_call 119; refine (KS.out _).mono ?_; rintro e w1 ⟨rfl, hb0⟩; have hb1 : Below wr.heap.size wr w1 := Below.trans (by (repeat (first | exact Below.refl _ _ | refine Below.drew ?_))) hb0; clear hb0) | (go_at_call 136; refine (KD.out _).mono ?_; rintro e w3 ⟨rfl, hb0⟩; have hb3 : Below wr.heap.size wr w3 := Below.trans hb1 (hb0.mono hb1.size); clear hb0)))
              all_goals go_wp2_with fail
              all_goals go_roundw
              case rel => exact ⟨j + 1, by omega, by go_num, H9.out, HBW.out _ hb3⟩
              case measure => simp [intOf]; omega
            · have E : Hid (clashB2 A B = true) := HYES.out ⟨HST.1, HST.2, he⟩
              have KD : Hid (∀ X, Calls Try.prog 136 #[cdV x, cdV y] X fun e w' => e = .returned (.bool false) ∧ Below X.heap.size X w') := fun X => (sameCard_any x y X).mono fun e w' ⟨h1, h2⟩ => ⟨by rw [h1]; simp [he], h2⟩
              clear HSTEP HYES hst HST he
              go_wp2_with fail
              (go_region_held3 (fun X => (X.cell? ⟨bA, oA, none⟩ = some (.int .i64 x.id) ∧ X.cell? ⟨bA, oA + 1, none⟩ = some (.int .i64 x.site) ∧ X.cell? ⟨bA, oA + 2, none⟩ = some (.int .i64 x.count) ∧ X.cell? ⟨bA, oA + 3, none⟩ = some (.bool x.gone) ∧ X.cell? ⟨bA, oA + 4, none⟩ = some (.string x.text)) ∧
             (X.cell? ⟨bB, oB, none⟩ = some (.int .i64 y.id) ∧ X.cell? ⟨bB, oB + 1, none⟩ = some (.int .i64 y.site) ∧ X.cell? ⟨bB, oB + 2, none⟩ = some (.int .i64 y.count) ∧ X.cell? ⟨bB, oB + 3, none⟩ = some (.bool y.gone) ∧ X.cell? ⟨bB, oB + 4, none⟩ = some (.string y.text)))
              (first | (go_keep; done) | (refine HX.out _ ?_; (repeat (first | exact Below.refl _ _ | exact hb1 | exact hb3 | refine Below.drew ?_))))
              (first | (go_at_call 119; refine (KS.out _).mono ?_; rintro e w1 ⟨rfl, hb0⟩; have hb1 : Below wr.heap.size wr w1 := Below.trans (by (repeat (first | exact Below.refl _ _ | refine Below.drew ?_))) hb0; clear hb0) | (go_at_call 136; refine (KD.out _).mono ?_; rintro e w3 ⟨rfl, hb0⟩; have hb3 : Below wr.heap.size wr w3 := Below.trans hb1 (hb0.mono hb1.size); clear hb0)))
              all_goals go_wp2_with fail
              all_goals go_ret
              all_goals exact ⟨by rw [E.out]; rfl, HBW.out _ hb3⟩
        · obtain rfl : m = j := by omega
          have H9 : Hid (∀ i', i' < i + 1 → ∀ j, j < m → ¬ ((A.getD i' cd0).site = (B.getD j cd0).site ∧ (A.getD i' cd0).count = (B.getD j cd0).count ∧ A.getD i' cd0 ≠ B.getD j cd0)) := by
            intro i' hi' j' hj'
            rcases Nat.lt_or_ge i' i with h2 | h2
            · exact HNO.out i' h2 j' hj'
            · rw [show i' = i by omega]; exact HNO2.out j' hj'
          go_wp2_with fail
          go_roundw
          case rel => exact ⟨i + 1, by omega, by go_num, H9.out, hb⟩
          case measure => simp [intOf]; omega
    · obtain rfl : n = i := by omega
      have HCL : Hid (clashB2 A B = false) := clash_no (fun i' hi' j' hj' => HNO.out i' (by rw [HN.out]; exact hi') j' (by rw [HM.out]; exact hj'))
      clear HNO
      go_wp2_with fail
      go_ret
      exact ⟨by rw [HCL.out]; rfl, hb⟩

end Go.Proofs.Ytdjpkgaicmklmaa

/- Over, Merged, Merge of the program: walked. -/
namespace Go.Proofs.Ytdjpkgaicmklmaa
open Go.RowKit

set_option maxRecDepth 100000 in
set_option maxHeartbeats 8000000 in
theorem over_any (A D : Tri) (a1 a2 a3 b1 b2 b3 : Option Addr) (k1 k2 k3 l1 l2 l3 : Nat) (w : World) (hA : Has w A.rep a1 a2 a3) (hD : Has w D.rep b1 b2 b3) (hk1 : A.K.length ≤ k1) (hk2 : A.C.length ≤ k2) (b : A.K.length ≤ 1099511627776 ∧ A.C.length ≤ 1099511627776 ∧ D.K.length ≤ 1099511627776 ∧ D.C.length ≤ 1099511627776 ∧ D.E.length ≤ 1099511627776) (hasc : Asc Ck.site D.K ∧ Asc Cd.id D.C) :
    Calls Try.prog 140 #[repV A.rep a1 a2 a3 k1 k2 k3, repV D.rep b1 b2 b3 l1 l2 l3] w fun e w' => ∃ c1 n1 d1 c2 n2 d2 c3 n3 d3, e = .returned (.agg #[.slice c1 n1 d1, .slice c2 n2 d2, .slice c3 n3 d3]) ∧ Lists w' w.heap.size (layS A D).K (layS A D).C (layS A D).E c1 n1 d1 c2 n2 d2 c3 n3 d3 ∧ Below w.heap.size w w' := by
  obtain ⟨g1, g2, g3, g4, g5⟩ := b
  have HA : Hid (Has w A.rep a1 a2 a3) := hA
  have HD : Hid (Has w D.rep b1 b2 b3) := hD
  have HASC : Hid (Asc Ck.site D.K ∧ Asc Cd.id D.C) := hasc
  have H0 : Hid (M3 w (repC a1 A.rep.n1 k1 a2 A.rep.n2 k2 a3 A.rep.n3 k3) (repC b1 D.rep.n1 l1 b2 D.rep.n2 l2 b3 D.rep.n3 l3) (repC none 0 0 none 0 0 none 0 0) (((w.alloc (.cells #[.slice a1 A.rep.n1 k1, .slice a2 A.rep.n2 k2, .slice a3 A.rep.n3 k3] 26)).alloc (.cells #[.slice b1 D.rep.n1 l1, .slice b2 D.rep.n2 l2, .slice b3 D.rep.n3 l3] 26)).alloc (.cells #[.slice none 0 0, .slice none 0 0, .slice none 0 0] 26))) := M3.start w _ _ _
  have x0 := H0.out.a.cell 0; have y0 := H0.out.b.cell 0
  dsimp only [List.getElem?_cons_zero, List.getElem?_cons_succ] at x0 y0
  clear hA hD hasc
  go_enter Try.func140, Try.ntmps140
  go_wp2_with fail
  refine (clocksOver_any A.K D.K a1 b1 A.K.length D.K.length k1 l1 _ (HA.out.l1.below H0.out.old) (HD.out.l1.below H0.out.old) rfl rfl (by omega) (by omega) hk1 HASC.out.1).mono ?_
  rintro e w1 ⟨c1, d1, n1, rfl, hn1, hv1, hb1⟩
  have HM1 := H0.out.step hb1
  have hz0 := H0.out.sz
  have HV1 : Hid (Vec w1 (w.heap.size + 3) 67 2 c1 n1 d1 (kcells (layS A D).K)) := hv1.mono hz0
  have HN1 : Hid (n1 = (layS A D).K.length) := hn1
  clear hv1 hn1 hb1 H0 x0 y0 hz0
  have hM1 : Hid (M3 w (repC a1 A.rep.n1 k1 a2 A.rep.n2 k2 a3 A.rep.n3 k3) (repC b1 D.rep.n1 l1 b2 D.rep.n2 l2 b3 D.rep.n3 l3) (repC none 0 0 none 0 0 none 0 0) w1) := HM1
  clear HM1
  have x1 := hM1.out.a.cell 1; have y1 := hM1.out.b.cell 1
  dsimp only [List.getElem?_cons_zero, List.getElem?_cons_succ] at x1 y1
  go_wp2_with fail
  refine (cardsOver_any A.C D.C a2 b2 A.C.length D.C.length k2 l2 _ (HA.out.l2.below hM1.out.old) (HD.out.l2.below hM1.out.old) rfl rfl (by omega) (by omega) hk2 HASC.out.2).mono ?_
  rintro e w2 ⟨c2, d2, n2, rfl, hn2, hv2, hb2⟩
  have HM2 := hM1.out.step hb2
  have hz0 := hM1.out.sz
  have HV2 : Hid (Vec w2 (w.heap.size + 3) 69 5 c2 n2 d2 (ccells (layS A D).C)) := hv2.mono hz0
  have HV1b : Hid (Vec w2 (w.heap.size + 3) 67 2 c1 n1 d1 (kcells (layS A D).K)) := HV1.out.keep hb2
  have HN2 : Hid (n2 = (layS A D).C.length) := hn2
  clear hv2 hn2 hb2 hM1 HV1 x1 y1 hz0
  have hM2 : Hid (M3 w (repC a1 A.rep.n1 k1 a2 A.rep.n2 k2 a3 A.rep.n3 k3) (repC b1 D.rep.n1 l1 b2 D.rep.n2 l2 b3 D.rep.n3 l3) (repC none 0 0 none 0 0 none 0 0) w2) := HM2
  clear HM2
  have x2 := (hM2.out.b.alloc (.cells #[] 71)).cell 2
  dsimp only [List.getElem?_cons_zero, List.getElem?_cons_succ] at x2
  have hV0 : Hid (Vec (w2.alloc (.cells #[] 71)) w2.heap.size 71 2 (some ⟨w2.heap.size, 0, none⟩) 0 0 []) := Vec.lit w2 w2.heap.size 71 2 0 [] (Nat.le_refl _) (by omega) rfl
  have hz0 := hM2.out.sz
  have HSZ : Hid (w2.heap.size ≤ (w2.alloc (.cells #[] 71)).heap.size) := by show _ ≤ _; simp
  have HLE : Hid (Lies (w2.alloc (.cells #[] 71)) b3 D.E.length 2 (fun i => (D.E.getD i ed0).cells)) := (HD.out.l3.below hM2.out.old).below ((Below.refl _ _).alloc (Nat.le_refl _) _)
  have HR2 : Hid (Bx (w2.alloc (.cells #[] 71)) (w.heap.size + 2) 26 (repC none 0 0 none 0 0 none 0 0)) := hM2.out.r.alloc _
  go_wp2_with (first
    | (at_builtin; refine wpList_pushAll (by rfl) _ _ 24 (by rfl) w2.heap.size 71 2 24 (.agg #[.int .i64 0, .string ⟨#[]⟩]) Try.underlying24 (by kernel_rfl) rfl (by decide) _ 0 0 [] (by rfl) hV0.out b3 D.E.length l3 (fun i => (D.E.getD i ed0).cells) (by rfl) HLE.out (fun _ _ => rfl) (fun j _ => ones_ed _) ?_ ?_ ?_ D.E.length ?_ ?_; (omega); (omega); (exact HSZ.out); (omega); intro c3 d3 w3 hv3 hb3 hs3; have hr3 := HR2.out.below hb3 (by omega))
    | (refine wpList_bstore (by rfl) _ _ _ (by rfl) (w.heap.size + 2) 26 (by rfl) _ _ (by rfl) hr3 3 (by rfl) (by kernel_rfl) (by rfl) (by intro x hx; simp at hx; rcases hx with rfl | rfl | rfl <;> rfl) ?_; intro w9 hr9 hu9))
  rw [List.nil_append, range_ecells] at hv3
  have hbA : Below w2.heap.size w2 w3 := ((Below.refl _ w2).alloc (Nat.le_refl _) _).trans hb3
  exact bodyPost_ret (v := .agg #[.slice c1 n1 d1, .slice c2 n2 d2, .slice c3 D.E.length d3]) (results_box1 (by rfl) _ _ (w.heap.size + 2) 26 _ _ (by rfl) hr9 Try.underlying26 (by rfl) 3 (by rfl) (by kernel_rfl)) rfl ⟨c1, n1, d1, c2, n2, d2, c3, D.E.length, d3, rfl, ⟨((HV1b.out.keep hbA).upd hu9 (by omega)).mono (by omega), ((HV2.out.keep hbA).upd hu9 (by omega)).mono (by omega), ((hv3.mono hz0).upd hu9 (by omega)).mono (by omega), HN1.out, HN2.out, rfl⟩, hu9.below (hM2.out.old.trans (hbA.mono hM2.out.old.size)) (by omega)⟩

/-- What Merged makes of two. -/
theorem merged_lay {A B : Tri} (hA : A.rep.chk = 0) (hB : B.rep.chk = 0) : layS A ⟨newK A.K B.K, newC A.C B.C, bothE A.E B.E⟩ = ⟨mergeK A.K B.K, mergeC A.C B.C, bothE A.E B.E⟩ := by
  obtain ⟨a1, a2⟩ := Tri.asc hA
  obtain ⟨b1, b2⟩ := Tri.asc hB
  have hn := (Rep.nums hB).1
  have hp : ∀ x ∈ B.K, 1 ≤ x.count := fun x hx => by
    obtain ⟨i, hi, rfl⟩ := List.mem_iff_getElem.1 hx
    have := (hn i hi).2.2
    simpa [Tri.rep, repOf, List.getD, hi] using this
  unfold layS
  simp only
  rw [lay_newK a1 b1 hp, lay_newC a2 b2]
theorem few_of {A : Tri} (h : A.rep.chk = 0) : A.K.length ≤ 8 ∧ A.C.length ≤ 40 ∧ A.E.length ≤ 16 := Rep.many h

set_option maxRecDepth 100000 in
set_option maxHeartbeats 8000000 in
theorem merged_any (A B : Tri) (a1 a2 a3 b1 b2 b3 : Option Addr) (k1 k2 k3 l1 l2 l3 : Nat) (w : World) (hA : Has w A.rep a1 a2 a3) (hB : Has w B.rep b1 b2 b3) (hk1 : A.K.length ≤ k1) (hk2 : A.C.length ≤ k2) (cA : A.rep.chk = 0) (cB : B.rep.chk = 0) :
    Calls Try.prog 104 #[repV A.rep a1 a2 a3 k1 k2 k3, repV B.rep b1 b2 b3 l1 l2 l3] w fun e w' => ∃ c1 n1 d1 c2 n2 d2 c3 n3 d3, e = .returned (.agg #[.slice c1 n1 d1, .slice c2 n2 d2, .slice c3 n3 d3]) ∧ Lists w' w.heap.size (mergeK A.K B.K) (mergeC A.C B.C) (bothE A.E B.E) c1 n1 d1 c2 n2 d2 c3 n3 d3 ∧ Below w.heap.size w w' := by
  obtain ⟨f1, f2, f3⟩ := few_of cA
  obtain ⟨g1, g2, g3⟩ := few_of cB
  have HA : Hid (Has w A.rep a1 a2 a3) := hA
  have HB : Hid (Has w B.rep b1 b2 b3) := hB
  have HLAY := merged_lay cA cB
  have HAB := Tri.asc cB
  have HL : Hid (layS A ⟨newK A.K B.K, newC A.C B.C, bothE A.E B.E⟩ = ⟨mergeK A.K B.K, mergeC A.C B.C, bothE A.E B.E⟩) := HLAY
  have HASC : Hid (Asc Ck.site (newK A.K B.K) ∧ Asc Cd.id (newC A.C B.C)) := ⟨newK_asc HAB.1, newC_asc HAB.2⟩
  have H0 : Hid (M3 w (repC a1 A.rep.n1 k1 a2 A.rep.n2 k2 a3 A.rep.n3 k3) (repC b1 B.rep.n1 l1 b2 B.rep.n2 l2 b3 B.rep.n3 l3) (repC none 0 0 none 0 0 none 0 0) (((w.alloc (.cells #[.slice a1 A.rep.n1 k1, .slice a2 A.rep.n2 k2, .slice a3 A.rep.n3 k3] 26)).alloc (.cells #[.slice b1 B.rep.n1 l1, .slice b2 B.rep.n2 l2, .slice b3 B.rep.n3 l3] 26)).alloc (.cells #[.slice none 0 0, .slice none 0 0, .slice none 0 0] 26))) := M3.start w _ _ _
  have x0 := H0.out.a.cell 0; have y0 := H0.out.b.cell 0
  dsimp only [List.getElem?_cons_zero, List.getElem?_cons_succ] at x0 y0
  clear hA hB HLAY HAB cA cB
  go_enter Try.func104, Try.ntmps104
  go_wp2_with fail
  refine (newerClocks_any A.K B.K a1 b1 A.K.length B.K.length k1 l1 _ (HA.out.l1.below H0.out.old) (HB.out.l1.below H0.out.old) rfl rfl (by omega) (by omega)).mono ?_
  rintro e w1 ⟨c1, d1, n1, rfl, hn1, hv1, hb1⟩
  have hz0 := H0.out.sz
  have HV1 : Hid (Vec w1 (w.heap.size + 3) 67 2 c1 n1 d1 (kcells (newK A.K B.K))) := hv1.mono hz0
  have HN1 : Hid (n1 = (newK A.K B.K).length) := hn1
  have hM1 : Hid (M3 w (repC a1 A.rep.n1 k1 a2 A.rep.n2 k2 a3 A.rep.n3 k3) (repC b1 B.rep.n1 l1 b2 B.rep.n2 l2 b3 B.rep.n3 l3) (repC none 0 0 none 0 0 none 0 0) w1) := H0.out.step hb1
  clear hv1 hn1 hb1 H0 x0 y0 hz0
  have x1 := hM1.out.a.cell 1; have y1 := hM1.out.b.cell 1
  dsimp only [List.getElem?_cons_zero, List.getElem?_cons_succ] at x1 y1
  go_wp2_with fail
  refine (newerCards_any A.C B.C a2 b2 A.C.length B.C.length k2 l2 _ (HA.out.l2.below hM1.out.old) (HB.out.l2.below hM1.out.old) rfl rfl (by omega) (by omega)).mono ?_
  rintro e w2 ⟨c2, d2, n2, rfl, hn2, hv2, hb2⟩
  have hz0 := hM1.out.sz
  have HV2 : Hid (Vec w2 (w.heap.size + 3) 69 5 c2 n2 d2 (ccells (newC A.C B.C))) := hv2.mono hz0
  have HV1b : Hid (Vec w2 (w.heap.size + 3) 67 2 c1 n1 d1 (kcells (newK A.K B.K))) := HV1.out.keep hb2
  have HN2 : Hid (n2 = (newC A.C B.C).length) := hn2
  have hM2 : Hid (M3 w (repC a1 A.rep.n1 k1 a2 A.rep.n2 k2 a3 A.rep.n3 k3) (repC b1 B.rep.n1 l1 b2 B.rep.n2 l2 b3 B.rep.n3 l3) (repC none 0 0 none 0 0 none 0 0) w2) := hM1.out.step hb2
  clear hv2 hn2 hb2 hM1 HV1 x1 y1 hz0
  have x2 := hM2.out.a.cell 2; have y2 := hM2.out.b.cell 2
  dsimp only [List.getElem?_cons_zero, List.getElem?_cons_succ] at x2 y2
  go_wp2_with fail
  refine (mergedEdits_any A.E B.E a3 b3 A.E.length B.E.length k3 l3 _ (HA.out.l3.below hM2.out.old) (HB.out.l3.below hM2.out.old) rfl rfl (by omega) (by omega)).mono ?_
  rintro e w3 ⟨c3, d3, n3, rfl, hn3, hv3, hb3⟩
  have hz0 := hM2.out.sz
  have HLS : Hid (Lists w3 (w.heap.size + 3) (newK A.K B.K) (newC A.C B.C) (bothE A.E B.E) c1 n1 d1 c2 n2 d2 c3 n3 d3) := ⟨HV1b.out.keep hb3, HV2.out.keep hb3, hv3.mono hz0, HN1.out, HN2.out, hn3⟩
  have hM3 : Hid (M3 w (repC a1 A.rep.n1 k1 a2 A.rep.n2 k2 a3 A.rep.n3 k3) (repC b1 B.rep.n1 l1 b2 B.rep.n2 l2 b3 B.rep.n3 l3) (repC none 0 0 none 0 0 none 0 0) w3) := hM2.out.step hb3
  have q1 := newK_len A.K B.K
  have q2 := newC_len A.C B.C
  have q3 := both_len B.E A.E
  clear hv3 hn3 hb3 hM2 HV1b HV2 x2 y2 hz0
  obtain ⟨hD, hDV⟩ := HLS.out.has (by have := HN1.out; omega) (by have := HN2.out; omega) (by have := HLS.out.e3; omega)
  have HD : Hid (Has w3 (Tri.rep ⟨newK A.K B.K, newC A.C B.C, bothE A.E B.E⟩) c1 c2 c3) := hD
  have HDV : Hid (repV (Tri.rep ⟨newK A.K B.K, newC A.C B.C, bothE A.E B.E⟩) c1 c2 c3 d1 d2 d3 = .agg #[.slice c1 n1 d1, .slice c2 n2 d2, .slice c3 n3 d3]) := hDV
  clear hD hDV
  have x0 := hM3.out.a.cell 0; have x1 := hM3.out.a.cell 1; have x2 := hM3.out.a.cell 2
  dsimp only [List.getElem?_cons_zero, List.getElem?_cons_succ] at x0 x1 x2
  go_wp2_with fail
  rw [← HDV.out]
  refine (over_any A ⟨newK A.K B.K, newC A.C B.C, bothE A.E B.E⟩ a1 a2 a3 c1 c2 c3 k1 k2 k3 d1 d2 d3 _ (HA.out.below hM3.out.old) HD.out hk1 hk2 ⟨by omega, by omega, by simp only; omega, by simp only; omega, by simp only; omega⟩ HASC.out).mono ?_
  rintro e w4 ⟨i1, m1, j1, i2, m2, j2, i3, m3, j3, rfl, hL, hb4⟩
  rw [HL.out] at hL
  have hM4 := hM3.out.step hb4
  have hz := hM3.out.sz
  have hr := hM4.r
  go_wp2_with (refine wpList_bstore (by rfl) _ _ _ (by rfl) (w.heap.size + 2) 26 (by rfl) _ _ (by rfl) hr 3 (by rfl) (by kernel_rfl) (by rfl) (by intro x hx; simp at hx; rcases hx with rfl | rfl | rfl <;> rfl) ?_; intro w9 hr9 hu9)
  exact bodyPost_ret (v := .agg #[.slice i1 m1 j1, .slice i2 m2 j2, .slice i3 m3 j3]) (results_box1 (by rfl) _ _ (w.heap.size + 2) 26 _ _ (by rfl) hr9 Try.underlying26 (by rfl) 3 (by rfl) (by kernel_rfl)) rfl ⟨i1, m1, j1, i2, m2, j2, i3, m3, j3, rfl, ((hL.mono hz).upd hu9 (by omega)).mono (by omega), (hM4.put hu9 hr9).old⟩
end Go.Proofs.Ytdjpkgaicmklmaa

