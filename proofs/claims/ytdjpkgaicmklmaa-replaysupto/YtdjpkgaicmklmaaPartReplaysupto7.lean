/- Texts of the proof, one behind the other; what each holds is said at its head. -/
import Derived.Test.YtdjpkgaicmklmaaPartReplaysupto6
import Derived.Test.YtdjpkgaicmklmaaPartReplaysupto5
import Derived.Deep.RegionLaw
import Derived.Test.YtdjpkgaicmklmaaPartReplaysupto2
import Derived.BigQuiet
import Derived.Deep.QuietTactic
/- linked of the reference: walked. -/
namespace Go.Proofs.Ytdjpkgaicmklmaa
open Go.RowKit

set_option maxRecDepth 100000 in
set_option maxHeartbeats 4000000 in
theorem linked_any (l : List Fd) (ad : Option Addr) (N cap : Nat) (w : World) (hN : N = l.length) (hl : Lies w ad N 9 (fun i => (l.getD i fd0).cells)) (ho : Ordered l) (hNb : N ≤ 1099511627776) :
    Calls Try.prog 91 #[.slice ad N cap] w fun e w' => ∃ a1 n1 c1 a2 n2 c2 a3 n3 c3, e = .returned (.agg (lnkC (l.getD 0 fd0).seq (l.getD 0 fd0).base a1 n1 c1 a2 n2 c2 a3 n3 c3).toArray) ∧ Three w' w.heap.size l a1 n1 c1 a2 n2 c2 a3 n3 c3 ∧ Below w.heap.size w w' := by
  obtain ⟨hR0, hs1, hb0⟩ := one_box w 75 (lnkC 0 0 none 0 0 none 0 0 none 0 0).toArray
  have HN : Hid (N = l.length) := hN
  have HO : Hid (Ordered l) := ho
  have hN0 : 0 < N := by rw [hN]; exact ho.some_
  clear hN ho
  obtain ⟨b, o, hbl, hix, -, -, s2, s3, -⟩ := (hl.below (hb0.mono (Nat.le_refl _))).found cap hN0
  have hix0 : ∀ w', (Instr.indexAt 57 (.slice ad N cap) (.int .i64 0)).run Try.prog w' = .ok (.pointer (some ⟨b, o, none⟩)) w' := hix
  have HT0 : Hid (ckOf (l.take 1) = [] ∧ cdOf (l.take 1) = [] ∧ edOf (l.take 1) = []) := by
    have h4 := HO.out.first
    have hp := HO.out.some_
    cases l with
    | nil => simp at hp
    | cons f r =>
      have h4 : f.kind = 4 := h4
      show _ ∧ _ ∧ _
      simp [ckOf, cdOf, edOf, h4]
  have s2a : ∀ o', ((w.alloc (.cells (lnkC 0 0 none 0 0 none 0 0 none 0 0).toArray 75)).alloc o').cell? ⟨b, o + 2, none⟩ = some (.int .i64 (l.getD 0 fd0).seq) := fun o' => (((Below.refl _ _).alloc (Nat.le_refl _) o').cell (p := ⟨b, o + 2, none⟩) hbl).trans s2
  have s3a : ∀ o', ((w.alloc (.cells (lnkC 0 0 none 0 0 none 0 0 none 0 0).toArray 75)).alloc o').cell? ⟨b, o + 3, none⟩ = some (.int .i64 (l.getD 0 fd0).base) := fun o' => (((Below.refl _ _).alloc (Nat.le_refl _) o').cell (p := ⟨b, o + 3, none⟩) hbl).trans s3
  clear hix
  generalize (l.getD 0 fd0).seq = sq at *
  generalize (l.getD 0 fd0).base = bs at *
  go_enter Try.func91, Try.ntmps91
  go_wp2_with fail
  apply merge
  · intro KEY
    go_region_law (fail)
    all_goals exact KEY.out
  obtain ⟨hR1, hL1, hs2, hb1⟩ := two_boxes w 75 75 (lnkC 0 0 none 0 0 none 0 0 none 0 0).toArray (lnkC sq bs none 0 0 none 0 0 none 0 0).toArray
  have HS : Hid (Bx ((w.alloc (.cells (lnkC 0 0 none 0 0 none 0 0 none 0 0).toArray 75)).alloc (.cells (lnkC sq bs none 0 0 none 0 0 none 0 0).toArray 75)).drew (w.heap.size + 1) 75 (lnkC sq bs none 0 0 none 0 0 none 0 0) ∧ Bx ((w.alloc (.cells (lnkC 0 0 none 0 0 none 0 0 none 0 0).toArray 75)).alloc (.cells (lnkC sq bs none 0 0 none 0 0 none 0 0).toArray 75)).drew w.heap.size 75 (lnkC 0 0 none 0 0 none 0 0 none 0 0) ∧
      w.heap.size + 2 ≤ ((w.alloc (.cells (lnkC 0 0 none 0 0 none 0 0 none 0 0).toArray 75)).alloc (.cells (lnkC sq bs none 0 0 none 0 0 none 0 0).toArray 75)).drew.heap.size ∧ Below w.heap.size w ((w.alloc (.cells (lnkC 0 0 none 0 0 none 0 0 none 0 0).toArray 75)).alloc (.cells (lnkC sq bs none 0 0 none 0 0 none 0 0).toArray 75)).drew) := ⟨⟨hL1.h⟩, ⟨hR1.h⟩, Nat.le_of_eq hs2.symm, hb1.drew⟩
  clear hR1 hL1 hs2 hb1 hR0 hs1 hb0 s2 s3 s2a s3a hix0 hbl
  go_wp2_with fail
  go_loopw [4, 5] (fun u _ wr => ∃ (i : Nat) (a1 : Option Addr) (n1 c1 : Nat) (a2 : Option Addr) (n2 c2 : Nat) (a3 : Option Addr) (n3 c3 : Nat), 1 ≤ i ∧ i ≤ N ∧ u = .int .i64 i ∧
    Bx wr (w.heap.size + 1) 75 (lnkC sq bs a1 n1 c1 a2 n2 c2 a3 n3 c3) ∧ Three wr (w.heap.size + 2) (l.take i) a1 n1 c1 a2 n2 c2 a3 n3 c3 ∧ Bx wr w.heap.size 75 (lnkC 0 0 none 0 0 none 0 0 none 0 0) ∧ w.heap.size + 2 ≤ wr.heap.size ∧ Below w.heap.size w wr) (fun u _ _ => N - (intOf u).toNat)
  case atStart => exact ⟨1, none, 0, 0, none, 0, 0, none, 0, 0, by omega, by omega, rfl, HS.out.1, ⟨by rw [HT0.out.1]; exact Vec.nil _ _ _ _, by rw [HT0.out.2.1]; exact Vec.nil _ _ _ _, by rw [HT0.out.2.2]; exact Vec.nil _ _ _ _, by rw [HT0.out.1]; rfl, by rw [HT0.out.2.1]; rfl, by rw [HT0.out.2.2]; rfl⟩, HS.out.2.1, HS.out.2.2.1, HS.out.2.2.2⟩
  case round =>
    clear HS
    obtain ⟨i, a1, n1, c1, a2, n2, c2, a3, n3, c3, hi1, hi, rfl, hL, hT, hR, hz, hB⟩ := hrel
    have q1 : n1 ≤ 1099511627776 := by rw [hT.e1]; have := ckOf_le (l.take i); simp at this; omega
    have q2 : n2 ≤ 1099511627776 := by rw [hT.e2]; have := cdOf_le (l.take i); simp at this; omega
    have q3 : n3 ≤ 1099511627776 := by rw [hT.e3]; have := edOf_le (l.take i); simp at this; omega
    have HAL : Hid (∀ o1 o2, Below wr.heap.size wr ((wr.alloc o1).alloc o2)) := fun o1 o2 => ((Below.refl _ wr).alloc (Nat.le_refl _) _).alloc (by simp) _
    have HAL2 : Hid (∀ {g e : Nat} {cs : List Value} {o1 o2 : Obj}, Bx wr g e cs → Bx ((wr.alloc o1).alloc o2) g e cs) := fun h => (h.alloc _).alloc _
    by_cases hlt : i < N
    · have hil : i < l.length := by rw [← HN.out]; exact hlt
      obtain ⟨b, o, hbl, hix, c0', c1', c2', c3', c4', c5', c6', c7', c8'⟩ := (hl.below hB).found cap hlt
      have HTK : Hid (l.take (i + 1) = l.take i ++ [l.getD i fd0]) := by
        show _ = _; rw [List.take_add_one, List.getElem?_eq_getElem hil]; simp [List.getD, hil]
      have hfk := HO.out.rest i (by omega) hil
      generalize hgf : l.getD i fd0 = f at *
      clear hgf
      rcases hfk with hfk | hfk | hfk
      · have k1 : (f.kind == 1) = true := by rw [hfk]; rfl
        go_wp2_with (first
          | (refine wpList_bget (by rfl) 22 _ (by rfl) (w.heap.size + 1) 75 2 (by rfl) _ (hL.alloc _) _ (by rfl) _ Try.underlying22 (by rfl) ?_)
          | (at_builtin; refine wpList_pushk (by rfl) _ _ 22 (by rfl) (w.heap.size + 2) 67 2 16 (.agg #[.int .i64 0, .int .i64 0]) Try.underlying22 (by kernel_rfl) rfl (by decide) a1 n1 c1 _ (by rfl) ((hT.keep (HAL.out _ _)).v1) _ 1 1 (Ck.mk f.site f.count).cells (by rfl) rfl ?_ ?_ ?_ ?_ ?_ ?_ ?_; (rw [rep_one]; exact new_cells2 _ _ _ _); (intro v h; simp at h; rcases h with rfl | rfl <;> rfl); (omega); (omega); (omega); (simp; omega); intro ad' cap' w' hv' hk'; have hT2 := (hT.keep (HAL.out _ _)).push1 hfk hv' hk'; have hB2 : Below w.heap.size w w' := hk'.below ((hB.alloc hB.size _).alloc (by have := hB.size; simp; omega) _) (by have := hB.size; simp; omega) (fun q e => by have := (hT.v1.typed q e).1; omega); have hR2 := (HAL2.out hR).kp hk' (hR.apart hT.v1 (by decide)); have hL2 := (HAL2.out hL).kp hk' (hL.apart hT.v1 (by decide)); have hsz2 : w.heap.size + 2 ≤ w'.heap.size := (by have := hk'.size; simp at this; omega))
          | (refine wpList_bput (by rfl) _ _ 22 (by rfl) (w.heap.size + 1) 75 2 (by rfl) _ (.slice _ _ _) (by rfl) hL2 (by kernel_rfl) (by simp) (by rfl) (by rfl) ?_; intro w9 hL9 hU9; have hT9 := hT2.upd hU9 (by omega); have hR9 := hR2.upd hU9 (by omega); have hB9 := hU9.below hB2 (by omega); have hz9 : w.heap.size + 2 ≤ w9.heap.size := (by rw [hU9.size]; exact hsz2); dsimp only [List.set] at hL9))
        rw [← HTK.out] at hT9
        go_roundw
        case rel => exact ⟨i + 1, ad', (n1 + 1), cap', a2, n2, c2, a3, n3, c3, by omega, by omega, by go_num, hL9, hT9, hR9, hz9, hB9⟩
        case measure => simp [intOf]; omega

      · have k1 : (f.kind == 1) = false := by rw [hfk]; rfl
        have k2 : (f.kind == 2) = true := by rw [hfk]; rfl
        go_wp2_with (first
          | (refine wpList_bget (by rfl) 23 _ (by rfl) (w.heap.size + 1) 75 3 (by rfl) _ (hL.alloc _) _ (by rfl) _ Try.underlying23 (by rfl) ?_)
          | (at_builtin; refine wpList_pushk (by rfl) _ _ 23 (by rfl) (w.heap.size + 2) 69 5 48 (.agg #[.int .i64 0, .int .i64 0, .int .i64 0, .bool false, .string ⟨#[]⟩]) Try.underlying23 (by kernel_rfl) rfl (by decide) a2 n2 c2 _ (by rfl) ((hT.keep (HAL.out _ _)).v2) _ 1 1 (Cd.mk f.id f.site f.count f.gone f.text).cells (by rfl) rfl ?_ ?_ ?_ ?_ ?_ ?_ ?_; (rw [rep_one]; exact new_cells2 _ _ _ _); (intro v h; simp at h; rcases h with rfl | rfl | rfl | rfl | rfl <;> rfl); (omega); (omega); (omega); (simp; omega); intro ad' cap' w' hv' hk'; have hT2 := (hT.keep (HAL.out _ _)).push2 hfk hv' hk'; have hB2 : Below w.heap.size w w' := hk'.below ((hB.alloc hB.size _).alloc (by have := hB.size; simp; omega) _) (by have := hB.size; simp; omega) (fun q e => by have := (hT.v2.typed q e).1; omega); have hR2 := (HAL2.out hR).kp hk' (hR.apart hT.v2 (by decide)); have hL2 := (HAL2.out hL).kp hk' (hL.apart hT.v2 (by decide)); have hsz2 : w.heap.size + 2 ≤ w'.heap.size := (by have := hk'.size; simp at this; omega))
          | (refine wpList_bput (by rfl) _ _ 23 (by rfl) (w.heap.size + 1) 75 3 (by rfl) _ (.slice _ _ _) (by rfl) hL2 (by kernel_rfl) (by simp) (by rfl) (by rfl) ?_; intro w9 hL9 hU9; have hT9 := hT2.upd hU9 (by omega); have hR9 := hR2.upd hU9 (by omega); have hB9 := hU9.below hB2 (by omega); have hz9 : w.heap.size + 2 ≤ w9.heap.size := (by rw [hU9.size]; exact hsz2); dsimp only [List.set] at hL9))
        rw [← HTK.out] at hT9
        go_roundw
        case rel => exact ⟨i + 1, a1, n1, c1, ad', (n2 + 1), cap', a3, n3, c3, by omega, by omega, by go_num, hL9, hT9, hR9, hz9, hB9⟩
        case measure => simp [intOf]; omega

      · have k1 : (f.kind == 1) = false := by rw [hfk]; rfl
        have k2 : (f.kind == 2) = false := by rw [hfk]; rfl
        go_wp2_with (first
          | (refine wpList_bget (by rfl) 24 _ (by rfl) (w.heap.size + 1) 75 4 (by rfl) _ (hL.alloc _) _ (by rfl) _ Try.underlying24 (by rfl) ?_)
          | (at_builtin; refine wpList_pushk (by rfl) _ _ 24 (by rfl) (w.heap.size + 2) 71 2 24 (.agg #[.int .i64 0, .string ⟨#[]⟩]) Try.underlying24 (by kernel_rfl) rfl (by decide) a3 n3 c3 _ (by rfl) ((hT.keep (HAL.out _ _)).v3) _ 1 1 (Ed.mk f.id f.text).cells (by rfl) rfl ?_ ?_ ?_ ?_ ?_ ?_ ?_; (rw [rep_one]; exact new_cells2 _ _ _ _); (intro v h; simp at h; rcases h with rfl | rfl <;> rfl); (omega); (omega); (omega); (simp; omega); intro ad' cap' w' hv' hk'; have hT2 := (hT.keep (HAL.out _ _)).push3 hfk hv' hk'; have hB2 : Below w.heap.size w w' := hk'.below ((hB.alloc hB.size _).alloc (by have := hB.size; simp; omega) _) (by have := hB.size; simp; omega) (fun q e => by have := (hT.v3.typed q e).1; omega); have hR2 := (HAL2.out hR).kp hk' (hR.apart hT.v3 (by decide)); have hL2 := (HAL2.out hL).kp hk' (hL.apart hT.v3 (by decide)); have hsz2 : w.heap.size + 2 ≤ w'.heap.size := (by have := hk'.size; simp at this; omega))
          | (refine wpList_bput (by rfl) _ _ 24 (by rfl) (w.heap.size + 1) 75 4 (by rfl) _ (.slice _ _ _) (by rfl) hL2 (by kernel_rfl) (by simp) (by rfl) (by rfl) ?_; intro w9 hL9 hU9; have hT9 := hT2.upd hU9 (by omega); have hR9 := hR2.upd hU9 (by omega); have hB9 := hU9.below hB2 (by omega); have hz9 : w.heap.size + 2 ≤ w9.heap.size := (by rw [hU9.size]; exact hsz2); dsimp only [List.set] at hL9))
        rw [← HTK.out] at hT9
        go_roundw
        case rel => exact ⟨i + 1, a1, n1, c1, a2, n2, c2, ad', (n3 + 1), cap', by omega, by omega, by go_num, hL9, hT9, hR9, hz9, hB9⟩
        case measure => simp [intOf]; omega

    · have hi3 : i = N := by omega
      subst hi3
      rw [List.take_of_length_le (by rw [← HN.out]; exact Nat.le_refl _)] at hT
      go_wp2_with (first
        | (refine wpList_bload (by rfl) _ _ (by rfl) (w.heap.size + 1) 75 (by rfl) _ hL _ Try.underlying75 (by rfl) 5 (by rfl) (by kernel_rfl) ?_)
        | (refine wpList_bstore (by rfl) _ _ _ (by rfl) w.heap.size 75 (by rfl) _ _ (by rfl) hR 5 (by rfl) (by kernel_rfl) (by rfl) (by intro x hx; simp at hx; rcases hx with rfl | rfl | rfl | rfl | rfl <;> rfl) ?_; intro w8 hR9 hU9; replace hT := hT.upd hU9 (by omega); replace hB := hU9.below hB (by omega); clear hU9))
      exact bodyPost_ret (v := .agg (lnkC sq bs a1 n1 c1 a2 n2 c2 a3 n3 c3).toArray) (results_box1 (by rfl) _ _ w.heap.size 75 _ _ (by rfl) hR9 Try.underlying75 (by rfl) 5 (by rfl) (by kernel_rfl)) rfl ⟨a1, _, c1, a2, _, c2, a3, _, c3, rfl, ⟨hT.v1.mono (by omega), hT.v2.mono (by omega), hT.v3.mono (by omega), hT.e1, hT.e2, hT.e3⟩, hB⟩
end Go.Proofs.Ytdjpkgaicmklmaa

/- Read of the reference: walked. -/
namespace Go.Proofs.Ytdjpkgaicmklmaa
open Go.RowKit

theorem Bx.drew1 {w : World} {g e : Nat} {cs : List Value} (b : Bx w g e cs) : Bx w.drew g e cs := ⟨b.h⟩
theorem bx5 {w : World} {g e : Nat} {v0 v1 v2 v3 v4 : Value} {x0 x1 x2 x3 x4 : Value} (h : Bx w g e [x0, x1, x2, x3, x4]) : Bx ((((((w.setCell ⟨g, 0, none⟩ v0).setCell ⟨g, 1, none⟩ v1).setCell ⟨g, 2, none⟩ v2).setCell ⟨g, 3, none⟩ v3).setCell ⟨g, 4, none⟩ v4).drew) g e [v0, v1, v2, v3, v4] :=
  by
  have h5 := ((((h.setCell 0 v0).setCell 1 v1).setCell 2 v2).setCell 3 v3).setCell 4 v4
  dsimp only [List.set] at h5
  exact h5.drew1
theorem be5 {w0 w : World} {g : Nat} {v0 v1 v2 v3 v4 : Value} (h : Below g w0 w) : Below g w0 ((((((w.setCell ⟨g, 0, none⟩ v0).setCell ⟨g, 1, none⟩ v1).setCell ⟨g, 2, none⟩ v2).setCell ⟨g, 3, none⟩ v3).setCell ⟨g, 4, none⟩ v4).drew) :=
  ((((((Upd.refl g w).setCell ⟨g, 0, none⟩ rfl v0).setCell ⟨g, 1, none⟩ rfl v1).setCell ⟨g, 2, none⟩ rfl v2).setCell ⟨g, 3, none⟩ rfl v3).setCell ⟨g, 4, none⟩ rfl v4).drew.below h (Nat.le_refl _)
def okB (i : Nat) (p f : Fd) : Bool := if i = 0 then f.kind == 4 else fitB p f
theorem fitsC_any (p f : Fd) (i : Nat) (w : World) : Calls Try.prog 90 #[fdV p, fdV f, .int .i64 i] w fun e w' => e = .returned (.bool (okB i p f)) ∧ Below w.heap.size w w' := by
  by_cases hi : i = 0
  · subst hi; exact fits0_any p f w
  · have := fits_any p f i w hi
    unfold okB; rw [if_neg hi]; exact this
/-- How far the order has been looked at. -/
def OI (l : List Fd) (i : Nat) (p : Fd) : Prop := (i = 0 ∧ p = fd0) ∨ (1 ≤ i ∧ ordRd l = ordF p (l.drop i))
theorem OI.step {l : List Fd} {i : Nat} {p : Fd} (h : OI l i p) (hi : i < l.length) (hk : okB i p (l.getD i fd0) = true) : OI l (i + 1) (l.getD i fd0) := by
  refine Or.inr ⟨by omega, ?_⟩
  rw [getD_lt l i hi] at hk ⊢
  rcases h with ⟨rfl, rfl⟩ | ⟨h1, h2⟩
  · cases l with
    | nil => simp at hi
    | cons f r => simp [okB] at hk; simp only [ordRd]; rw [if_pos hk]; rfl
  · unfold okB at hk; rw [if_neg (by omega)] at hk
    rw [h2, List.drop_eq_getElem_cons hi]; simp only [ordF]; rw [if_pos hk]
theorem OI.bad {l : List Fd} {i : Nat} {p : Fd} (h : OI l i p) (hi : i < l.length) (hk : okB i p (l.getD i fd0) = false) : ordRd l = some (l.getD i fd0).at_ := by
  rw [getD_lt l i hi] at hk ⊢
  rcases h with ⟨rfl, rfl⟩ | ⟨h1, h2⟩
  · cases l with
    | nil => simp at hi
    | cons f r => simp [okB] at hk; simp only [ordRd]; rw [if_neg hk]; rfl
  · unfold okB at hk; rw [if_neg (by omega)] at hk
    rw [h2, List.drop_eq_getElem_cons hi]; simp only [ordF]; rw [if_neg (by rw [hk]; decide)]
theorem OI.done {l : List Fd} {p : Fd} (h : OI l l.length p) (h0 : 0 < l.length) : ordRd l = none := by
  rcases h with ⟨h1, _⟩ | ⟨_, h2⟩
  · omega
  · rw [h2, List.drop_of_length_le (Nat.le_refl _)]; rfl

set_option maxRecDepth 100000 in
set_option maxHeartbeats 4000000 in
theorem rread_any (b : List UInt8) (w : World) (hb : b.length ≤ 1099511627776) :
    Calls Try.prog 44 #[.string (str b)] w fun e w' => ReadAns (readRd b) w.heap.size e w' ∧ Below w.heap.size w w' := by
  have hz := str_size b
  have HZ : Hid ((str b).size = b.length) := hz
  obtain ⟨hR, hW, hB⟩ := one_box w 75 (lnkC 0 0 none 0 0 none 0 0 none 0 0).toArray
  have hbb : (str b).size ≤ 1099511627776 := by omega
  have hx4 : (str b).extract 0 4 = str (b.take 4) := by rw [str_extract]; simp
  by_cases h4 : (str b).size < 4
  · have HN : Hid (readRd b = ansErr 7 0) := by show _ = _; unfold readRd; rw [if_pos (Or.inl (by omega))]
    clear hz
    go_enter Try.func44, Try.ntmps44
    go_wp2_with fail
    exact bodyPost_ret (v := .tuple #[.agg (lnkC 0 0 none 0 0 none 0 0 none 0 0).toArray, .int .i64 7, .int .i64 0]) (results_box3 (by rfl) _ _ w.heap.size 75 _ _ _ _ (by rfl) hR (by rfl) (by rfl) Try.underlying75 (by rfl) 5 (by rfl) (by kernel_rfl)) rfl ⟨by rw [HN.out]; exact ⟨none, 0, 0, none, 0, 0, none, 0, 0, rfl, Lists.nil _ _⟩, hB⟩
  · by_cases hm : b.take 4 = magicB
    · have hmk : ((str (b.take 4)).toList == [80, 82, 67, 49]) = true := by rw [str_toList, hm]; rfl
      have HC : Hid (readRd b = if sealedB b = true then
          if (framed (b.take (b.length - 4))).2 < b.length - 4 then ansErr 9 (framed (b.take (b.length - 4))).2
          else match ordRd (framed (b.take (b.length - 4))).1 with
            | some p => ansErr 10 p
            | none => ansOk (framed (b.take (b.length - 4))).1
        else ansErr 8 0) := by show _ = _; unfold readRd; rw [if_neg (by rintro (h | h); (omega); exact h hm)] <;> rfl
      clear hm
      by_cases h8 : (str b).size < 8
      · have HN : Hid (readRd b = ansErr 8 0) := by
          show _ = _; rw [HC.out, if_neg (by simp [sealedB]; intro h; omega)]
        clear hz HC
        go_enter Try.func44, Try.ntmps44
        go_wp2_with fail
        exact bodyPost_ret (v := .tuple #[.agg (lnkC 0 0 none 0 0 none 0 0 none 0 0).toArray, .int .i64 8, .int .i64 0]) (results_box3 (by rfl) _ _ w.heap.size 75 _ _ _ _ (by rfl) hR (by rfl) (by rfl) Try.underlying75 (by rfl) 5 (by rfl) (by kernel_rfl)) rfl ⟨by rw [HN.out]; exact ⟨none, 0, 0, none, 0, 0, none, 0, 0, rfl, Lists.nil _ _⟩, hB⟩
      · obtain ⟨n, hn⟩ : ∃ n, (str b).size = n + 4 := ⟨(str b).size - 4, by omega⟩
        have hbl : b.length - 4 = n := by omega
        rw [hbl] at HC
        have hx1 : (str b).extract 0 n = str (b.take n) := by rw [str_extract]; simp
        have hx2 : (str b).extract n (n + 4) = str (b.drop n) := by rw [str_extract, List.take_of_length_le (by simp; omega)]
        have hsub : ((n : Int) + 4 - 4) = (n : Int) := by omega
        have hle2 : (n : Int) ≤ (n : Int) + 4 := by omega
        have hnl : (b.take n).length = n := by simp; omega
        have hzn : (str (b.take n)).size = n := by rw [str_size, hnl]
        have h4n : 4 ≤ n := by omega
        have hse : sealedB b = (b.drop n == fourI (crc pSeal (b.take n))) := by
          simp only [sealedB, hbl]; simp [show 8 ≤ b.length by omega]
        have HSE : Hid (sealedB b = (b.drop n == fourI (crc pSeal (b.take n)))) := hse
        have HNL : Hid ((b.take n).length = n) := hnl
        have hc := crc_lt (p := pSeal) (by decide) (b.take n)
        have hnb : n ≤ 1099511627776 := by omega
        clear hz hbl hnl hse h8 hb
        go_enter Try.func44, Try.ntmps44
        go_wp2_with fail
        refine (rseal_any (b.take n) _ (by rw [HNL.out]; omega)).mono ?_
        rintro e w1 ⟨rfl, hb1⟩
        replace hR := hR.below hb1 hR.lt
        replace hB := hB.trans (hb1.mono (Nat.le_trans (Nat.le_succ _) (Nat.le_of_eq hW.symm)))
        clear hb1 hW
        go_wp2_with fail
        refine (rfour_any _ _ (by omega) (by omega)).mono ?_
        rintro e w2 ⟨rfl, hb2⟩
        replace hR := hR.below hb2 hR.lt
        replace hB := hB.trans (hb2.mono hB.size)
        clear hb2
        by_cases hq : fourI (crc pSeal (b.take n)) = b.drop n
        · have hqb : ((str (fourI (crc pSeal (b.take n)))).toList == (str (b.drop n)).toList) = true := by rw [str_beq, hq]; simp
          have hse2 : sealedB b = true := by rw [HSE.out, hq]; simp
          rw [hse2, if_pos rfl] at HC
          clear hse2 HSE hq
          go_wp2_with fail
          generalize hs9 : b.take n = s at *
          clear hs9 hmk hx4 hx1 hx2 hqb hn hsub hle2 h4
          have HS9 : Hid (s.length = n) := HNL.out
          have hwz := hR.lt
          go_loopw [8, 9, 10, 11] (fun v u _ _ wr => ∃ (i : Nat) (ad : Option Addr) (cap N k : Nat) (l : List Fd), i ≤ n ∧ u = .int .i64 i ∧ v = .slice ad N cap ∧ N = l.length ∧ N ≤ i ∧ s.length - i ≤ k ∧ (l ++ (frF k i (s.drop i)).1, (frF k i (s.drop i)).2) = framed s ∧ Vec wr (w.heap.size + 1) 64 9 ad N cap (fcells l) ∧ Bx wr w.heap.size 75 (lnkC 0 0 none 0 0 none 0 0 none 0 0) ∧ Below w.heap.size w wr) (fun _ u _ _ _ => n - (intOf u).toNat)
          case atStart => exact ⟨4, none, 0, 0, s.length, [], h4n, rfl, rfl, rfl, by omega, by omega, by simp [framed], Vec.nil _ _ _ _, hR, hB⟩
          case round =>
            clear hR hB hwz
            obtain ⟨i, ad, cap, N, k, l, hi, rfl, rfl, hN, hNi, hk, hl, hv, hR, hB⟩ := hrel
            have HN2 : Hid (N = l.length) := hN
            have HL : Hid ((l ++ (frF k i (s.drop i)).1, (frF k i (s.drop i)).2) = framed s) := hl
            have HK : Hid (s.length - i ≤ k) := hk
            clear hN hl hk
            by_cases hlt : i < n
            · have hi2 : i ≤ s.length := by rw [HS9.out]; omega
              go_wp2_with fail
              refine (rstands_any s i _ (by rw [HS9.out]; omega) hi2).mono ?_
              rintro e w3 ⟨rfl, hb3⟩
              replace hv := hv.keep hb3
              replace hR := hR.below hb3 hR.lt
              have hwz := hR.lt
              replace hB := hB.trans (hb3.mono hB.size)
              have hz1 := hB.size
              clear hb3
              obtain ⟨k, rfl⟩ : ∃ k', k = k' + 1 := ⟨k - 1, by have := HK.out; have := HS9.out; omega⟩
              have hne : s.drop i ≠ [] := by
                intro h; have := congrArg List.length h; simp at this; have := HS9.out; omega
              cases hst : standRd (s.drop i) with
              | none =>
                have hfr : framed s = (l, i) := by rw [← HL.out, frF_none hst]; simp
                have HN : Hid (readRd b = ansErr 9 i) := by show _ = _; rw [HC.out, hfr]; simp only; rw [if_pos hlt]
                simp only [standV]
                clear hst hne HL hfr HC
                go_wp2_with (refine wpList_bstore (by rfl) _ _ _ (by rfl) w.heap.size 75 (by rfl) _ _ (by rfl) (hR.alloc _) 5 (by rfl) (by kernel_rfl) (by rfl) (by intro x hx; simp at hx; rcases hx with rfl | rfl | rfl | rfl | rfl <;> rfl) ?_; intro w9 hR9 hU9; replace hR := hR9; replace hB := hU9.below (hB.alloc hB.size _) (Nat.le_refl _); clear hR9; clear hU9)
                exact bodyPost_ret (v := .tuple #[.agg (lnkC 0 0 none 0 0 none 0 0 none 0 0).toArray, .int .i64 9, .int .i64 (i : Int)]) (results_box3 (by rfl) _ _ w.heap.size 75 _ _ _ _ (by rfl) hR (by rfl) (by rfl) Try.underlying75 (by rfl) 5 (by rfl) (by kernel_rfl)) rfl ⟨by rw [HN.out]; exact ⟨none, 0, 0, none, 0, 0, none, 0, 0, rfl, Lists.nil _ _⟩, hB⟩
              | some p =>
                obtain ⟨f, q⟩ := p
                have hq7 := standRd_le hst
                simp at hq7
                have HS : Hid (((l ++ [f.putI i]) ++ (frF k (i + q) (s.drop (i + q))).1, (frF k (i + q) (s.drop (i + q))).2) = framed s) := by
                  show _ = _; rw [← HL.out, frF_some hne hst, List.drop_drop]; simp
                have hql : i + q ≤ n := by have := HS9.out; omega
                have hqq : 7 < q := by omega
                simp only [standV]
                clear hst hne HL hq7
                have hn0 : ((q : Int) == 0) = false := by rw [beq_eq_false_iff_ne]; omega
                have HX : Hid (∀ o1 o2, Vec ((w3.alloc o1).alloc o2) (w.heap.size + 1) 64 9 ad N cap (fcells l)) := fun o1 o2 => hv.keep (((Below.refl _ w3).alloc (Nat.le_refl _) _).alloc (by simp) _)
                go_wp2_with (at_builtin; refine wpList_push (by rfl) _ _ 57 (by rfl) (w.heap.size + 1) 64 9 80 (.agg #[.int .i64 0, .int .i64 0, .int .i64 0, .int .i64 0, .int .i64 0, .int .i64 0, .int .i64 0, .bool false, .string ⟨#[]⟩]) Try.underlying57 (by kernel_rfl) rfl (by decide) ad N cap _ (by rfl) (HX.out _ _) _ _ (f.putI i).cells (by rfl) rfl ?_ ?_ ?_ ?_ ?_ ?_; exact new_cells2 _ _ _ _; exact onesF _; (omega); (omega); (simp; omega); intro ad' cap' w' hv' hb' hs')
                have hR2 : Bx w' w.heap.size 75 (lnkC 0 0 none 0 0 none 0 0 none 0 0) := (((hR.alloc _).alloc _)).below hb' (by omega)
                have h2 : Below w.heap.size w w' := ((hB.alloc hz1 _).alloc (by simp; omega) _).trans (hb'.mono (by omega))
                have hv2 : Vec w' (w.heap.size + 1) 64 9 ad' (N + 1) cap' (fcells (l ++ [f.putI i])) := by
                  rw [fcells_append, fcells_one]; exact hv'
                go_roundw
                case rel => exact ⟨i + q, ad', cap', N + 1, k, l ++ [f.putI i], by omega, by go_num, rfl, by have := HN2.out; simp; omega, by omega, by have := HK.out; omega, HS.out, hv2, hR2, h2⟩
                case measure => have := HS9.out; simp [intOf]; omega
            · have he : s.drop i = [] := List.drop_of_length_le (by rw [HS9.out]; omega)
              have hfr : framed s = (l, i) := by rw [← HL.out, he, frF_nil]; simp
              rw [hfr] at HC
              simp only at HC
              rw [if_neg hlt] at HC
              have hkd : ∀ f ∈ l, Kd f := by have := frF_kd s.length 4 (s.drop 4); unfold framed at hfr; rw [hfr] at this; exact this
              have hvl := fvec_lies hv HN2.out
              have hNb : N ≤ 1099511627776 := by omega
              have HKD : Hid (∀ f ∈ l, Kd f) := hkd
              clear HL HK he hfr hkd hNi
              generalize hwr : wr = w5 at *
              clear hwr
              have hwz := hR.lt
              go_wp2_with fail
              clear hlt hzn hi hvl
              have HGP : Hid (w.heap.size < w5.heap.size) := hwz
              have HNE : Hid (∀ q, ad = some q → q.block ≠ w5.heap.size) := fun q hq e => by
                obtain ⟨_, cur, hc⟩ := hv.typed q.block (by rw [hq]; rfl)
                have := (Array.getElem?_eq_some_iff.1 hc).1
                omega
              have hst : Bx (w5.alloc (.cells #[.int .i64 0, .int .i64 0, .int .i64 0, .int .i64 0, .int .i64 0, .int .i64 0, .int .i64 0, .bool false, .string ⟨#[]⟩] 64)) w5.heap.size 64 fd0.cells ∧ Bx (w5.alloc (.cells #[.int .i64 0, .int .i64 0, .int .i64 0, .int .i64 0, .int .i64 0, .int .i64 0, .int .i64 0, .bool false, .string ⟨#[]⟩] 64)) w.heap.size 75 (lnkC 0 0 none 0 0 none 0 0 none 0 0) ∧ Vec (w5.alloc (.cells #[.int .i64 0, .int .i64 0, .int .i64 0, .int .i64 0, .int .i64 0, .int .i64 0, .int .i64 0, .bool false, .string ⟨#[]⟩] 64)) (w.heap.size + 1) 64 9 ad N cap (fcells l) ∧ Below w.heap.size w (w5.alloc (.cells #[.int .i64 0, .int .i64 0, .int .i64 0, .int .i64 0, .int .i64 0, .int .i64 0, .int .i64 0, .bool false, .string ⟨#[]⟩] 64)) := ⟨Bx.new w5 64 #[.int .i64 0, .int .i64 0, .int .i64 0, .int .i64 0, .int .i64 0, .int .i64 0, .int .i64 0, .bool false, .string ⟨#[]⟩], hR.alloc _, hv.keep ((Below.refl _ _).alloc (Nat.le_refl _) _), hB.alloc hB.size _⟩
              have HST : Hid (Bx (w5.alloc (.cells #[.int .i64 0, .int .i64 0, .int .i64 0, .int .i64 0, .int .i64 0, .int .i64 0, .int .i64 0, .bool false, .string ⟨#[]⟩] 64)) w5.heap.size 64 fd0.cells ∧ Bx (w5.alloc (.cells #[.int .i64 0, .int .i64 0, .int .i64 0, .int .i64 0, .int .i64 0, .int .i64 0, .int .i64 0, .bool false, .string ⟨#[]⟩] 64)) w.heap.size 75 (lnkC 0 0 none 0 0 none 0 0 none 0 0) ∧ Vec (w5.alloc (.cells #[.int .i64 0, .int .i64 0, .int .i64 0, .int .i64 0, .int .i64 0, .int .i64 0, .int .i64 0, .bool false, .string ⟨#[]⟩] 64)) (w.heap.size + 1) 64 9 ad N cap (fcells l) ∧ Below w.heap.size w (w5.alloc (.cells #[.int .i64 0, .int .i64 0, .int .i64 0, .int .i64 0, .int .i64 0, .int .i64 0, .int .i64 0, .bool false, .string ⟨#[]⟩] 64))) := hst
              clear hst hv hR hB
              generalize w5.heap.size = gp at *
              go_loopw [13, 14] (fun u _ wr => ∃ (j : Nat) (p : Fd), j ≤ N ∧ u = .int .i64 j ∧ OI l j p ∧ Bx wr gp 64 p.cells ∧ Bx wr w.heap.size 75 (lnkC 0 0 none 0 0 none 0 0 none 0 0) ∧ Vec wr (w.heap.size + 1) 64 9 ad N cap (fcells l) ∧ Below w.heap.size w wr) (fun u _ _ => N - (intOf u).toNat)
              case atStart => exact ⟨0, fd0, Nat.zero_le _, rfl, Or.inl ⟨rfl, rfl⟩, HST.out.1, HST.out.2.1, HST.out.2.2.1, HST.out.2.2.2⟩
              case round =>
                clear HST
                obtain ⟨j, p, hj, rfl, hoi, hP, hR, hv, hB⟩ := hrel
                have HOI : Hid (OI l j p) := hoi
                clear hoi
                have hvl := fvec_lies hv HN2.out
                by_cases hlt : j < N
                · have hjl : j < l.length := by rw [← HN2.out]; exact hlt
                  obtain ⟨b2, o2, hbl2, hix2, d0, d1, d2, d3, d4, d5, d6, d7, d8⟩ := hvl.found cap hlt
                  have HOT : Hid (okB j p (l.getD j fd0) = true → OI l (j + 1) (l.getD j fd0)) := fun h => HOI.out.step hjl h
                  have HOF : Hid (okB j p (l.getD j fd0) = false → ordRd l = some (l.getD j fd0).at_) := fun h => HOI.out.bad hjl h
                  clear HOI hjl hvl
                  generalize l.getD j fd0 = f at *
                  generalize hwr : wr = W at *
                  clear hwr
                  have e0 := hP.cell 0
                  have e1 := hP.cell 1
                  have e2 := hP.cell 2
                  have e3 := hP.cell 3
                  have e4 := hP.cell 4
                  have e5 := hP.cell 5
                  have e6 := hP.cell 6
                  have e7 := hP.cell 7
                  have e8 := hP.cell 8
                  dsimp only [Fd.cells, List.getElem?_cons_zero, List.getElem?_cons_succ] at e0 e1 e2 e3 e4 e5 e6 e7 e8
                  go_wp2_with fail
                  apply merge
                  · intro KEY
                    go_region_law (go_simp; go_at_call 90; refine (fitsC_any p f j _).mono ?_; rintro e w' ⟨rfl, hb'⟩; dsimp only)
                    all_goals
                      have hb9 : Below W.heap.size W w' := Below.trans (Below.drew (Below.refl _ _)) hb'
                      clear hb'
                      revert w'
                      exact KEY.out
                  intro w7 hb7
                  replace hP := hP.below hb7 hP.lt
                  replace hR := hR.below hb7 hR.lt
                  replace hv := hv.keep hb7
                  replace hB := hB.trans (hb7.mono hB.size)
                  replace d0 := (hb7.cell (p := ⟨b2, o2, none⟩) hbl2).trans d0
                  replace d1 := (hb7.cell (p := ⟨b2, o2 + 1, none⟩) hbl2).trans d1
                  replace d2 := (hb7.cell (p := ⟨b2, o2 + 2, none⟩) hbl2).trans d2
                  replace d3 := (hb7.cell (p := ⟨b2, o2 + 3, none⟩) hbl2).trans d3
                  replace d4 := (hb7.cell (p := ⟨b2, o2 + 4, none⟩) hbl2).trans d4
                  replace d5 := (hb7.cell (p := ⟨b2, o2 + 5, none⟩) hbl2).trans d5
                  replace d6 := (hb7.cell (p := ⟨b2, o2 + 6, none⟩) hbl2).trans d6
                  replace d7 := (hb7.cell (p := ⟨b2, o2 + 7, none⟩) hbl2).trans d7
                  replace d8 := (hb7.cell (p := ⟨b2, o2 + 8, none⟩) hbl2).trans d8
                  clear hb7 e0 e1 e2 e3 e4 e5 e6 e7 e8
                  cases hok : okB j p f with
                  | true =>
                    have HOK := HOT.out hok
                    clear HOT HOF hok
                    go_wp2_with (refine wpList_bstore (by rfl) _ _ _ (by rfl) gp 64 (by rfl) _ f.cells (by rfl) hP 9 (by rfl) (by kernel_rfl) (by rfl) (onesF f) ?_; intro w9 hP9 hU9; have hR9 := hR.upd hU9 (fun e => by rw [e] at hR; have := hR.h; rw [hP.h] at this; simp at this); have hv9 := hv.updo hU9 HNE.out; have hB9 := hU9.below hB (Nat.le_of_lt (HGP.out)))
                    go_roundw
                    case rel => exact ⟨j + 1, f, by omega, by go_num, HOK, hP9, hR9, hv9, hB9⟩
                    case measure => simp [intOf]; omega
                  | false =>
                    have HN : Hid (readRd b = ansErr 10 f.at_) := by show _ = _; rw [HC.out, HOF.out hok]
                    clear HOT HOF hok HC
                    have hbn : b2 ≠ w.heap.size := by
                      intro e
                      rw [e, hR.cell] at d8
                      rw [List.getElem?_eq_none (by simp)] at d8
                      cases d8
                    have r0 := hR.cell 0
                    have r1 := hR.cell 1
                    have r2 := hR.cell 2
                    have r3 := hR.cell 3
                    have r4 := hR.cell 4
                    dsimp only [List.getElem?_cons_zero, List.getElem?_cons_succ] at r0 r1 r2 r3 r4
                    have f0 := hR.frozen 0
                    have f1 := hR.frozen 1
                    have f2 := hR.frozen 2
                    have f3 := hR.frozen 3
                    have f4 := hR.frozen 4
                    have HRX : Hid (Bx w7 w.heap.size 75 (lnkC 0 0 none 0 0 none 0 0 none 0 0) ∧ Below w.heap.size w w7) := ⟨hR, hB⟩
                    clear hR hB hP hv
                    go_wp2_with fail
                    go_region_law (fail)
                    all_goals
                      go_wp2_with fail
                    all_goals
                      exact bodyPost_ret (v := .tuple #[.agg (lnkC 0 0 none 0 0 none 0 0 none 0 0).toArray, .int .i64 10, .int .i64 f.at_]) (results_box3 (by rfl) _ _ w.heap.size 75 (lnkC 0 0 none 0 0 none 0 0 none 0 0) _ _ _ (by first | rfl | simp) (bx5 HRX.out.1) (by first | rfl | simp) (by first | rfl | simp) Try.underlying75 (by rfl) 5 (by rfl) (by kernel_rfl)) (by first | rfl | simp) ⟨by rw [HN.out]; exact ⟨none, 0, 0, none, 0, 0, none, 0, 0, rfl, Lists.nil _ _⟩, be5 HRX.out.2⟩
                · have hjN : j = N := by omega
                  subst hjN
                  by_cases hz0 : j = 0
                  · have hn0 : ((j : Int) == 0) = true := by simp [hz0]
                    have HN : Hid (readRd b = ansErr 10 4) := by
                      show _ = _; rw [HC.out]
                      have : l = [] := List.eq_nil_of_length_eq_zero (by have := HN2.out; omega)
                      rw [this]; rfl
                    clear HC HOI hz0 hvl
                    go_wp2_with (refine wpList_bstore (by rfl) _ _ _ (by rfl) w.heap.size 75 (by rfl) _ _ (by rfl) hR 5 (by rfl) (by kernel_rfl) (by rfl) (by intro x hx; simp at hx; rcases hx with rfl | rfl | rfl | rfl | rfl <;> rfl) ?_; intro w9 hR9 hU9; replace hR := hR9; replace hB := hU9.below hB (Nat.le_refl _); clear hR9; clear hU9)
                    exact bodyPost_ret (v := .tuple #[.agg (lnkC 0 0 none 0 0 none 0 0 none 0 0).toArray, .int .i64 10, .int .i64 4]) (results_box3 (by rfl) _ _ w.heap.size 75 _ _ _ _ (by rfl) hR (by rfl) (by rfl) Try.underlying75 (by rfl) 5 (by rfl) (by kernel_rfl)) rfl ⟨by rw [HN.out]; exact ⟨none, 0, 0, none, 0, 0, none, 0, 0, rfl, Lists.nil _ _⟩, hB⟩
                  · have hn0 : ((j : Int) == 0) = false := by simp [hz0]
                    have hord : ordRd l = none := by have h := HOI.out; rw [HN2.out] at h; exact h.done (by have := HN2.out; omega)
                    have HN : Hid (readRd b = ansOk l) := by show _ = _; rw [HC.out, hord]
                    clear HC HOI
                    have hg3 := hR.lt
                    go_wp2_with fail
                    refine (linked_any l ad j cap _ HN2.out hvl (ordered_of hord) (by omega)).mono ?_
                    rintro e w9 ⟨a1, n1, c1, a2, n2, c2, a3, n3, c3, rfl, hT, hb9⟩
                    replace hR := hR.below hb9 hR.lt
                    have hL := hT.lists
                    replace hB := hB.trans (hb9.mono hB.size)
                    clear hb9 hT hord hvl hv hP
                    go_wp2_with (refine wpList_bstore (by rfl) _ _ _ (by rfl) w.heap.size 75 (by rfl) _ _ (by rfl) hR 5 (by rfl) (by kernel_rfl) (by rfl) (by intro x hx; simp at hx; rcases hx with rfl | rfl | rfl | rfl | rfl <;> rfl) ?_; intro w9 hR9 hU9; replace hR := hR9; replace hB := hU9.below hB (Nat.le_refl _); clear hR9; replace hL := hL.upd hU9 hg3; clear hU9)
                    exact bodyPost_ret (v := .tuple #[.agg (lnkC (l.getD 0 fd0).seq (l.getD 0 fd0).base a1 n1 c1 a2 n2 c2 a3 n3 c3).toArray, .int .i64 0, .int .i64 0]) (results_box3 (by rfl) _ _ w.heap.size 75 _ _ _ _ (by rfl) hR (by rfl) (by rfl) Try.underlying75 (by rfl) 5 (by rfl) (by kernel_rfl)) rfl ⟨by rw [HN.out]; exact ⟨a1, _, c1, a2, _, c2, a3, _, c3, rfl, hL.mono (Nat.le_of_lt hg3)⟩, hB⟩
        · have hqb : ((str (fourI (crc pSeal (b.take n)))).toList == (str (b.drop n)).toList) = false := by rw [str_beq, beq_eq_false_iff_ne]; exact hq
          have HN : Hid (readRd b = ansErr 8 0) := by
            show _ = _; rw [HC.out, HSE.out, if_neg]; rw [beq_iff_eq]; exact fun h => hq h.symm
          clear HC HSE hq
          go_wp2_with (refine wpList_bstore (by rfl) _ _ _ (by rfl) w.heap.size 75 (by rfl) _ _ (by rfl) hR 5 (by rfl) (by kernel_rfl) (by rfl) (by intro x hx; simp at hx; rcases hx with rfl | rfl | rfl | rfl | rfl <;> rfl) ?_; intro w9 hR9 hU9; replace hR := hR9; replace hB := hU9.below hB (Nat.le_refl _); clear hR9; clear hU9)
          exact bodyPost_ret (v := .tuple #[.agg (lnkC 0 0 none 0 0 none 0 0 none 0 0).toArray, .int .i64 8, .int .i64 0]) (results_box3 (by rfl) _ _ w.heap.size 75 _ _ _ _ (by rfl) hR (by rfl) (by rfl) Try.underlying75 (by rfl) 5 (by rfl) (by kernel_rfl)) rfl ⟨by rw [HN.out]; exact ⟨none, 0, 0, none, 0, 0, none, 0, 0, rfl, Lists.nil _ _⟩, hB⟩
    · have hmk : ((str (b.take 4)).toList == [80, 82, 67, 49]) = false := by rw [str_toList, beq_eq_false_iff_ne]; exact hm
      have HN : Hid (readRd b = ansErr 7 0) := by show _ = _; unfold readRd; rw [if_pos (Or.inr hm)]
      clear hz hm
      go_enter Try.func44, Try.ntmps44
      go_wp2_with fail
      exact bodyPost_ret (v := .tuple #[.agg (lnkC 0 0 none 0 0 none 0 0 none 0 0).toArray, .int .i64 7, .int .i64 0]) (results_box3 (by rfl) _ _ w.heap.size 75 _ _ _ _ (by rfl) hR (by rfl) (by rfl) Try.underlying75 (by rfl) 5 (by rfl) (by kernel_rfl)) rfl ⟨by rw [HN.out]; exact ⟨none, 0, 0, none, 0, 0, none, 0, 0, rfl, Lists.nil _ _⟩, hB⟩
end Go.Proofs.Ytdjpkgaicmklmaa

/- sameFound, and what own.kept asks: walked. -/
namespace Go.Proofs.Ytdjpkgaicmklmaa
open Go.RowKit

set_option maxRecDepth 100000 in
set_option maxHeartbeats 4000000 in
theorem sameFound_any (N : Nat) (F : Nat → Fd) (a b : Option Addr) (ca cb : Nat) (w : World) (hA : Lies w a N 9 (fun i => (F i).cells)) (hB : Lies w b N 9 (fun i => (F i).cells)) (hN : N ≤ 9223372036854775807) :
    Calls Try.prog 50 #[.slice a N ca, .slice b N cb] w fun e w' => e = .returned (.bool true) ∧ Below w.heap.size w w' := by
  go_enter Try.func50, Try.ntmps50
  go_wp2
  go_loopw [5] (fun u wr => ∃ j : Nat, j ≤ N ∧ u = .int .i64 j ∧ Below w.heap.size w wr) (fun u _ => N - (intOf u).toNat)
  case atStart => exact ⟨0, Nat.zero_le _, rfl, Below.refl _ _⟩
  case round =>
    obtain ⟨j, hj, rfl, hbr⟩ := hrel
    by_cases hlt : j < N
    · obtain ⟨b, o, hbl, hix, c0, c1, c2, c3, c4, c5, c6, c7, c8⟩ := (hA.below hbr).found ca hlt
      obtain ⟨b', o', hbl', hix', d0, d1, d2, d3, d4, d5, d6, d7, d8⟩ := (hB.below hbr).found cb hlt
      go_wp2
      go_quiet (fail)
      go_wp2
      go_roundw
      case rel => exact ⟨j + 1, by omega, by go_num, below_drewN hbr _⟩
      case measure => simp [intOf]; omega
    · go_wp2
      go_ret
      exact ⟨rfl, hbr⟩

theorem books_lies {Sh : List Value → Prop} {w : World} {B e eb m : Nat} {ad : Option Addr} {cap : Nat} {L : List Bk} (h : Books Sh w B e eb m ad cap L) : Lies w ad L.length (m + 1) (fun i => (L.getD i ⟨none, 0, 0, []⟩).cells) := by
  refine Vec.lies (rows := L.map Bk.cells) h.list ?_ (by simp) _ ?_
  · intro r hr; obtain ⟨x, hx, rfl⟩ := List.mem_map.1 hr; simp [(h.each x hx).len]
  · intro i hi; simp [List.getD, hi]
theorem rep_lies {w : World} {B e m : Nat} {ad : Option Addr} {n cap : Nat} {mk : List Value} (h : Vec w B e m ad n cap (rep n mk)) (hm : mk.length = m) : Lies w ad n m (fun _ => mk) := by
  refine Vec.lies (rows := List.replicate n mk) h ?_ (by simp) _ ?_
  · intro r hr; rw [(List.mem_replicate.1 hr).2]; exact hm
  · intro i hi; simp [List.getD, hi]

set_option maxRecDepth 100000 in
set_option maxHeartbeats 4000000 in
theorem rkept_nil (w : World) (go : Nat) (n : Int) (v4 v5 : Value) (hO : Bx w go 41 [.int .i64 n, .slice none 0 0, .slice none 0 0, .slice none 0 0, v4, v5]) :
    Calls Try.prog 94 #[.pointer (some ⟨go, 0, none⟩)] w fun e w' => e = .returned (.bool true) ∧ w' = w := by
  have c1 := hO.cell 1
  have c2 := hO.cell 2
  have c3 := hO.cell 3
  dsimp only [List.getElem?_cons_zero, List.getElem?_cons_succ] at c1 c2 c3
  go_enter Try.func94, Try.ntmps94
  go_wp2_with fail
  go_loopw [3, 4] (fun u _ wr => u = .int .i64 0 ∧ wr = w) (fun _ _ _ => 0)
  case atStart => exact ⟨rfl, rfl⟩
  case round =>
    obtain ⟨rfl, hw⟩ := hrel
    subst hw
    go_wp2_with fail
    go_loopw [5, 6] (fun u _ wr2 => u = .int .i64 0 ∧ wr2 = wr) (fun _ _ _ => 0)
    case atStart => exact ⟨rfl, rfl⟩
    case round =>
      obtain ⟨rfl, hw⟩ := hrel
      subst hw
      go_wp2_with fail
      go_loopw [7, 8] (fun u _ wr2 => u = .int .i64 0 ∧ wr2 = wr) (fun _ _ _ => 0)
      case atStart => exact ⟨rfl, rfl⟩
      case round =>
        obtain ⟨rfl, hw⟩ := hrel
        subst hw
        go_wp2_with fail
        go_ret
        exact ⟨rfl, by first | rfl | trivial⟩
end Go.Proofs.Ytdjpkgaicmklmaa

/- own.kept, walked: each book's list reads its mark. -/
namespace Go.Proofs.Ytdjpkgaicmklmaa
open Go.RowKit

set_option maxRecDepth 100000 in
set_option maxHeartbeats 4000000 in
theorem kept_any (w : World) (B go : Nat) (n : Int) (v1 v2 v3 : Value) (a4 : Option Addr) (c4 : Nat) (L : List Bk) (hO : Bx w go 41 [.int .i64 n, v1, v2, v3, .slice a4 L.length c4, .slice none 0 0]) (hK : Books ShFd w B 64 114 9 a4 c4 L) (hL : L.length ≤ 1004)
    (hR : Hid (∀ w', Below w.heap.size w w' → Calls Try.prog 94 #[.pointer (some ⟨go, 0, none⟩)] w' fun e w'' => e = .returned (.bool true) ∧ Below w'.heap.size w' w'')) :
    Calls Try.prog 46 #[.pointer (some ⟨go, 0, none⟩)] w fun e w' => e = .returned (.bool true) ∧ Below w.heap.size w w' := by
  go_enter Try.func46, Try.ntmps46
  go_wp2_with fail
  go_loopw [3, 4] (fun u _ wr => ∃ i : Nat, i ≤ L.length ∧ u = .int .i64 i ∧ Below w.heap.size w wr) (fun u _ _ => L.length - (intOf u).toNat)
  case atStart => exact ⟨0, Nat.zero_le _, rfl, Below.refl _ _⟩
  case round =>
    obtain ⟨i, hi, rfl, hbr⟩ := hrel
    have hOr := hO.below hbr hO.lt
    have hKr := hK.keep hbr
    have cf := hOr.cell 4
    dsimp only [List.getElem?_cons_zero, List.getElem?_cons_succ] at cf
    by_cases hlt : i < L.length
    · have hx := hKr.each L[i] (List.getElem_mem hlt)
      obtain ⟨b, o, hbl, hix, hc⟩ := (books_lies hKr).at c4 (P := Try.prog) (t := 38) (by kernel_rfl) (by kernel_rfl) hlt
      obtain ⟨f, hf⟩ := hx.shape
      rw [show L.getD i ⟨none, 0, 0, []⟩ = L[i] by simp [List.getD, hlt]] at hc
      have s0 : wr.cell? ⟨b, o, none⟩ = some (.slice (L[i]).ad (L[i]).n (L[i]).cap) := hc 0 _ (by omega) rfl
      have hq : Lies wr (L[i]).ad (L[i]).n 9 (fun _ => f.cells) := rep_lies (by have := hx.vec; rw [hf] at this; exact this) rfl
      have few : (L[i]).n ≤ 1099511627780 := hx.few
      have HE : Hid (∀ j v, j < 9 + 1 → (f.cells)[j]? = some v → wr.cell? ⟨b, o + (j + 1), none⟩ = some v) := fun j v hj hv => hc (j + 1) v (by have := (List.getElem?_eq_some_iff.1 hv).1; simp at this; omega) (by rw [Bk.cells, List.getElem?_cons_succ, hf]; exact hv)
      clear hx hc hf
      generalize L[i] = X at *
      generalize hwr : wr = w5 at *
      clear hwr
      go_wp2_with fail
      go_loopw [4] (fun u wr2 => ∃ k : Nat, k ≤ X.n ∧ u = .int .i64 k ∧ Below w5.heap.size w5 wr2) (fun u _ => X.n - (intOf u).toNat)
      case atStart => exact ⟨0, Nat.zero_le _, rfl, Below.refl _ _⟩
      case round =>
        obtain ⟨k, hk, rfl, hbr2⟩ := hrel
        have cf2 := (hOr.below hbr2 hOr.lt).cell 4
        dsimp only [List.getElem?_cons_zero, List.getElem?_cons_succ] at cf2
        have s2 : wr.cell? ⟨b, o, none⟩ = some (.slice X.ad X.n X.cap) := (hbr2.cell (p := ⟨b, o, none⟩) hbl).trans s0
        by_cases hlt2 : k < X.n
        · obtain ⟨b', o', hbl', hix', d0, d1, d2, d3, d4, d5, d6, d7, d8⟩ := Lies.found (c := fun _ => f) (hq.below hbr2) X.cap hlt2
          have e1 : wr.cell? ⟨b, o + 1, none⟩ = some (.int .i64 f.at_) := (hbr2.cell (p := ⟨b, o + 1, none⟩) hbl).trans (HE.out 0 _ (by omega) rfl)
          have e2 : wr.cell? ⟨b, o + 2, none⟩ = some (.int .i64 f.kind) := (hbr2.cell (p := ⟨b, o + 2, none⟩) hbl).trans (HE.out 1 _ (by omega) rfl)
          have e3 : wr.cell? ⟨b, o + 3, none⟩ = some (.int .i64 f.seq) := (hbr2.cell (p := ⟨b, o + 3, none⟩) hbl).trans (HE.out 2 _ (by omega) rfl)
          have e4 : wr.cell? ⟨b, o + 4, none⟩ = some (.int .i64 f.base) := (hbr2.cell (p := ⟨b, o + 4, none⟩) hbl).trans (HE.out 3 _ (by omega) rfl)
          have e5 : wr.cell? ⟨b, o + 5, none⟩ = some (.int .i64 f.id) := (hbr2.cell (p := ⟨b, o + 5, none⟩) hbl).trans (HE.out 4 _ (by omega) rfl)
          have e6 : wr.cell? ⟨b, o + 6, none⟩ = some (.int .i64 f.site) := (hbr2.cell (p := ⟨b, o + 6, none⟩) hbl).trans (HE.out 5 _ (by omega) rfl)
          have e7 : wr.cell? ⟨b, o + 7, none⟩ = some (.int .i64 f.count) := (hbr2.cell (p := ⟨b, o + 7, none⟩) hbl).trans (HE.out 6 _ (by omega) rfl)
          have e8 : wr.cell? ⟨b, o + 8, none⟩ = some (.bool f.gone) := (hbr2.cell (p := ⟨b, o + 8, none⟩) hbl).trans (HE.out 7 _ (by omega) rfl)
          have e9 : wr.cell? ⟨b, o + 9, none⟩ = some (.string f.text) := (hbr2.cell (p := ⟨b, o + 9, none⟩) hbl).trans (HE.out 8 _ (by omega) rfl)
          go_wp2
          go_quiet (fail)
          go_wp2
          go_roundw
          case rel => exact ⟨k + 1, by omega, by go_num, below_drewN hbr2 _⟩
          case measure => simp [intOf]; omega
        · go_wp2
          go_roundw
          case rel => exact ⟨i + 1, by omega, by go_num, hbr.trans (hbr2.mono hbr.size)⟩
          case measure => simp [intOf]; omega
    · have c5 := hOr.cell 5
      dsimp only [List.getElem?_cons_zero, List.getElem?_cons_succ] at c5
      generalize hwr : wr = w5 at *
      clear hwr
      go_wp2_with fail
      go_loopw [5, 6] (fun u _ wr2 => u = .int .i64 0 ∧ wr2 = w5) (fun _ _ _ => 0)
      case atStart => exact ⟨rfl, rfl⟩
      case round =>
        obtain ⟨rfl, hw⟩ := hrel
        subst hw
        go_wp2_with fail
        refine (hR.out _ hbr).mono ?_
        rintro e w6 ⟨rfl, hb6⟩
        go_wp2_with fail
        go_ret
        exact ⟨rfl, hbr.trans (hb6.mono hbr.size)⟩
end Go.Proofs.Ytdjpkgaicmklmaa

/- The owner writes over what came out: (*parcellaw.own).ofCards, walked. -/
namespace Go.Proofs.Ytdjpkgaicmklmaa
open Go.RowKit

set_option maxRecDepth 100000 in
set_option maxHeartbeats 4000000 in
theorem ofCards_any (w : World) (B B1 go : Nat) (n : Int) (v1 v3 v4 v5 : Value) (ad : Option Addr) (N cap : Nat) (xs : List Value) (a4 : Option Addr) (c4 : Nat) (L : List Bk) (hO : Bx w go 41 [.int .i64 n, v1, .slice a4 L.length c4, v3, v4, v5])
    (hK : Books ShCd w B 69 146 5 a4 c4 L) (hfr : ∀ x, x ∈ L → ∀ b, x.ad = some b → b.block < B1) (hv : Vec w B1 69 5 ad N cap xs) (hN : N ≤ 1099511627776) (hL : L.length ≤ 1000) (hB : B ≤ go) (hB1 : B ≤ B1) (hn0 : 0 ≤ n) (hn1 : n ≤ 1000) (hBw : B ≤ w.heap.size) (hB1w : B1 ≤ w.heap.size) :
    Calls Try.prog 92 #[.pointer (some ⟨go, 0, none⟩), .slice ad N cap] w fun e w' => (∃ v, e = .returned v) ∧ (∃ a5 c5 L5, L5.length = L.length + 4 ∧ Bx w' go 41 [.int .i64 n, v1, .slice a5 L5.length c5, v3, v4, v5] ∧ Books ShCd w' B 69 146 5 a5 c5 L5) ∧ Below B w w' ∧ But3 go 69 146 w w' := by
  have o0 := hO.cell 0
  dsimp only [List.getElem?_cons_zero] at o0
  have hU : Upd go w w := Upd.refl go w
  go_enter Try.func92, Try.ntmps92
  have hO1 := hO
  go_wp2_with fail
  obtain ⟨hM, hW2, hB2⟩ := one_box w 69 ([.int .i64 (-n), .int .i64 0, .int .i64 0, .bool false, .string ⟨#[]⟩] : List Value).toArray
  have z1 := hU.size
  have hU0 : Hid (Upd go w w) := hU
  go_loopw [5] (fun u wr => ∃ (i : Nat) (ys : List Value), i ≤ N ∧ u = .int .i64 i ∧ Vec wr B1 69 5 ad N cap (rep i [.int .i64 (-n), .int .i64 0, .int .i64 0, .bool false, .string ⟨#[]⟩] ++ ys) ∧ Upo (ad.map (·.block)) (w.alloc (.cells ([.int .i64 (-n), .int .i64 0, .int .i64 0, .bool false, .string ⟨#[]⟩] : List Value).toArray 69)) wr) (fun u _ => N - (intOf u).toNat)
  case atStart => exact ⟨0, xs, Nat.zero_le _, rfl, by rw [rep_zero, List.nil_append]; exact (hv.updo hU0.out (fun b hb e1 => hO.apart hv (by decide) (by rw [hb]; simp [e1]))).keep ((Below.refl _ _).alloc (Nat.le_refl _) _), Upo.refl _ _⟩
  case round =>
    obtain ⟨i, ys, hi, rfl, hvi, hup⟩ := hrel
    by_cases hlt : i < N
    · obtain ⟨g, hgd, hgB, hgl⟩ := hvi.form (by omega)
      have HG : Hid (ad = some ⟨g, 0, none⟩) := hgd
      have hgw : g < w.heap.size := by
        obtain ⟨_, cur, hc⟩ := hv.typed g (by rw [hgd]; rfl)
        rw [z1]; exact (Array.getElem?_eq_some_iff.1 hc).1
      have hMr := hM.upo hup (by rw [hgd]; simp; omega)
      have hix := Own.idx (P := Try.prog) (t := 23) (m := 5) HG N cap (by kernel_rfl) (by kernel_rfl) hlt (i : Int) rfl
      clear hgd
      go_wp2_with (first
        | (refine wpList_bload (by rfl) _ _ (by rfl) w.heap.size 69 (by rfl) _ hMr _ Try.underlying69 (by rfl) 5 (by rfl) (by kernel_rfl) ?_)
        | (refine wpList_vstore (by rfl) _ _ 69 (by rfl) B1 69 5 (by kernel_rfl) ad N cap [.int .i64 (-n), .int .i64 0, .int .i64 0, .bool false, .string ⟨#[]⟩] ys i g HG hvi hlt (by rfl) (by intro v h; simp at h; rcases h with rfl | rfl | rfl | rfl | rfl <;> rfl) (by rfl) (by rfl) ?_; intro w5 hv5 hu5))
      have hup2 := hup.upd hu5 (by rw [HG.out]; rfl)
      go_roundw
      case rel => first | exact ⟨i + 1, by omega, by go_num, ⟨_, hv5⟩, hup2⟩ | exact ⟨i + 1, _, by omega, by go_num, hv5, hup2⟩
      case measure => simp [intOf]; omega
    · have hiN : i = N := by omega
      subst hiN
      have hy : ys = [] := by
        have := hvi.length
        rw [List.length_append, rep_length] at this
        exact List.eq_nil_of_length_eq_zero (by simp at this ⊢; omega)
      subst hy
      rw [List.append_nil] at hvi
      have hS := St.start (f := 2) hO hO1 hU0.out hK hfr hv hup hvi (by rfl) (by rfl) hB hB1 hBw (by decide) (by decide) (by decide)
      have hwz : B ≤ wr.heap.size := Nat.le_trans hBw hS.old.size
      have HLL : Hid (L.length = L.length) := rfl
      clear hO hO1 hU0 hK hfr hv hup hvi hM hW2 hB2 hU o0 z1 hi hlt 
      obtain ⟨gm, hgm⟩ : ∃ gm, gm = w.heap.size := ⟨_, rfl⟩
      rw [← hgm] at hS ⊢
      clear hgm
      generalize hWW : wr = W at *
      clear hWW
      obtain ⟨L0, hL0⟩ : ∃ L0, L0 = L.length := ⟨_, rfl⟩
      replace HLL : Hid (L.length = L0) := hL0.symm
      have HL0 : Hid (L0 = L.length) := hL0
      have hLb : L0 ≤ 1000 := by omega
      clear hL0
      go_wp2_with fail
      have hR : Reads1 ShCd W B 69 5 ⟨ad, i, cap, [.int .i64 (-n), .int .i64 0, .int .i64 0, .bool false, .string ⟨#[]⟩]⟩ := ⟨rfl, hS.l.mono hB1, by simp only; omega, ⟨⟨-n, 0, 0, false, ⟨#[]⟩⟩, rfl⟩⟩
      apply merge
      · intro KEY
        have cf := hS.o.cell 2
        have cfa : ∀ o, (W.alloc o).cell? ⟨go, 2, none⟩ = some (.slice a4 L.length c4) := fun o => (hS.o.alloc o).cell 2
        have m0 := hS.k.cell 0
        have m1 := hS.k.cell 1
        have m2 := hS.k.cell 2
        have m3 := hS.k.cell 3
        have m4 := hS.k.cell 4
        dsimp only [List.getElem?_cons_zero, List.getElem?_cons_succ] at cf m0 m1 m2 m3 m4
        have HV : Hid (∀ wX, Below W.heap.size W wX → Vec wX B 146 (5 + 1) a4 L.length c4 (bcells L)) := fun wX hX => hS.b.keep hX
        go_region_law (refine step_pushk (by rfl) _ _ 36 (by rfl) B 146 (5 + 1) 72 (.agg #[.slice none 0 0, .int .i64 0, .int .i64 0, .int .i64 0, .bool false, .string ⟨#[]⟩]) Try.underlying36 (by kernel_rfl) rfl (by decide) a4 L.length c4 _ (by rfl) (HV.out _ ?_) _ _ (Bk.cells (⟨ad, i, cap, [.int .i64 (-n), .int .i64 0, .int .i64 0, .bool false, .string ⟨#[]⟩]⟩ : Bk)) (by rfl) rfl ?_ ?_ ?_ ?_ ?_ ?_; (repeat (first | exact Below.refl _ _ | refine Below.drew ?_ | refine Below.alloc ?_ (by first | omega | (simp; done) | (simp; omega)) _)); (exact newc1 _ _ _); (intro v h; simp at h; rcases h with rfl | rfl | rfl | rfl | rfl | rfl <;> rfl); (omega); (omega); (simp; omega); intro a5 c5 w6 hv6 hk6; obtain ⟨hR6, hX6, hS6, hr6, hf6⟩ := St.six hk6 hS (by repeat (first | exact Below.refl _ _ | refine Below.drew ?_ | refine Below.alloc ?_ (by first | omega | (simp; done) | (simp; omega)) _)) hwz (by decide) hR)
        all_goals
          have hS7 := hS6.book hv6 hk6 hR6 rfl (by decide) (by decide) (by decide) (by simp) hX6
          have hz7 : B ≤ (w6.setCell ⟨go, 2, none⟩ (.slice a5 (L.length + 1) c5)).heap.size := by simp; exact Nat.le_trans hX6 hk6.size
          dsimp only [List.set] at hS7
          have hl7 : (L ++ [(⟨ad, i, cap, [.int .i64 (-n), .int .i64 0, .int .i64 0, .bool false, .string ⟨#[]⟩]⟩ : Bk)]).length = L.length + 1 := by simp
          generalize (w6.setCell ⟨go, 2, none⟩ (.slice a5 (L.length + 1) c5)) = W1 at hS7 hz7 ⊢
          generalize L ++ [(⟨ad, i, cap, [.int .i64 (-n), .int .i64 0, .int .i64 0, .bool false, .string ⟨#[]⟩]⟩ : Bk)] = L1 at hS7 hl7
          clear hv6 hk6 hr6 hf6 hS6 hR6 hX6
          revert a5 c5 W1 L1
          exact KEY.out
      intro a5 c5 W1 hz7 L1 hS7 hl7
      clear hS hwz hR
      rw [← hl7] at hS7 ⊢
      have hl9 := HLL.out
      replace HLL : Hid (L1.length = L0 + 1) := by show _ = _; omega
      have hL1 : L1.length ≤ 1004 := by have := HLL.out; omega
      clear hl7 hl9 hL
      generalize hLq : L1 = L at *
      clear hLq
      have hL : L.length ≤ 1004 := hL1
      clear hL1
      generalize hWq : W1 = W at *
      clear hWq
      generalize hAq : a5 = a4 at *
      clear hAq
      generalize hCq : c5 = c4 at *
      clear hCq
      have hS := hS7
      have hwz := hz7
      clear hS7 hz7
      go_wp2_with (first
        | (refine wpList_bload (by rfl) _ _ (by rfl) gm 69 (by rfl) _ hS.k _ Try.underlying69 (by rfl) 5 (by rfl) (by kernel_rfl) ?_)
        | (at_builtin; refine wpList_pushk (by rfl) _ _ 23 (by rfl) B1 69 5 48 (.agg #[.int .i64 0, .int .i64 0, .int .i64 0, .bool false, .string ⟨#[]⟩]) Try.underlying23 (by kernel_rfl) rfl (by decide) ad i cap _ (by rfl) (hS.l.keep ((Below.refl _ _).alloc (Nat.le_refl _) _)) _ 1 1 [.int .i64 (-n), .int .i64 0, .int .i64 0, .bool false, .string ⟨#[]⟩] (by rfl) rfl ?_ ?_ ?_ ?_ ?_ ?_ ?_; exact newc1 _ (rep 1 [.int .i64 (-n), .int .i64 0, .int .i64 0, .bool false, .string ⟨#[]⟩]) _; (intro v h; simp at h; rcases h with rfl | rfl | rfl | rfl | rfl <;> rfl); (omega); (omega); (omega); (have := hS.old.size; simp; omega); intro a6 c6 w7 hv7 hk7))
      rw [← rep_add] at hv7
      have hS8 := (hS.step ((Below.refl _ _).alloc (Nat.le_refl _) _) hwz).push hk7 (by decide) (by decide) (by simp; omega)
      have hR : Reads1 ShCd w7 B 69 5 ⟨a6, i + 1, c6, [.int .i64 (-n), .int .i64 0, .int .i64 0, .bool false, .string ⟨#[]⟩]⟩ := ⟨rfl, hv7.mono hB1, by simp only; omega, ⟨⟨-n, 0, 0, false, ⟨#[]⟩⟩, rfl⟩⟩
      have hz8 : B ≤ w7.heap.size := by have := hk7.size; simp at this; omega
      clear hS hwz hv7 hk7
      have hS := hS8
      have hwz := hz8
      clear hS8 hz8
      generalize hWq : w7 = W at *
      clear hWq
      apply merge
      · intro KEY
        have cf := hS.o.cell 2
        have cfa : ∀ o, (W.alloc o).cell? ⟨go, 2, none⟩ = some (.slice a4 L.length c4) := fun o => (hS.o.alloc o).cell 2
        have m0 := hS.k.cell 0
        have m1 := hS.k.cell 1
        have m2 := hS.k.cell 2
        have m3 := hS.k.cell 3
        have m4 := hS.k.cell 4
        dsimp only [List.getElem?_cons_zero, List.getElem?_cons_succ] at cf m0 m1 m2 m3 m4
        have HV : Hid (∀ wX, Below W.heap.size W wX → Vec wX B 146 (5 + 1) a4 L.length c4 (bcells L)) := fun wX hX => hS.b.keep hX
        go_region_law (refine step_pushk (by rfl) _ _ 36 (by rfl) B 146 (5 + 1) 72 (.agg #[.slice none 0 0, .int .i64 0, .int .i64 0, .int .i64 0, .bool false, .string ⟨#[]⟩]) Try.underlying36 (by kernel_rfl) rfl (by decide) a4 L.length c4 _ (by rfl) (HV.out _ ?_) _ _ (Bk.cells (⟨a6, i + 1, c6, [.int .i64 (-n), .int .i64 0, .int .i64 0, .bool false, .string ⟨#[]⟩]⟩ : Bk)) (by rfl) rfl ?_ ?_ ?_ ?_ ?_ ?_; (repeat (first | exact Below.refl _ _ | refine Below.drew ?_ | refine Below.alloc ?_ (by first | omega | (simp; done) | (simp; omega)) _)); (exact newc1 _ _ _); (intro v h; simp at h; rcases h with rfl | rfl | rfl | rfl | rfl | rfl <;> rfl); (omega); (omega); (simp; omega); intro a5 c5 w6 hv6 hk6; obtain ⟨hR6, hX6, hS6, hr6, hf6⟩ := St.six hk6 hS (by repeat (first | exact Below.refl _ _ | refine Below.drew ?_ | refine Below.alloc ?_ (by first | omega | (simp; done) | (simp; omega)) _)) hwz (by decide) hR)
        all_goals
          have hS7 := hS6.book hv6 hk6 hR6 rfl (by decide) (by decide) (by decide) (by simp) hX6
          have hz7 : B ≤ (w6.setCell ⟨go, 2, none⟩ (.slice a5 (L.length + 1) c5)).heap.size := by simp; exact Nat.le_trans hX6 hk6.size
          dsimp only [List.set] at hS7
          have hl7 : (L ++ [(⟨a6, i + 1, c6, [.int .i64 (-n), .int .i64 0, .int .i64 0, .bool false, .string ⟨#[]⟩]⟩ : Bk)]).length = L.length + 1 := by simp
          generalize (w6.setCell ⟨go, 2, none⟩ (.slice a5 (L.length + 1) c5)) = W1 at hS7 hz7 ⊢
          generalize L ++ [(⟨a6, i + 1, c6, [.int .i64 (-n), .int .i64 0, .int .i64 0, .bool false, .string ⟨#[]⟩]⟩ : Bk)] = L1 at hS7 hl7
          clear hv6 hk6 hr6 hf6 hS6 hR6 hX6
          revert a5 c5 W1 L1
          exact KEY.out
      intro a5 c5 W1 hz7 L1 hS7 hl7
      clear hS hwz hR
      rw [← hl7] at hS7 ⊢
      have hl9 := HLL.out
      replace HLL : Hid (L1.length = L0 + 2) := by show _ = _; omega
      have hL1 : L1.length ≤ 1004 := by have := HLL.out; omega
      clear hl7 hl9 hL
      generalize hLq : L1 = L at *
      clear hLq
      have hL : L.length ≤ 1004 := hL1
      clear hL1
      generalize hWq : W1 = W at *
      clear hWq
      generalize hAq : a5 = a4 at *
      clear hAq
      generalize hCq : c5 = c4 at *
      clear hCq
      have hS := hS7
      have hwz := hz7
      clear hS7 hz7
      go_wp2_with (first
        | (refine wpList_bload (by rfl) _ _ (by rfl) gm 69 (by rfl) _ hS.k _ Try.underlying69 (by rfl) 5 (by rfl) (by kernel_rfl) ?_)
        | (at_builtin; refine wpList_pushk (by rfl) _ _ 23 (by rfl) B1 69 5 48 (.agg #[.int .i64 0, .int .i64 0, .int .i64 0, .bool false, .string ⟨#[]⟩]) Try.underlying23 (by kernel_rfl) rfl (by decide) ad i cap _ (by rfl) (hS.l.keep ((Below.refl _ _).alloc (Nat.le_refl _) _)) _ 2 2 [.int .i64 (-n), .int .i64 0, .int .i64 0, .bool false, .string ⟨#[]⟩] (by rfl) rfl ?_ ?_ ?_ ?_ ?_ ?_ ?_; exact newc1 _ (rep 2 [.int .i64 (-n), .int .i64 0, .int .i64 0, .bool false, .string ⟨#[]⟩]) _; (intro v h; simp at h; rcases h with rfl | rfl | rfl | rfl | rfl <;> rfl); (omega); (omega); (omega); (have := hS.old.size; simp; omega); intro a6 c6 w7 hv7 hk7))
      rw [← rep_add] at hv7
      have hS8 := (hS.step ((Below.refl _ _).alloc (Nat.le_refl _) _) hwz).push hk7 (by decide) (by decide) (by simp; omega)
      have hR : Reads1 ShCd w7 B 69 5 ⟨a6, i + 2, c6, [.int .i64 (-n), .int .i64 0, .int .i64 0, .bool false, .string ⟨#[]⟩]⟩ := ⟨rfl, hv7.mono hB1, by simp only; omega, ⟨⟨-n, 0, 0, false, ⟨#[]⟩⟩, rfl⟩⟩
      have hz8 : B ≤ w7.heap.size := by have := hk7.size; simp at this; omega
      clear hS hwz hv7 hk7
      have hS := hS8
      have hwz := hz8
      clear hS8 hz8
      generalize hWq : w7 = W at *
      clear hWq
      apply merge
      · intro KEY
        have cf := hS.o.cell 2
        have cfa : ∀ o, (W.alloc o).cell? ⟨go, 2, none⟩ = some (.slice a4 L.length c4) := fun o => (hS.o.alloc o).cell 2
        have m0 := hS.k.cell 0
        have m1 := hS.k.cell 1
        have m2 := hS.k.cell 2
        have m3 := hS.k.cell 3
        have m4 := hS.k.cell 4
        dsimp only [List.getElem?_cons_zero, List.getElem?_cons_succ] at cf m0 m1 m2 m3 m4
        have HV : Hid (∀ wX, Below W.heap.size W wX → Vec wX B 146 (5 + 1) a4 L.length c4 (bcells L)) := fun wX hX => hS.b.keep hX
        go_region_law (refine step_pushk (by rfl) _ _ 36 (by rfl) B 146 (5 + 1) 72 (.agg #[.slice none 0 0, .int .i64 0, .int .i64 0, .int .i64 0, .bool false, .string ⟨#[]⟩]) Try.underlying36 (by kernel_rfl) rfl (by decide) a4 L.length c4 _ (by rfl) (HV.out _ ?_) _ _ (Bk.cells (⟨a6, i + 2, c6, [.int .i64 (-n), .int .i64 0, .int .i64 0, .bool false, .string ⟨#[]⟩]⟩ : Bk)) (by rfl) rfl ?_ ?_ ?_ ?_ ?_ ?_; (repeat (first | exact Below.refl _ _ | refine Below.drew ?_ | refine Below.alloc ?_ (by first | omega | (simp; done) | (simp; omega)) _)); (exact newc1 _ _ _); (intro v h; simp at h; rcases h with rfl | rfl | rfl | rfl | rfl | rfl <;> rfl); (omega); (omega); (simp; omega); intro a5 c5 w6 hv6 hk6; obtain ⟨hR6, hX6, hS6, hr6, hf6⟩ := St.six hk6 hS (by repeat (first | exact Below.refl _ _ | refine Below.drew ?_ | refine Below.alloc ?_ (by first | omega | (simp; done) | (simp; omega)) _)) hwz (by decide) hR)
        all_goals
          have hS7 := hS6.book hv6 hk6 hR6 rfl (by decide) (by decide) (by decide) (by simp) hX6
          have hz7 : B ≤ (w6.setCell ⟨go, 2, none⟩ (.slice a5 (L.length + 1) c5)).heap.size := by simp; exact Nat.le_trans hX6 hk6.size
          dsimp only [List.set] at hS7
          have hl7 : (L ++ [(⟨a6, i + 2, c6, [.int .i64 (-n), .int .i64 0, .int .i64 0, .bool false, .string ⟨#[]⟩]⟩ : Bk)]).length = L.length + 1 := by simp
          generalize (w6.setCell ⟨go, 2, none⟩ (.slice a5 (L.length + 1) c5)) = W1 at hS7 hz7 ⊢
          generalize L ++ [(⟨a6, i + 2, c6, [.int .i64 (-n), .int .i64 0, .int .i64 0, .bool false, .string ⟨#[]⟩]⟩ : Bk)] = L1 at hS7 hl7
          clear hv6 hk6 hr6 hf6 hS6 hR6 hX6
          revert a5 c5 W1 L1
          exact KEY.out
      intro a5 c5 W1 hz7 L1 hS7 hl7
      clear hS hwz hR
      rw [← hl7] at hS7 ⊢
      have hl9 := HLL.out
      replace HLL : Hid (L1.length = L0 + 3) := by show _ = _; omega
      have hL1 : L1.length ≤ 1004 := by have := HLL.out; omega
      clear hl7 hl9 hL
      generalize hLq : L1 = L at *
      clear hLq
      have hL : L.length ≤ 1004 := hL1
      clear hL1
      generalize hWq : W1 = W at *
      clear hWq
      generalize hAq : a5 = a4 at *
      clear hAq
      generalize hCq : c5 = c4 at *
      clear hCq
      have hS := hS7
      have hwz := hz7
      clear hS7 hz7
      go_wp2_with (first
        | (refine wpList_bload (by rfl) _ _ (by rfl) gm 69 (by rfl) _ hS.k _ Try.underlying69 (by rfl) 5 (by rfl) (by kernel_rfl) ?_)
        | (at_builtin; refine wpList_pushk (by rfl) _ _ 23 (by rfl) B1 69 5 48 (.agg #[.int .i64 0, .int .i64 0, .int .i64 0, .bool false, .string ⟨#[]⟩]) Try.underlying23 (by kernel_rfl) rfl (by decide) ad i cap _ (by rfl) (hS.l.keep ((Below.refl _ _).alloc (Nat.le_refl _) _)) _ 3 3 [.int .i64 (-n), .int .i64 0, .int .i64 0, .bool false, .string ⟨#[]⟩] (by rfl) rfl ?_ ?_ ?_ ?_ ?_ ?_ ?_; exact newc1 _ (rep 3 [.int .i64 (-n), .int .i64 0, .int .i64 0, .bool false, .string ⟨#[]⟩]) _; (intro v h; simp at h; rcases h with rfl | rfl | rfl | rfl | rfl <;> rfl); (omega); (omega); (omega); (have := hS.old.size; simp; omega); intro a6 c6 w7 hv7 hk7))
      rw [← rep_add] at hv7
      have hS8 := (hS.step ((Below.refl _ _).alloc (Nat.le_refl _) _) hwz).push hk7 (by decide) (by decide) (by simp; omega)
      have hR : Reads1 ShCd w7 B 69 5 ⟨a6, i + 3, c6, [.int .i64 (-n), .int .i64 0, .int .i64 0, .bool false, .string ⟨#[]⟩]⟩ := ⟨rfl, hv7.mono hB1, by simp only; omega, ⟨⟨-n, 0, 0, false, ⟨#[]⟩⟩, rfl⟩⟩
      have hz8 : B ≤ w7.heap.size := by have := hk7.size; simp at this; omega
      clear hS hwz hv7 hk7
      have hS := hS8
      have hwz := hz8
      clear hS8 hz8
      generalize hWq : w7 = W at *
      clear hWq
      apply merge
      · intro KEY
        have cf := hS.o.cell 2
        have cfa : ∀ o, (W.alloc o).cell? ⟨go, 2, none⟩ = some (.slice a4 L.length c4) := fun o => (hS.o.alloc o).cell 2
        have m0 := hS.k.cell 0
        have m1 := hS.k.cell 1
        have m2 := hS.k.cell 2
        have m3 := hS.k.cell 3
        have m4 := hS.k.cell 4
        dsimp only [List.getElem?_cons_zero, List.getElem?_cons_succ] at cf m0 m1 m2 m3 m4
        have HV : Hid (∀ wX, Below W.heap.size W wX → Vec wX B 146 (5 + 1) a4 L.length c4 (bcells L)) := fun wX hX => hS.b.keep hX
        go_region_law (refine step_pushk (by rfl) _ _ 36 (by rfl) B 146 (5 + 1) 72 (.agg #[.slice none 0 0, .int .i64 0, .int .i64 0, .int .i64 0, .bool false, .string ⟨#[]⟩]) Try.underlying36 (by kernel_rfl) rfl (by decide) a4 L.length c4 _ (by rfl) (HV.out _ ?_) _ _ (Bk.cells (⟨a6, i + 3, c6, [.int .i64 (-n), .int .i64 0, .int .i64 0, .bool false, .string ⟨#[]⟩]⟩ : Bk)) (by rfl) rfl ?_ ?_ ?_ ?_ ?_ ?_; (repeat (first | exact Below.refl _ _ | refine Below.drew ?_ | refine Below.alloc ?_ (by first | omega | (simp; done) | (simp; omega)) _)); (exact newc1 _ _ _); (intro v h; simp at h; rcases h with rfl | rfl | rfl | rfl | rfl | rfl <;> rfl); (omega); (omega); (simp; omega); intro a5 c5 w6 hv6 hk6; obtain ⟨hR6, hX6, hS6, hr6, hf6⟩ := St.six hk6 hS (by repeat (first | exact Below.refl _ _ | refine Below.drew ?_ | refine Below.alloc ?_ (by first | omega | (simp; done) | (simp; omega)) _)) hwz (by decide) hR)
        all_goals
          have hS7 := hS6.book hv6 hk6 hR6 rfl (by decide) (by decide) (by decide) (by simp) hX6
          have hz7 : B ≤ (w6.setCell ⟨go, 2, none⟩ (.slice a5 (L.length + 1) c5)).heap.size := by simp; exact Nat.le_trans hX6 hk6.size
          dsimp only [List.set] at hS7
          have hl7 : (L ++ [(⟨a6, i + 3, c6, [.int .i64 (-n), .int .i64 0, .int .i64 0, .bool false, .string ⟨#[]⟩]⟩ : Bk)]).length = L.length + 1 := by simp
          generalize (w6.setCell ⟨go, 2, none⟩ (.slice a5 (L.length + 1) c5)) = W1 at hS7 hz7 ⊢
          generalize L ++ [(⟨a6, i + 3, c6, [.int .i64 (-n), .int .i64 0, .int .i64 0, .bool false, .string ⟨#[]⟩]⟩ : Bk)] = L1 at hS7 hl7
          clear hv6 hk6 hr6 hf6 hS6 hR6 hX6
          revert a5 c5 W1 L1
          exact KEY.out
      intro a5 c5 W1 hz7 L1 hS7 hl7
      clear hS hwz hR
      rw [← hl7] at hS7 ⊢
      have hl9 := HLL.out
      replace HLL : Hid (L1.length = L0 + 4) := by show _ = _; omega
      have hL1 : L1.length ≤ 1004 := by have := HLL.out; omega
      clear hl7 hl9 hL
      generalize hLq : L1 = L at *
      clear hLq
      have hL : L.length ≤ 1004 := hL1
      clear hL1
      generalize hWq : W1 = W at *
      clear hWq
      generalize hAq : a5 = a4 at *
      clear hAq
      generalize hCq : c5 = c4 at *
      clear hCq
      have hS := hS7
      have hwz := hz7
      clear hS7 hz7
      exact bodyPost_end (results_none rfl _ _ _) rfl ⟨⟨_, rfl⟩, ⟨_, _, L, by rw [HLL.out, HL0.out], hS.o, ⟨hS.b, fun x hx => (hS.each x hx).1⟩⟩, hS.old, hS.but⟩
end Go.Proofs.Ytdjpkgaicmklmaa

/- The owner writes over what came out: (*parcellaw.own).ofEdits, walked. -/
namespace Go.Proofs.Ytdjpkgaicmklmaa
open Go.RowKit

set_option maxRecDepth 100000 in
set_option maxHeartbeats 4000000 in
theorem ofEdits_any (w : World) (B B1 go : Nat) (n : Int) (v1 v2 v4 v5 : Value) (ad : Option Addr) (N cap : Nat) (xs : List Value) (a4 : Option Addr) (c4 : Nat) (L : List Bk) (hO : Bx w go 41 [.int .i64 n, v1, v2, .slice a4 L.length c4, v4, v5])
    (hK : Books ShEd w B 71 148 2 a4 c4 L) (hfr : ∀ x, x ∈ L → ∀ b, x.ad = some b → b.block < B1) (hv : Vec w B1 71 2 ad N cap xs) (hN : N ≤ 1099511627776) (hL : L.length ≤ 1000) (hB : B ≤ go) (hB1 : B ≤ B1) (hn0 : 0 ≤ n) (hn1 : n ≤ 1000) (hBw : B ≤ w.heap.size) (hB1w : B1 ≤ w.heap.size) :
    Calls Try.prog 93 #[.pointer (some ⟨go, 0, none⟩), .slice ad N cap] w fun e w' => (∃ v, e = .returned v) ∧ (∃ a5 c5 L5, L5.length = L.length + 4 ∧ Bx w' go 41 [.int .i64 n, v1, v2, .slice a5 L5.length c5, v4, v5] ∧ Books ShEd w' B 71 148 2 a5 c5 L5) ∧ Below B w w' ∧ But3 go 71 148 w w' := by
  have o0 := hO.cell 0
  dsimp only [List.getElem?_cons_zero] at o0
  have hU : Upd go w w := Upd.refl go w
  go_enter Try.func93, Try.ntmps93
  have hO1 := hO
  go_wp2_with fail
  obtain ⟨hM, hW2, hB2⟩ := one_box w 71 ([.int .i64 (-n), .string ⟨#[]⟩] : List Value).toArray
  have z1 := hU.size
  have hU0 : Hid (Upd go w w) := hU
  go_loopw [5] (fun u wr => ∃ (i : Nat) (ys : List Value), i ≤ N ∧ u = .int .i64 i ∧ Vec wr B1 71 2 ad N cap (rep i [.int .i64 (-n), .string ⟨#[]⟩] ++ ys) ∧ Upo (ad.map (·.block)) (w.alloc (.cells ([.int .i64 (-n), .string ⟨#[]⟩] : List Value).toArray 71)) wr) (fun u _ => N - (intOf u).toNat)
  case atStart => exact ⟨0, xs, Nat.zero_le _, rfl, by rw [rep_zero, List.nil_append]; exact (hv.updo hU0.out (fun b hb e1 => hO.apart hv (by decide) (by rw [hb]; simp [e1]))).keep ((Below.refl _ _).alloc (Nat.le_refl _) _), Upo.refl _ _⟩
  case round =>
    obtain ⟨i, ys, hi, rfl, hvi, hup⟩ := hrel
    by_cases hlt : i < N
    · obtain ⟨g, hgd, hgB, hgl⟩ := hvi.form (by omega)
      have HG : Hid (ad = some ⟨g, 0, none⟩) := hgd
      have hgw : g < w.heap.size := by
        obtain ⟨_, cur, hc⟩ := hv.typed g (by rw [hgd]; rfl)
        rw [z1]; exact (Array.getElem?_eq_some_iff.1 hc).1
      have hMr := hM.upo hup (by rw [hgd]; simp; omega)
      have hix := Own.idx (P := Try.prog) (t := 24) (m := 2) HG N cap (by kernel_rfl) (by kernel_rfl) hlt (i : Int) rfl
      clear hgd
      go_wp2_with (first
        | (refine wpList_bload (by rfl) _ _ (by rfl) w.heap.size 71 (by rfl) _ hMr _ Try.underlying71 (by rfl) 2 (by rfl) (by kernel_rfl) ?_)
        | (refine wpList_vstore (by rfl) _ _ 71 (by rfl) B1 71 2 (by kernel_rfl) ad N cap [.int .i64 (-n), .string ⟨#[]⟩] ys i g HG hvi hlt (by rfl) (by intro v h; simp at h; rcases h with rfl | rfl <;> rfl) (by rfl) (by rfl) ?_; intro w5 hv5 hu5))
      have hup2 := hup.upd hu5 (by rw [HG.out]; rfl)
      go_roundw
      case rel => first | exact ⟨i + 1, by omega, by go_num, ⟨_, hv5⟩, hup2⟩ | exact ⟨i + 1, _, by omega, by go_num, hv5, hup2⟩
      case measure => simp [intOf]; omega
    · have hiN : i = N := by omega
      subst hiN
      have hy : ys = [] := by
        have := hvi.length
        rw [List.length_append, rep_length] at this
        exact List.eq_nil_of_length_eq_zero (by simp at this ⊢; omega)
      subst hy
      rw [List.append_nil] at hvi
      have hS := St.start (f := 3) hO hO1 hU0.out hK hfr hv hup hvi (by rfl) (by rfl) hB hB1 hBw (by decide) (by decide) (by decide)
      have hwz : B ≤ wr.heap.size := Nat.le_trans hBw hS.old.size
      have HLL : Hid (L.length = L.length) := rfl
      clear hO hO1 hU0 hK hfr hv hup hvi hM hW2 hB2 hU o0 z1 hi hlt 
      obtain ⟨gm, hgm⟩ : ∃ gm, gm = w.heap.size := ⟨_, rfl⟩
      rw [← hgm] at hS ⊢
      clear hgm
      generalize hWW : wr = W at *
      clear hWW
      obtain ⟨L0, hL0⟩ : ∃ L0, L0 = L.length := ⟨_, rfl⟩
      replace HLL : Hid (L.length = L0) := hL0.symm
      have HL0 : Hid (L0 = L.length) := hL0
      have hLb : L0 ≤ 1000 := by omega
      clear hL0
      go_wp2_with fail
      have hR : Reads1 ShEd W B 71 2 ⟨ad, i, cap, [.int .i64 (-n), .string ⟨#[]⟩]⟩ := ⟨rfl, hS.l.mono hB1, by simp only; omega, ⟨⟨-n, ⟨#[]⟩⟩, rfl⟩⟩
      apply merge
      · intro KEY
        have cf := hS.o.cell 3
        have cfa : ∀ o, (W.alloc o).cell? ⟨go, 3, none⟩ = some (.slice a4 L.length c4) := fun o => (hS.o.alloc o).cell 3
        have m0 := hS.k.cell 0
        have m1 := hS.k.cell 1
        dsimp only [List.getElem?_cons_zero, List.getElem?_cons_succ] at cf m0 m1
        have HV : Hid (∀ wX, Below W.heap.size W wX → Vec wX B 148 (2 + 1) a4 L.length c4 (bcells L)) := fun wX hX => hS.b.keep hX
        go_region_law (refine step_pushk (by rfl) _ _ 37 (by rfl) B 148 (2 + 1) 48 (.agg #[.slice none 0 0, .int .i64 0, .string ⟨#[]⟩]) Try.underlying37 (by kernel_rfl) rfl (by decide) a4 L.length c4 _ (by rfl) (HV.out _ ?_) _ _ (Bk.cells (⟨ad, i, cap, [.int .i64 (-n), .string ⟨#[]⟩]⟩ : Bk)) (by rfl) rfl ?_ ?_ ?_ ?_ ?_ ?_; (repeat (first | exact Below.refl _ _ | refine Below.drew ?_ | refine Below.alloc ?_ (by first | omega | (simp; done) | (simp; omega)) _)); (exact newc1 _ _ _); (intro v h; simp at h; rcases h with rfl | rfl | rfl <;> rfl); (omega); (omega); (simp; omega); intro a5 c5 w6 hv6 hk6; obtain ⟨hR6, hX6, hS6, hr6, hf6⟩ := St.six hk6 hS (by repeat (first | exact Below.refl _ _ | refine Below.drew ?_ | refine Below.alloc ?_ (by first | omega | (simp; done) | (simp; omega)) _)) hwz (by decide) hR)
        all_goals
          have hS7 := hS6.book hv6 hk6 hR6 rfl (by decide) (by decide) (by decide) (by simp) hX6
          have hz7 : B ≤ (w6.setCell ⟨go, 3, none⟩ (.slice a5 (L.length + 1) c5)).heap.size := by simp; exact Nat.le_trans hX6 hk6.size
          dsimp only [List.set] at hS7
          have hl7 : (L ++ [(⟨ad, i, cap, [.int .i64 (-n), .string ⟨#[]⟩]⟩ : Bk)]).length = L.length + 1 := by simp
          generalize (w6.setCell ⟨go, 3, none⟩ (.slice a5 (L.length + 1) c5)) = W1 at hS7 hz7 ⊢
          generalize L ++ [(⟨ad, i, cap, [.int .i64 (-n), .string ⟨#[]⟩]⟩ : Bk)] = L1 at hS7 hl7
          clear hv6 hk6 hr6 hf6 hS6 hR6 hX6
          revert a5 c5 W1 L1
          exact KEY.out
      intro a5 c5 W1 hz7 L1 hS7 hl7
      clear hS hwz hR
      rw [← hl7] at hS7 ⊢
      have hl9 := HLL.out
      replace HLL : Hid (L1.length = L0 + 1) := by show _ = _; omega
      have hL1 : L1.length ≤ 1004 := by have := HLL.out; omega
      clear hl7 hl9 hL
      generalize hLq : L1 = L at *
      clear hLq
      have hL : L.length ≤ 1004 := hL1
      clear hL1
      generalize hWq : W1 = W at *
      clear hWq
      generalize hAq : a5 = a4 at *
      clear hAq
      generalize hCq : c5 = c4 at *
      clear hCq
      have hS := hS7
      have hwz := hz7
      clear hS7 hz7
      go_wp2_with (first
        | (refine wpList_bload (by rfl) _ _ (by rfl) gm 71 (by rfl) _ hS.k _ Try.underlying71 (by rfl) 2 (by rfl) (by kernel_rfl) ?_)
        | (at_builtin; refine wpList_pushk (by rfl) _ _ 24 (by rfl) B1 71 2 24 (.agg #[.int .i64 0, .string ⟨#[]⟩]) Try.underlying24 (by kernel_rfl) rfl (by decide) ad i cap _ (by rfl) (hS.l.keep ((Below.refl _ _).alloc (Nat.le_refl _) _)) _ 1 1 [.int .i64 (-n), .string ⟨#[]⟩] (by rfl) rfl ?_ ?_ ?_ ?_ ?_ ?_ ?_; exact newc1 _ (rep 1 [.int .i64 (-n), .string ⟨#[]⟩]) _; (intro v h; simp at h; rcases h with rfl | rfl <;> rfl); (omega); (omega); (omega); (have := hS.old.size; simp; omega); intro a6 c6 w7 hv7 hk7))
      rw [← rep_add] at hv7
      have hS8 := (hS.step ((Below.refl _ _).alloc (Nat.le_refl _) _) hwz).push hk7 (by decide) (by decide) (by simp; omega)
      have hR : Reads1 ShEd w7 B 71 2 ⟨a6, i + 1, c6, [.int .i64 (-n), .string ⟨#[]⟩]⟩ := ⟨rfl, hv7.mono hB1, by simp only; omega, ⟨⟨-n, ⟨#[]⟩⟩, rfl⟩⟩
      have hz8 : B ≤ w7.heap.size := by have := hk7.size; simp at this; omega
      clear hS hwz hv7 hk7
      have hS := hS8
      have hwz := hz8
      clear hS8 hz8
      generalize hWq : w7 = W at *
      clear hWq
      apply merge
      · intro KEY
        have cf := hS.o.cell 3
        have cfa : ∀ o, (W.alloc o).cell? ⟨go, 3, none⟩ = some (.slice a4 L.length c4) := fun o => (hS.o.alloc o).cell 3
        have m0 := hS.k.cell 0
        have m1 := hS.k.cell 1
        dsimp only [List.getElem?_cons_zero, List.getElem?_cons_succ] at cf m0 m1
        have HV : Hid (∀ wX, Below W.heap.size W wX → Vec wX B 148 (2 + 1) a4 L.length c4 (bcells L)) := fun wX hX => hS.b.keep hX
        go_region_law (refine step_pushk (by rfl) _ _ 37 (by rfl) B 148 (2 + 1) 48 (.agg #[.slice none 0 0, .int .i64 0, .string ⟨#[]⟩]) Try.underlying37 (by kernel_rfl) rfl (by decide) a4 L.length c4 _ (by rfl) (HV.out _ ?_) _ _ (Bk.cells (⟨a6, i + 1, c6, [.int .i64 (-n), .string ⟨#[]⟩]⟩ : Bk)) (by rfl) rfl ?_ ?_ ?_ ?_ ?_ ?_; (repeat (first | exact Below.refl _ _ | refine Below.drew ?_ | refine Below.alloc ?_ (by first | omega | (simp; done) | (simp; omega)) _)); (exact newc1 _ _ _); (intro v h; simp at h; rcases h with rfl | rfl | rfl <;> rfl); (omega); (omega); (simp; omega); intro a5 c5 w6 hv6 hk6; obtain ⟨hR6, hX6, hS6, hr6, hf6⟩ := St.six hk6 hS (by repeat (first | exact Below.refl _ _ | refine Below.drew ?_ | refine Below.alloc ?_ (by first | omega | (simp; done) | (simp; omega)) _)) hwz (by decide) hR)
        all_goals
          have hS7 := hS6.book hv6 hk6 hR6 rfl (by decide) (by decide) (by decide) (by simp) hX6
          have hz7 : B ≤ (w6.setCell ⟨go, 3, none⟩ (.slice a5 (L.length + 1) c5)).heap.size := by simp; exact Nat.le_trans hX6 hk6.size
          dsimp only [List.set] at hS7
          have hl7 : (L ++ [(⟨a6, i + 1, c6, [.int .i64 (-n), .string ⟨#[]⟩]⟩ : Bk)]).length = L.length + 1 := by simp
          generalize (w6.setCell ⟨go, 3, none⟩ (.slice a5 (L.length + 1) c5)) = W1 at hS7 hz7 ⊢
          generalize L ++ [(⟨a6, i + 1, c6, [.int .i64 (-n), .string ⟨#[]⟩]⟩ : Bk)] = L1 at hS7 hl7
          clear hv6 hk6 hr6 hf6 hS6 hR6 hX6
          revert a5 c5 W1 L1
          exact KEY.out
      intro a5 c5 W1 hz7 L1 hS7 hl7
      clear hS hwz hR
      rw [← hl7] at hS7 ⊢
      have hl9 := HLL.out
      replace HLL : Hid (L1.length = L0 + 2) := by show _ = _; omega
      have hL1 : L1.length ≤ 1004 := by have := HLL.out; omega
      clear hl7 hl9 hL
      generalize hLq : L1 = L at *
      clear hLq
      have hL : L.length ≤ 1004 := hL1
      clear hL1
      generalize hWq : W1 = W at *
      clear hWq
      generalize hAq : a5 = a4 at *
      clear hAq
      generalize hCq : c5 = c4 at *
      clear hCq
      have hS := hS7
      have hwz := hz7
      clear hS7 hz7
      go_wp2_with (first
        | (refine wpList_bload (by rfl) _ _ (by rfl) gm 71 (by rfl) _ hS.k _ Try.underlying71 (by rfl) 2 (by rfl) (by kernel_rfl) ?_)
        | (at_builtin; refine wpList_pushk (by rfl) _ _ 24 (by rfl) B1 71 2 24 (.agg #[.int .i64 0, .string ⟨#[]⟩]) Try.underlying24 (by kernel_rfl) rfl (by decide) ad i cap _ (by rfl) (hS.l.keep ((Below.refl _ _).alloc (Nat.le_refl _) _)) _ 2 2 [.int .i64 (-n), .string ⟨#[]⟩] (by rfl) rfl ?_ ?_ ?_ ?_ ?_ ?_ ?_; exact newc1 _ (rep 2 [.int .i64 (-n), .string ⟨#[]⟩]) _; (intro v h; simp at h; rcases h with rfl | rfl <;> rfl); (omega); (omega); (omega); (have := hS.old.size; simp; omega); intro a6 c6 w7 hv7 hk7))
      rw [← rep_add] at hv7
      have hS8 := (hS.step ((Below.refl _ _).alloc (Nat.le_refl _) _) hwz).push hk7 (by decide) (by decide) (by simp; omega)
      have hR : Reads1 ShEd w7 B 71 2 ⟨a6, i + 2, c6, [.int .i64 (-n), .string ⟨#[]⟩]⟩ := ⟨rfl, hv7.mono hB1, by simp only; omega, ⟨⟨-n, ⟨#[]⟩⟩, rfl⟩⟩
      have hz8 : B ≤ w7.heap.size := by have := hk7.size; simp at this; omega
      clear hS hwz hv7 hk7
      have hS := hS8
      have hwz := hz8
      clear hS8 hz8
      generalize hWq : w7 = W at *
      clear hWq
      apply merge
      · intro KEY
        have cf := hS.o.cell 3
        have cfa : ∀ o, (W.alloc o).cell? ⟨go, 3, none⟩ = some (.slice a4 L.length c4) := fun o => (hS.o.alloc o).cell 3
        have m0 := hS.k.cell 0
        have m1 := hS.k.cell 1
        dsimp only [List.getElem?_cons_zero, List.getElem?_cons_succ] at cf m0 m1
        have HV : Hid (∀ wX, Below W.heap.size W wX → Vec wX B 148 (2 + 1) a4 L.length c4 (bcells L)) := fun wX hX => hS.b.keep hX
        go_region_law (refine step_pushk (by rfl) _ _ 37 (by rfl) B 148 (2 + 1) 48 (.agg #[.slice none 0 0, .int .i64 0, .string ⟨#[]⟩]) Try.underlying37 (by kernel_rfl) rfl (by decide) a4 L.length c4 _ (by rfl) (HV.out _ ?_) _ _ (Bk.cells (⟨a6, i + 2, c6, [.int .i64 (-n), .string ⟨#[]⟩]⟩ : Bk)) (by rfl) rfl ?_ ?_ ?_ ?_ ?_ ?_; (repeat (first | exact Below.refl _ _ | refine Below.drew ?_ | refine Below.alloc ?_ (by first | omega | (simp; done) | (simp; omega)) _)); (exact newc1 _ _ _); (intro v h; simp at h; rcases h with rfl | rfl | rfl <;> rfl); (omega); (omega); (simp; omega); intro a5 c5 w6 hv6 hk6; obtain ⟨hR6, hX6, hS6, hr6, hf6⟩ := St.six hk6 hS (by repeat (first | exact Below.refl _ _ | refine Below.drew ?_ | refine Below.alloc ?_ (by first | omega | (simp; done) | (simp; omega)) _)) hwz (by decide) hR)
        all_goals
          have hS7 := hS6.book hv6 hk6 hR6 rfl (by decide) (by decide) (by decide) (by simp) hX6
          have hz7 : B ≤ (w6.setCell ⟨go, 3, none⟩ (.slice a5 (L.length + 1) c5)).heap.size := by simp; exact Nat.le_trans hX6 hk6.size
          dsimp only [List.set] at hS7
          have hl7 : (L ++ [(⟨a6, i + 2, c6, [.int .i64 (-n), .string ⟨#[]⟩]⟩ : Bk)]).length = L.length + 1 := by simp
          generalize (w6.setCell ⟨go, 3, none⟩ (.slice a5 (L.length + 1) c5)) = W1 at hS7 hz7 ⊢
          generalize L ++ [(⟨a6, i + 2, c6, [.int .i64 (-n), .string ⟨#[]⟩]⟩ : Bk)] = L1 at hS7 hl7
          clear hv6 hk6 hr6 hf6 hS6 hR6 hX6
          revert a5 c5 W1 L1
          exact KEY.out
      intro a5 c5 W1 hz7 L1 hS7 hl7
      clear hS hwz hR
      rw [← hl7] at hS7 ⊢
      have hl9 := HLL.out
      replace HLL : Hid (L1.length = L0 + 3) := by show _ = _; omega
      have hL1 : L1.length ≤ 1004 := by have := HLL.out; omega
      clear hl7 hl9 hL
      generalize hLq : L1 = L at *
      clear hLq
      have hL : L.length ≤ 1004 := hL1
      clear hL1
      generalize hWq : W1 = W at *
      clear hWq
      generalize hAq : a5 = a4 at *
      clear hAq
      generalize hCq : c5 = c4 at *
      clear hCq
      have hS := hS7
      have hwz := hz7
      clear hS7 hz7
      go_wp2_with (first
        | (refine wpList_bload (by rfl) _ _ (by rfl) gm 71 (by rfl) _ hS.k _ Try.underlying71 (by rfl) 2 (by rfl) (by kernel_rfl) ?_)
        | (at_builtin; refine wpList_pushk (by rfl) _ _ 24 (by rfl) B1 71 2 24 (.agg #[.int .i64 0, .string ⟨#[]⟩]) Try.underlying24 (by kernel_rfl) rfl (by decide) ad i cap _ (by rfl) (hS.l.keep ((Below.refl _ _).alloc (Nat.le_refl _) _)) _ 3 3 [.int .i64 (-n), .string ⟨#[]⟩] (by rfl) rfl ?_ ?_ ?_ ?_ ?_ ?_ ?_; exact newc1 _ (rep 3 [.int .i64 (-n), .string ⟨#[]⟩]) _; (intro v h; simp at h; rcases h with rfl | rfl <;> rfl); (omega); (omega); (omega); (have := hS.old.size; simp; omega); intro a6 c6 w7 hv7 hk7))
      rw [← rep_add] at hv7
      have hS8 := (hS.step ((Below.refl _ _).alloc (Nat.le_refl _) _) hwz).push hk7 (by decide) (by decide) (by simp; omega)
      have hR : Reads1 ShEd w7 B 71 2 ⟨a6, i + 3, c6, [.int .i64 (-n), .string ⟨#[]⟩]⟩ := ⟨rfl, hv7.mono hB1, by simp only; omega, ⟨⟨-n, ⟨#[]⟩⟩, rfl⟩⟩
      have hz8 : B ≤ w7.heap.size := by have := hk7.size; simp at this; omega
      clear hS hwz hv7 hk7
      have hS := hS8
      have hwz := hz8
      clear hS8 hz8
      generalize hWq : w7 = W at *
      clear hWq
      apply merge
      · intro KEY
        have cf := hS.o.cell 3
        have cfa : ∀ o, (W.alloc o).cell? ⟨go, 3, none⟩ = some (.slice a4 L.length c4) := fun o => (hS.o.alloc o).cell 3
        have m0 := hS.k.cell 0
        have m1 := hS.k.cell 1
        dsimp only [List.getElem?_cons_zero, List.getElem?_cons_succ] at cf m0 m1
        have HV : Hid (∀ wX, Below W.heap.size W wX → Vec wX B 148 (2 + 1) a4 L.length c4 (bcells L)) := fun wX hX => hS.b.keep hX
        go_region_law (refine step_pushk (by rfl) _ _ 37 (by rfl) B 148 (2 + 1) 48 (.agg #[.slice none 0 0, .int .i64 0, .string ⟨#[]⟩]) Try.underlying37 (by kernel_rfl) rfl (by decide) a4 L.length c4 _ (by rfl) (HV.out _ ?_) _ _ (Bk.cells (⟨a6, i + 3, c6, [.int .i64 (-n), .string ⟨#[]⟩]⟩ : Bk)) (by rfl) rfl ?_ ?_ ?_ ?_ ?_ ?_; (repeat (first | exact Below.refl _ _ | refine Below.drew ?_ | refine Below.alloc ?_ (by first | omega | (simp; done) | (simp; omega)) _)); (exact newc1 _ _ _); (intro v h; simp at h; rcases h with rfl | rfl | rfl <;> rfl); (omega); (omega); (simp; omega); intro a5 c5 w6 hv6 hk6; obtain ⟨hR6, hX6, hS6, hr6, hf6⟩ := St.six hk6 hS (by repeat (first | exact Below.refl _ _ | refine Below.drew ?_ | refine Below.alloc ?_ (by first | omega | (simp; done) | (simp; omega)) _)) hwz (by decide) hR)
        all_goals
          have hS7 := hS6.book hv6 hk6 hR6 rfl (by decide) (by decide) (by decide) (by simp) hX6
          have hz7 : B ≤ (w6.setCell ⟨go, 3, none⟩ (.slice a5 (L.length + 1) c5)).heap.size := by simp; exact Nat.le_trans hX6 hk6.size
          dsimp only [List.set] at hS7
          have hl7 : (L ++ [(⟨a6, i + 3, c6, [.int .i64 (-n), .string ⟨#[]⟩]⟩ : Bk)]).length = L.length + 1 := by simp
          generalize (w6.setCell ⟨go, 3, none⟩ (.slice a5 (L.length + 1) c5)) = W1 at hS7 hz7 ⊢
          generalize L ++ [(⟨a6, i + 3, c6, [.int .i64 (-n), .string ⟨#[]⟩]⟩ : Bk)] = L1 at hS7 hl7
          clear hv6 hk6 hr6 hf6 hS6 hR6 hX6
          revert a5 c5 W1 L1
          exact KEY.out
      intro a5 c5 W1 hz7 L1 hS7 hl7
      clear hS hwz hR
      rw [← hl7] at hS7 ⊢
      have hl9 := HLL.out
      replace HLL : Hid (L1.length = L0 + 4) := by show _ = _; omega
      have hL1 : L1.length ≤ 1004 := by have := HLL.out; omega
      clear hl7 hl9 hL
      generalize hLq : L1 = L at *
      clear hLq
      have hL : L.length ≤ 1004 := hL1
      clear hL1
      generalize hWq : W1 = W at *
      clear hWq
      generalize hAq : a5 = a4 at *
      clear hAq
      generalize hCq : c5 = c4 at *
      clear hCq
      have hS := hS7
      have hwz := hz7
      clear hS7 hz7
      exact bodyPost_end (results_none rfl _ _ _) rfl ⟨⟨_, rfl⟩, ⟨_, _, L, by rw [HLL.out, HL0.out], hS.o, ⟨hS.b, fun x hx => (hS.each x hx).1⟩⟩, hS.old, hS.but⟩
end Go.Proofs.Ytdjpkgaicmklmaa

