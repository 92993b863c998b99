/- Texts of the proof, one behind the other; what each holds is said at its head. -/
import Derived.Test.YtdjpkgaicmklmabPartTorn5
import Derived.Deep.RegionLaw
import Derived.Test.YtdjpkgaicmklmabPartTorn4
import Derived.Test.YtdjpkgaicmklmabPartTorn1
import Derived.BigQuiet
import Derived.Deep.QuietTactic
import Derived.Test.YtdjpkgaicmklmabPartTorn2
import Derived.Test.YtdjpkgaicmklmabPartTorn3
/- mayFollow of the program, fits of the reference: walked. -/
namespace Go.Proofs.Ytdjpkgaicmklmab
open Go.RowKit

set_option maxRecDepth 100000 in
set_option maxHeartbeats 4000000 in
theorem mayFollow_any (p f : Fd) (w : World) :
    Calls Try.prog 82 #[fdV p, fdV f] w fun e w' => e = .returned (.bool (mayB p f)) ∧ Below w.heap.size w w' := by
  have HB : Hid (Below w.heap.size w ((w.alloc (.cells p.cells.toArray 117)).alloc (.cells f.cells.toArray 117))) := (two_boxes w 117 117 p.cells.toArray f.cells.toArray).2.2.2
  by_cases h4 : f.kind = 4
  · have b4 : (f.kind == 4) = true := by simp [h4]
    have HN : Hid (mayB p f = false) := by show _ = _; simp only [mayB]; rw [if_pos h4]
    clear h4
    go_enter Try.func82, Try.ntmps82
    go_wp2_with fail
    go_ret
    exact ⟨by rw [HN.out]; rfl, HB.out⟩
  · have b4 : (f.kind == 4) = false := by simp [h4]
    by_cases g4 : p.kind = 4
    · have q4 : (p.kind == 4) = true := by simp [g4]
      have HN : Hid (mayB p f = true) := by show _ = _; simp only [mayB]; rw [if_neg h4, if_pos g4]
      clear h4 g4
      go_enter Try.func82, Try.ntmps82
      go_wp2_with fail
      go_ret
      exact ⟨by rw [HN.out]; rfl, HB.out⟩
    · have q4 : (p.kind == 4) = false := by simp [g4]
      by_cases hne : f.kind ≠ p.kind
      · have bne : (f.kind != p.kind) = true := by simpa using hne
        have HN : Hid (mayB p f = decide (p.kind < f.kind)) := by show _ = _; simp only [mayB]; rw [if_neg h4, if_neg g4, if_pos hne]
        clear h4 g4 hne
        go_enter Try.func82, Try.ntmps82
        go_wp2_with fail
        go_ret
        exact ⟨by rw [HN.out]; rfl, HB.out⟩
      · have bne : (f.kind != p.kind) = false := by simpa using hne
        by_cases h1 : f.kind = 1
        · have b1 : (f.kind == 1) = true := by simp [h1]
          have HN : Hid (mayB p f = decide (p.site < f.site)) := by show _ = _; simp only [mayB]; rw [if_neg h4, if_neg g4, if_neg hne, if_pos h1]
          clear h4 g4 hne h1
          go_enter Try.func82, Try.ntmps82
          go_wp2_with fail
          go_ret
          exact ⟨by rw [HN.out]; rfl, HB.out⟩
        · have b1 : (f.kind == 1) = false := by simp [h1]
          by_cases h2 : f.kind = 2
          · have b2 : (f.kind == 2) = true := by simp [h2]
            have HN : Hid (mayB p f = decide (p.id < f.id)) := by show _ = _; simp only [mayB]; rw [if_neg h4, if_neg g4, if_neg hne, if_neg h1, if_pos h2]
            clear h4 g4 hne h1 h2
            go_enter Try.func82, Try.ntmps82
            go_wp2_with fail
            go_ret
            exact ⟨by rw [HN.out]; rfl, HB.out⟩
          · have b2 : (f.kind == 2) = false := by simp [h2]
            have HN : Hid (mayB p f = true) := by show _ = _; simp only [mayB]; rw [if_neg h4, if_neg g4, if_neg hne, if_neg h1, if_neg h2]
            clear h4 g4 hne h1 h2
            go_enter Try.func82, Try.ntmps82
            go_wp2_with fail
            go_ret
            exact ⟨by rw [HN.out]; rfl, HB.out⟩

end Go.Proofs.Ytdjpkgaicmklmab

/- outOfOrder of the program: walked. -/
namespace Go.Proofs.Ytdjpkgaicmklmab
open Go.RowKit

theorem getD_lt (l : List Fd) (i : Nat) (h : i < l.length) : l.getD i fd0 = l[i] := by simp [List.getD, h]
theorem ordF_step {p f : Fd} {l : List Fd} : ordF p (f :: l) = if fitB p f = true then ordF f l else some f.at_ := rfl

set_option maxRecDepth 100000 in
set_option maxHeartbeats 4000000 in
theorem outOfOrder_any (l : List Fd) (ad : Option Addr) (N cap : Nat) (w : World) (hN : N = l.length) (hl : Lies w ad N 9 (fun i => (l.getD i fd0).cells)) (hk : ∀ f, f ∈ l → Kd f) (h4 : ∀ f r, l = f :: r → f.at_ = 4) (hNb : N ≤ 1099511627776) :
    Calls Try.prog 60 #[.slice ad N cap] w fun e w' => e = .returned (.int .i64 ((ordRd l).getD 0)) ∧ Below w.heap.size w w' := by
  cases l with
  | nil =>
    have hn0 : ((N : Int) == 0) = true := by rw [hN]; rfl
    clear hN hl
    go_enter Try.func60, Try.ntmps60
    go_wp2_with fail
    go_ret
    exact ⟨rfl, Below.refl _ _⟩
  | cons f0 r =>
    have HN : Hid (N = (f0 :: r).length) := hN
    have hpos : 0 < N := by rw [hN]; simp
    have hn0 : ((N : Int) == 0) = false := by simp; omega
    obtain ⟨b, o, hbl, hix, c0, c1, -⟩ := hl.found cap hpos
    have hix0 : ∀ w', (Instr.indexAt 93 (.slice ad N cap) (.int .i64 0)).run Try.prog w' = .ok (.pointer (some ⟨b, o, none⟩)) w' := hix
    have hc1 : w.cell? ⟨b, o + 1, none⟩ = some (.int .i64 f0.kind) := c1
    clear hix c0 c1 hN
    by_cases hk0 : f0.kind = 4
    · have hkb : (f0.kind != 4) = false := by rw [hk0]; rfl
      have HO : Hid (ordRd (f0 :: r) = ordF f0 r) := by show _ = _; simp only [ordRd, if_pos hk0]
      clear hk0
      go_enter Try.func60, Try.ntmps60
      go_wp2_with fail
      go_loopw [3] (fun u wr => ∃ i : Nat, 1 ≤ i ∧ i ≤ N ∧ u = .int .i64 i ∧ ordRd (f0 :: r) = ordF ((f0 :: r).getD (i - 1) fd0) ((f0 :: r).drop i) ∧ Below w.heap.size w wr) (fun u _ => N - (intOf u).toNat)
      case atStart => exact ⟨1, by omega, by omega, rfl, HO.out, Below.refl _ _⟩
      case round =>
        obtain ⟨i, hi1, hi, rfl, ho, hbr⟩ := hrel
        have HOI : Hid (ordRd (f0 :: r) = ordF ((f0 :: r).getD (i - 1) fd0) ((f0 :: r).drop i)) := ho
        clear ho
        by_cases hlt : i < N
        · have hil : i < (f0 :: r).length := by rw [← HN.out]; exact hlt
          have hdr : (f0 :: r).drop i = (f0 :: r).getD i fd0 :: (f0 :: r).drop (i + 1) := by
            rw [List.drop_eq_getElem_cons hil, getD_lt _ _ hil]
          have HST : Hid (ordRd (f0 :: r) = if fitB ((f0 :: r).getD (i - 1) fd0) ((f0 :: r).getD i fd0) = true then ordF ((f0 :: r).getD i fd0) ((f0 :: r).drop (i + 1)) else some ((f0 :: r).getD i fd0).at_) := by
            show _ = _; rw [HOI.out, hdr]; rfl
          have hmem : ∀ j, j < (f0 :: r).length → Kd ((f0 :: r).getD j fd0) := fun j hj => by
            rw [getD_lt _ _ hj]; exact hk _ (List.getElem_mem hj)
          have HMF : Hid (mayB ((f0 :: r).getD (i - 1) fd0) ((f0 :: r).getD i fd0) = fitB ((f0 :: r).getD (i - 1) fd0) ((f0 :: r).getD i fd0)) := may_fit (hmem _ (by omega)) (hmem _ hil)
          obtain ⟨b1, o1, hbl1, hix1, c0, c1, c2, c3, c4, c5, c6, c7, c8⟩ := (hl.below hbr).found cap (show i - 1 < N by omega)
          obtain ⟨b2, o2, hbl2, hix2, d0, d1, d2, d3, d4, d5, d6, d7, d8⟩ := (hl.below hbr).found cap hlt
          replace hix1 : ∀ w', (Instr.indexAt 93 (.slice ad N cap) (.int .i64 ((i : Int) - 1))).run Try.prog w' = .ok (.pointer (some ⟨b1, o1, none⟩)) w' := by
            intro w'; have := hix1 w'; rwa [show ((i - 1 : Nat) : Int) = (i : Int) - 1 by omega] at this
          have HD0 : Hid (∀ wX, Below wr.heap.size wr wX → wX.cell? ⟨b2, o2, none⟩ = some (.int .i64 ((f0 :: r).getD i fd0).at_)) := fun wX hX => (hX.cell (p := ⟨b2, o2, none⟩) hbl2).trans d0
          have hwr : IntKind.i64.wrap ((i : Int) - 1) = (i : Int) - 1 := by rw [IntKind.wrap_i64]; omega
          clear hdr hmem HOI hil
          generalize (f0 :: r).getD (i - 1) fd0 = p at *
          generalize hgf : (f0 :: r).getD i fd0 = f at *
          have HGF : Hid ((f0 :: r).getD i fd0 = f) := hgf
          clear hgf
          go_wp2_with fail
          go_region_law (go_simp; go_at_call 82; refine (mayFollow_any p f _).mono ?_; rintro e w' ⟨rfl, hb'⟩; rw [HMF.out]; dsimp only)
          all_goals
            have hb2 : Below wr.heap.size wr w' := Below.trans (Below.drew (Below.refl _ _)) hb'
            have hbw : Below w.heap.size w w' := hbr.trans (hb2.mono hbr.size)
            have hd0 := HD0.out _ hb2
            cases hfit : fitB p f with
            | true =>
              have HS2 : Hid (ordRd (f0 :: r) = ordF f ((f0 :: r).drop (i + 1))) := by show _ = _; rw [HST.out, if_pos hfit]
              clear HST HMF hb' hb2
              go_wp2_with fail
              go_roundw
              case rel => exact ⟨i + 1, by omega, by omega, by go_num, by rw [show i + 1 - 1 = i by omega, HGF.out]; exact HS2.out, hbw⟩
              case measure => simp [intOf]; omega
            | false =>
              have HS2 : Hid ((ordRd (f0 :: r)).getD 0 = f.at_) := by show _ = _; rw [HST.out, hfit]; rfl
              clear HST HMF hb' hb2
              go_wp2_with fail
              go_ret
              exact ⟨by rw [HS2.out]; rfl, hbw⟩
        · have hi3 : i = N := by omega
          subst hi3
          have HE : Hid ((ordRd (f0 :: r)).getD 0 = 0) := by
            show _ = _; rw [HOI.out, List.drop_of_length_le (by rw [← HN.out]; exact Nat.le_refl _)]; rfl
          go_wp2_with fail
          go_ret
          exact ⟨by rw [HE.out]; rfl, hbr⟩
    · have hkb : (f0.kind != 4) = true := by rw [bne_iff_ne]; exact hk0
      have HE : Hid ((ordRd (f0 :: r)).getD 0 = 4) := by show _ = _; simp only [ordRd, if_neg hk0]; exact h4 f0 r rfl
      clear hk0
      go_enter Try.func60, Try.ntmps60
      go_wp2_with fail
      go_ret
      exact ⟨by rw [HE.out]; rfl, Below.refl _ _⟩
end Go.Proofs.Ytdjpkgaicmklmab

/- linkOf of the program: walked. -/
namespace Go.Proofs.Ytdjpkgaicmklmab
open Go.RowKit

set_option maxRecDepth 100000 in
set_option maxHeartbeats 4000000 in
theorem linkOf_any (l : List Fd) (ad : Option Addr) (N cap : Nat) (w : World) (hN : N = l.length) (hl : Lies w ad N 9 (fun i => (l.getD i fd0).cells)) (ho : Ordered l) (hNb : N ≤ 1099511627776) :
    Calls Try.prog 61 #[.slice ad N cap] w fun e w' => ∃ a1 n1 c1 a2 n2 c2 a3 n3 c3, e = .returned (.agg (lnkC (l.getD 0 fd0).seq (l.getD 0 fd0).base a1 n1 c1 a2 n2 c2 a3 n3 c3).toArray) ∧ Three w' w.heap.size l a1 n1 c1 a2 n2 c2 a3 n3 c3 ∧ Below w.heap.size w w' := by
  obtain ⟨hR0, hL0, hs2, hb0⟩ := two_boxes w 45 45 (lnkC 0 0 none 0 0 none 0 0 none 0 0).toArray (lnkC 0 0 none 0 0 none 0 0 none 0 0).toArray
  have HN : Hid (N = l.length) := hN
  have HO : Hid (Ordered l) := ho
  clear hN ho
  have HS : Hid (∃ a1 n1 c1 a2 n2 c2 a3 n3 c3, a1 = some ⟨w.heap.size + 2, 0, none⟩ ∧ n1 = 0 ∧ c1 = 0 ∧ a2 = some ⟨w.heap.size + 3, 0, none⟩ ∧ n2 = 0 ∧ c2 = 0 ∧ a3 = some ⟨w.heap.size + 4, 0, none⟩ ∧ n3 = 0 ∧ c3 = 0 ∧
      Three (((((w.alloc (.cells (lnkC 0 0 none 0 0 none 0 0 none 0 0).toArray 45)).alloc (.cells (lnkC 0 0 none 0 0 none 0 0 none 0 0).toArray 45)).alloc (.cells #[] 72)).alloc (.cells #[] 68)).alloc (.cells #[] 61)) (w.heap.size + 2) [] a1 n1 c1 a2 n2 c2 a3 n3 c3 ∧
      Bx (((((w.alloc (.cells (lnkC 0 0 none 0 0 none 0 0 none 0 0).toArray 45)).alloc (.cells (lnkC 0 0 none 0 0 none 0 0 none 0 0).toArray 45)).alloc (.cells #[] 72)).alloc (.cells #[] 68)).alloc (.cells #[] 61)) w.heap.size 45 (lnkC 0 0 none 0 0 none 0 0 none 0 0) ∧
      Bx (((((w.alloc (.cells (lnkC 0 0 none 0 0 none 0 0 none 0 0).toArray 45)).alloc (.cells (lnkC 0 0 none 0 0 none 0 0 none 0 0).toArray 45)).alloc (.cells #[] 72)).alloc (.cells #[] 68)).alloc (.cells #[] 61)) (w.heap.size + 1) 45 (lnkC 0 0 none 0 0 none 0 0 none 0 0) ∧
      Below w.heap.size w (((((w.alloc (.cells (lnkC 0 0 none 0 0 none 0 0 none 0 0).toArray 45)).alloc (.cells (lnkC 0 0 none 0 0 none 0 0 none 0 0).toArray 45)).alloc (.cells #[] 72)).alloc (.cells #[] 68)).alloc (.cells #[] 61)) ∧
      w.heap.size + 2 ≤ (((((w.alloc (.cells (lnkC 0 0 none 0 0 none 0 0 none 0 0).toArray 45)).alloc (.cells (lnkC 0 0 none 0 0 none 0 0 none 0 0).toArray 45)).alloc (.cells #[] 72)).alloc (.cells #[] 68)).alloc (.cells #[] 61)).heap.size) := by
    have q1 := Vec.lit ((w.alloc (.cells (lnkC 0 0 none 0 0 none 0 0 none 0 0).toArray 45)).alloc (.cells (lnkC 0 0 none 0 0 none 0 0 none 0 0).toArray 45)) (w.heap.size + 2) 72 2 0 [] (Nat.le_of_eq hs2.symm) (by omega) rfl
    have q2 := Vec.lit (((w.alloc (.cells (lnkC 0 0 none 0 0 none 0 0 none 0 0).toArray 45)).alloc (.cells (lnkC 0 0 none 0 0 none 0 0 none 0 0).toArray 45)).alloc (.cells #[] 72)) (w.heap.size + 2) 68 5 0 [] (by rw [World.size_alloc, hs2]; omega) (by omega) rfl
    have q3 := Vec.lit ((((w.alloc (.cells (lnkC 0 0 none 0 0 none 0 0 none 0 0).toArray 45)).alloc (.cells (lnkC 0 0 none 0 0 none 0 0 none 0 0).toArray 45)).alloc (.cells #[] 72)).alloc (.cells #[] 68)) (w.heap.size + 2) 61 2 0 [] (by rw [World.size_alloc, World.size_alloc, hs2]; omega) (by omega) rfl
    rw [hs2] at q1
    rw [World.size_alloc, hs2] at q2
    rw [World.size_alloc, World.size_alloc, hs2] at q3
    refine ⟨_, 0, 0, _, 0, 0, _, 0, 0, rfl, rfl, rfl, rfl, rfl, rfl, rfl, rfl, rfl, ⟨?_, ?_, q3, rfl, rfl, rfl⟩, ((hR0.alloc _).alloc _).alloc _, ((hL0.alloc _).alloc _).alloc _, ((hb0.alloc (by rw [hs2]; omega) _).alloc (by rw [World.size_alloc, hs2]; omega) _).alloc (by rw [World.size_alloc, World.size_alloc, hs2]; omega) _, by rw [World.size_alloc, World.size_alloc, World.size_alloc, hs2]; omega⟩
    · exact (q1.keep ((Below.refl _ _).alloc (Nat.le_refl _) _)).keep ((Below.refl _ _).alloc (Nat.le_refl _) _)
    · exact q2.keep ((Below.refl _ _).alloc (Nat.le_refl _) _)
  clear hR0 hL0 hs2 hb0
  go_enter Try.func61, Try.ntmps61
  go_wp2_with fail
  go_loopw [4, 5, 6, 7, 8] (fun x1 x2 x3 u _ wr => ∃ (i : Nat) (a1 : Option Addr) (n1 c1 : Nat) (a2 : Option Addr) (n2 c2 : Nat) (a3 : Option Addr) (n3 c3 : Nat), i ≤ N ∧ u = .int .i64 i ∧ x1 = .slice a1 n1 c1 ∧ x2 = .slice a2 n2 c2 ∧ x3 = .slice a3 n3 c3 ∧
    Bx wr (w.heap.size + 1) 45 (lnkC (if i = 0 then 0 else (l.getD 0 fd0).seq) (if i = 0 then 0 else (l.getD 0 fd0).base) none 0 0 none 0 0 none 0 0) ∧ Three wr (w.heap.size + 2) (l.take i) a1 n1 c1 a2 n2 c2 a3 n3 c3 ∧ Bx wr w.heap.size 45 (lnkC 0 0 none 0 0 none 0 0 none 0 0) ∧ w.heap.size + 2 ≤ wr.heap.size ∧ Below w.heap.size w wr) (fun _ _ _ u _ _ => N - (intOf u).toNat)
  case atStart =>
    obtain ⟨_, _, _, _, _, _, _, _, _, rfl, rfl, rfl, rfl, rfl, rfl, rfl, rfl, rfl, t, r1, r2, bb, zz⟩ := HS.out
    exact ⟨0, _, _, _, _, _, _, _, _, _, Nat.zero_le _, rfl, rfl, rfl, rfl, r2, by rw [List.take_zero]; exact t, r1, zz, bb⟩
  case round =>
    clear HS
    obtain ⟨i, a1, n1, c1, a2, n2, c2, a3, n3, c3, hi, rfl, rfl, rfl, rfl, hL, hT, hR, hz, hB⟩ := hrel
    have q1 : n1 ≤ 1099511627776 := by rw [hT.e1]; have := ckOf_le (l.take i); simp at this; omega
    have q2 : n2 ≤ 1099511627776 := by rw [hT.e2]; have := cdOf_le (l.take i); simp at this; omega
    have q3 : n3 ≤ 1099511627776 := by rw [hT.e3]; have := edOf_le (l.take i); simp at this; omega
    have HAL : Hid (∀ o1 o2, Below wr.heap.size wr ((wr.alloc o1).alloc o2)) := fun o1 o2 => ((Below.refl _ wr).alloc (Nat.le_refl _) _).alloc (by simp) _
    have HAL2 : Hid (∀ {g e : Nat} {cs : List Value} {o1 o2 : Obj}, Bx wr g e cs → Bx ((wr.alloc o1).alloc o2) g e cs) := fun h => (h.alloc _).alloc _
    by_cases hlt : i < N
    · have hil : i < l.length := by rw [← HN.out]; exact hlt
      obtain ⟨b, o, hbl, hix, c0', c1', c2', c3', c4', c5', c6', c7', c8'⟩ := (hl.below hB).found cap hlt
      have HTK : Hid (l.take (i + 1) = l.take i ++ [l.getD i fd0]) := by
        show _ = _; rw [List.take_add_one, List.getElem?_eq_getElem hil]; simp [List.getD, hil]
      have hkd : (i = 0 ∧ (l.getD i fd0).kind = 4) ∨ (0 < i ∧ ((l.getD i fd0).kind = 1 ∨ (l.getD i fd0).kind = 2 ∨ (l.getD i fd0).kind = 3)) := by
        by_cases h0 : i = 0
        · subst h0; exact Or.inl ⟨rfl, HO.out.first⟩
        · exact Or.inr ⟨by omega, HO.out.rest i (by omega) hil⟩
      rcases hkd with ⟨hi0, hfk⟩ | ⟨hi0, hfk⟩
      · subst hi0
        have hix0 : ∀ w', (Instr.indexAt 93 (.slice ad N cap) (.int .i64 0)).run Try.prog w' = .ok (.pointer (some ⟨b, o, none⟩)) w' := hix
        generalize hgf : l.getD 0 fd0 = f at *
        have HFK : Hid (f.kind = 4) := hfk
        have kb : (f.kind == 4) = true := by rw [hfk]; rfl
        simp only [↓reduceIte] at hL
        have hT2 : Three wr (w.heap.size + 2) (l.take 1) a1 n1 c1 a2 n2 c2 a3 n3 c3 := by rw [HTK.out]; exact hT.head hfk
        have al1 : ∀ o, Below wr.heap.size wr (wr.alloc o) := fun o => (Below.refl _ wr).alloc (Nat.le_refl _) _
        have hLx := hL.alloc (.cells f.cells.toArray 117)
        have hRx := hR.alloc (.cells f.cells.toArray 117)
        have hTx := hT2.keep (al1 (.cells f.cells.toArray 117))
        have hBx := hB.trans ((al1 (.cells f.cells.toArray 117)).mono hB.size)
        have hzx : w.heap.size + 2 ≤ (wr.alloc (.cells f.cells.toArray 117)).heap.size := by simp; omega
        have hFx := Bx.new wr 117 f.cells.toArray
        clear hfk hgf
        go_wp2_with (first
          | (refine wpList_bget (by rfl) 3 _ (by rfl) wr.heap.size 117 _ (by rfl) _ hFx _ (by rfl) _ Try.underlying3 (by rfl) ?_)
          | (refine wpList_bput (by rfl) _ _ 3 (by rfl) (w.heap.size + 1) 45 _ (by rfl) _ (.int .i64 _) (by rfl) hLx (by kernel_rfl) (by simp) (by rfl) (by rfl) ?_; intro w9 hL9 hU9; replace hLx := hL9; replace hTx := hTx.upd hU9 (by omega); replace hRx := hRx.upd hU9 (by omega); replace hFx := hFx.upd hU9 (by omega); replace hBx := hU9.below hBx (by omega); replace hzx : w.heap.size + 2 ≤ w9.heap.size := (by rw [hU9.size]; exact hzx); clear hL9 hU9; dsimp only [List.set] at hLx))
        go_roundw
        case rel => exact ⟨1, a1, n1, c1, a2, n2, c2, a3, n3, c3, by omega, by go_num, rfl, rfl, rfl, hLx, hTx, hRx, hzx, hBx⟩
        case measure => simp [intOf]; omega
      · have hi1 : ¬ i = 0 := by omega
        simp only [if_neg hi1] at hL
        generalize hgf : l.getD i fd0 = f at *
        clear hgf
        rcases hfk with hfk | hfk | hfk
        · have k4 : (f.kind == 4) = false := by rw [hfk]; rfl
          have k1 : (f.kind == 1) = true := by rw [hfk]; rfl
          go_wp2_with (at_builtin; refine wpList_pushk (by rfl) _ _ 24 (by rfl) (w.heap.size + 2) 72 2 16 (.agg #[.int .i64 0, .int .i64 0]) Try.underlying24 (by kernel_rfl) rfl (by decide) a1 n1 c1 _ (by rfl) ((hT.keep (HAL.out _ _)).v1) _ 1 1 (Ck.mk f.site f.count).cells (by rfl) rfl ?_ ?_ ?_ ?_ ?_ ?_ ?_; (rw [rep_one]; exact new_cells2 _ _ _ _); (intro v h; simp at h; rcases h with rfl | rfl <;> rfl); (omega); (omega); (omega); (simp; omega); intro ad' cap' w' hv' hk')
          have hT2 := (hT.keep (HAL.out _ _)).push1 hfk hv' hk'
          have hb2 : Below w.heap.size w w' := hk'.below ((hB.alloc hB.size _).alloc (by have := hB.size; simp; omega) _) (by have := hB.size; simp; omega) (fun q e => by have := (hT.v1.typed q e).1; omega)
          have hR2 := (HAL2.out hR).kp hk' (hR.apart hT.v1 (by decide))
          have hL2 := (HAL2.out hL).kp hk' (hL.apart hT.v1 (by decide))
          have hsz2 : w.heap.size + 2 ≤ w'.heap.size := by have := hk'.size; simp at this; omega
          rw [← HTK.out] at hT2
          go_roundw
          case rel => exact ⟨i + 1, ad', (n1 + 1), cap', a2, n2, c2, a3, n3, c3, by omega, by go_num, rfl, rfl, rfl, by simpa [hi0] using hL2, hT2, hR2, hsz2, hb2⟩
          case measure => simp [intOf]; omega

        · have k4 : (f.kind == 4) = false := by rw [hfk]; rfl
          have k1 : (f.kind == 1) = false := by rw [hfk]; rfl
          have k2 : (f.kind == 2) = true := by rw [hfk]; rfl
          go_wp2_with (at_builtin; refine wpList_pushk (by rfl) _ _ 25 (by rfl) (w.heap.size + 2) 68 5 48 (.agg #[.int .i64 0, .int .i64 0, .int .i64 0, .bool false, .string ⟨#[]⟩]) Try.underlying25 (by kernel_rfl) rfl (by decide) a2 n2 c2 _ (by rfl) ((hT.keep (HAL.out _ _)).v2) _ 1 1 (Cd.mk f.id f.site f.count f.gone f.text).cells (by rfl) rfl ?_ ?_ ?_ ?_ ?_ ?_ ?_; (rw [rep_one]; exact new_cells2 _ _ _ _); (intro v h; simp at h; rcases h with rfl | rfl | rfl | rfl | rfl <;> rfl); (omega); (omega); (omega); (simp; omega); intro ad' cap' w' hv' hk')
          have hT2 := (hT.keep (HAL.out _ _)).push2 hfk hv' hk'
          have hb2 : Below w.heap.size w w' := hk'.below ((hB.alloc hB.size _).alloc (by have := hB.size; simp; omega) _) (by have := hB.size; simp; omega) (fun q e => by have := (hT.v2.typed q e).1; omega)
          have hR2 := (HAL2.out hR).kp hk' (hR.apart hT.v2 (by decide))
          have hL2 := (HAL2.out hL).kp hk' (hL.apart hT.v2 (by decide))
          have hsz2 : w.heap.size + 2 ≤ w'.heap.size := by have := hk'.size; simp at this; omega
          rw [← HTK.out] at hT2
          go_roundw
          case rel => exact ⟨i + 1, a1, n1, c1, ad', (n2 + 1), cap', a3, n3, c3, by omega, by go_num, rfl, rfl, rfl, by simpa [hi0] using hL2, hT2, hR2, hsz2, hb2⟩
          case measure => simp [intOf]; omega

        · have k4 : (f.kind == 4) = false := by rw [hfk]; rfl
          have k1 : (f.kind == 1) = false := by rw [hfk]; rfl
          have k2 : (f.kind == 2) = false := by rw [hfk]; rfl
          have k3 : (f.kind == 3) = true := by rw [hfk]; rfl
          go_wp2_with (at_builtin; refine wpList_pushk (by rfl) _ _ 26 (by rfl) (w.heap.size + 2) 61 2 24 (.agg #[.int .i64 0, .string ⟨#[]⟩]) Try.underlying26 (by kernel_rfl) rfl (by decide) a3 n3 c3 _ (by rfl) ((hT.keep (HAL.out _ _)).v3) _ 1 1 (Ed.mk f.id f.text).cells (by rfl) rfl ?_ ?_ ?_ ?_ ?_ ?_ ?_; (rw [rep_one]; exact new_cells2 _ _ _ _); (intro v h; simp at h; rcases h with rfl | rfl <;> rfl); (omega); (omega); (omega); (simp; omega); intro ad' cap' w' hv' hk')
          have hT2 := (hT.keep (HAL.out _ _)).push3 hfk hv' hk'
          have hb2 : Below w.heap.size w w' := hk'.below ((hB.alloc hB.size _).alloc (by have := hB.size; simp; omega) _) (by have := hB.size; simp; omega) (fun q e => by have := (hT.v3.typed q e).1; omega)
          have hR2 := (HAL2.out hR).kp hk' (hR.apart hT.v3 (by decide))
          have hL2 := (HAL2.out hL).kp hk' (hL.apart hT.v3 (by decide))
          have hsz2 : w.heap.size + 2 ≤ w'.heap.size := by have := hk'.size; simp at this; omega
          rw [← HTK.out] at hT2
          go_roundw
          case rel => exact ⟨i + 1, a1, n1, c1, a2, n2, c2, ad', (n3 + 1), cap', by omega, by go_num, rfl, rfl, rfl, by simpa [hi0] using hL2, hT2, hR2, hsz2, hb2⟩
          case measure => simp [intOf]; omega

    · have hi3 : i = N := by omega
      subst hi3
      have hi1 : ¬ i = 0 := by have := HO.out.some_; have := HN.out; omega
      simp only [if_neg hi1] at hL
      rw [List.take_of_length_le (by rw [← HN.out]; exact Nat.le_refl _)] at hT
      go_wp2_with (first
        | (refine wpList_bputs (by rfl) _ _ 28 (by rfl) (w.heap.size + 1) 45 2 (by rfl) _ [.slice a1 n1 c1, .slice a2 n2 c2, .slice a3 n3 c3] (by rfl) hL 3 (by rfl) (by kernel_rfl) (by simp) (by intro x hx; simp at hx; rcases hx with rfl | rfl | rfl <;> rfl) ?_; intro w9 hL9 hU9; replace hR := hR.upd hU9 (by omega); replace hT := hT.upd hU9 (by omega); replace hB := hU9.below hB (by omega); clear hU9; dsimp only [List.take, List.drop, List.cons_append, List.nil_append] at hL9)
        | (refine wpList_bload (by rfl) _ _ (by rfl) (w.heap.size + 1) 45 (by rfl) _ hL9 _ Try.underlying45 (by rfl) 5 (by rfl) (by kernel_rfl) ?_)
        | (refine wpList_bstore (by rfl) _ _ _ (by rfl) w.heap.size 45 (by rfl) _ _ (by rfl) hR 5 (by rfl) (by kernel_rfl) (by rfl) (by intro x hx; simp at hx; rcases hx with rfl | rfl | rfl | rfl | rfl <;> rfl) ?_; intro w8 hR9 hU9; replace hT := hT.upd hU9 (by omega); replace hB := hU9.below hB (by omega); clear hU9))
      exact bodyPost_ret (v := .agg (lnkC (l.getD 0 fd0).seq (l.getD 0 fd0).base a1 n1 c1 a2 n2 c2 a3 n3 c3).toArray) (results_box1 (by rfl) _ _ w.heap.size 45 _ _ (by rfl) hR9 Try.underlying45 (by rfl) 5 (by rfl) (by kernel_rfl)) rfl ⟨a1, _, c1, a2, _, c2, a3, _, c3, rfl, ⟨hT.v1.mono (by omega), hT.v2.mono (by omega), hT.v3.mono (by omega), hT.e1, hT.e2, hT.e3⟩, hB⟩
end Go.Proofs.Ytdjpkgaicmklmab

/- Read of the program: walked. -/
namespace Go.Proofs.Ytdjpkgaicmklmab
open Go.RowKit

/-- Three lists in memory. -/
structure Lists (w : World) (B : Nat) (K : List Ck) (C : List Cd) (E : List Ed) (a1 : Option Addr) (n1 c1 : Nat) (a2 : Option Addr) (n2 c2 : Nat) (a3 : Option Addr) (n3 c3 : Nat) : Prop where
  v1 : Vec w B 72 2 a1 n1 c1 (kcells K)
  v2 : Vec w B 68 5 a2 n2 c2 (ccells C)
  v3 : Vec w B 61 2 a3 n3 c3 (ecells E)
  e1 : n1 = K.length
  e2 : n2 = C.length
  e3 : n3 = E.length
theorem Lists.nil (w : World) (B : Nat) : Lists w B [] [] [] none 0 0 none 0 0 none 0 0 := ⟨Vec.nil _ _ _ _, Vec.nil _ _ _ _, Vec.nil _ _ _ _, rfl, rfl, rfl⟩
theorem Lists.keep {w w' : World} {B : Nat} {K : List Ck} {C : List Cd} {E : List Ed} {a1 : Option Addr} {n1 c1 : Nat} {a2 : Option Addr} {n2 c2 : Nat} {a3 : Option Addr} {n3 c3 : Nat} (h : Lists w B K C E a1 n1 c1 a2 n2 c2 a3 n3 c3) (hb : Below w.heap.size w w') : Lists w' B K C E a1 n1 c1 a2 n2 c2 a3 n3 c3 := ⟨h.v1.keep hb, h.v2.keep hb, h.v3.keep hb, h.e1, h.e2, h.e3⟩
theorem Lists.mono {w : World} {B B' : Nat} {K : List Ck} {C : List Cd} {E : List Ed} {a1 : Option Addr} {n1 c1 : Nat} {a2 : Option Addr} {n2 c2 : Nat} {a3 : Option Addr} {n3 c3 : Nat} (h : Lists w B K C E a1 n1 c1 a2 n2 c2 a3 n3 c3) (hb : B' ≤ B) : Lists w B' K C E a1 n1 c1 a2 n2 c2 a3 n3 c3 := ⟨h.v1.mono hb, h.v2.mono hb, h.v3.mono hb, h.e1, h.e2, h.e3⟩
theorem Lists.upd {w w' : World} {B g : Nat} {K : List Ck} {C : List Cd} {E : List Ed} {a1 : Option Addr} {n1 c1 : Nat} {a2 : Option Addr} {n2 c2 : Nat} {a3 : Option Addr} {n3 c3 : Nat} (h : Lists w B K C E a1 n1 c1 a2 n2 c2 a3 n3 c3) (hu : Upd g w w') (hg : g < B) : Lists w' B K C E a1 n1 c1 a2 n2 c2 a3 n3 c3 := ⟨h.v1.upd hu hg, h.v2.upd hu hg, h.v3.upd hu hg, h.e1, h.e2, h.e3⟩
theorem Three.lists {w : World} {B : Nat} {l : List Fd} {a1 : Option Addr} {n1 c1 : Nat} {a2 : Option Addr} {n2 c2 : Nat} {a3 : Option Addr} {n3 c3 : Nat} (h : Three w B l a1 n1 c1 a2 n2 c2 a3 n3 c3) : Lists w B (ckOf l) (cdOf l) (edOf l) a1 n1 c1 a2 n2 c2 a3 n3 c3 := ⟨h.v1, h.v2, h.v3, h.e1, h.e2, h.e3⟩
/-- What a Read returns. -/
def ReadAns (x : Ans) (B : Nat) (e : Ending) (w' : World) : Prop := ∃ a1 n1 c1 a2 n2 c2 a3 n3 c3, e = .returned (.tuple #[.agg (lnkC x.seq x.base a1 n1 c1 a2 n2 c2 a3 n3 c3).toArray, .int .i64 x.err, .int .i64 x.place]) ∧ Lists w' B x.K x.C x.E a1 n1 c1 a2 n2 c2 a3 n3 c3
theorem frF_at : ∀ (k i : Nat) (s : List UInt8), ∀ f ∈ (frF k i s).1, (i : Int) ≤ f.at_
  | 0, _, _, f, h => by simp [frF] at h
  | k + 1, i, s, f, h => by
    by_cases hs : s = []
    · subst hs; simp [frF] at h
    · cases hst : standRd s with
      | none => rw [frF_none hst] at h; cases h
      | some p =>
        obtain ⟨g, n⟩ := p
        rw [frF_some hs hst] at h
        rcases List.mem_cons.1 h with rfl | h
        · exact Int.le_refl _
        · have := frF_at k (i + n) (s.drop n) f h; omega
theorem ordF_mem : ∀ (l : List Fd) (p : Fd) (q : Int), ordF p l = some q → ∃ f ∈ l, f.at_ = q
  | [], _, _, h => by cases h
  | f :: l, p, q, h => by
    simp only [ordF] at h
    split at h
    · obtain ⟨g, hg, he⟩ := ordF_mem l f q h; exact ⟨g, List.mem_cons_of_mem _ hg, he⟩
    · simp at h; exact ⟨f, List.mem_cons_self .., h⟩
theorem ordRd_ne {k : Nat} {s : List UInt8} {q : Int} (h : ordRd (frF k 4 s).1 = some q) : 4 ≤ q := by
  have ha := frF_at k 4 s
  cases hl : (frF k 4 s).1 with
  | nil => rw [hl] at h; simp [ordRd] at h; omega
  | cons f l =>
    rw [hl] at h ha
    simp only [ordRd] at h
    split at h
    · obtain ⟨g, hg, rfl⟩ := ordF_mem l f q h; exact ha g (List.mem_cons_of_mem _ hg)
    · simp at h; subst h; exact ha f (List.mem_cons_self ..)

set_option maxRecDepth 100000 in
set_option maxHeartbeats 4000000 in
theorem bread_any (b : List UInt8) (w : World) (hb : b.length ≤ 1099511627776) :
    Calls Try.prog 35 #[.string (str b)] w fun e w' => ReadAns (readRd b) w.heap.size e w' ∧ Below w.heap.size w w' := by
  have hz := str_size b
  have HZ : Hid ((str b).size = b.length) := hz
  obtain ⟨hR, hW, hB⟩ := one_box w 45 (lnkC 0 0 none 0 0 none 0 0 none 0 0).toArray
  have hbb : (str b).size ≤ 1099511627776 := by omega
  have hx4 : (str b).extract 0 4 = str (b.take 4) := by rw [str_extract]; simp
  by_cases h4 : (str b).size < 4
  · have HN : Hid (readRd b = ansErr 7 0) := by show _ = _; unfold readRd; rw [if_pos (Or.inl (by omega))]
    clear hz
    go_enter Try.func35, Try.ntmps35
    go_wp2_with fail
    exact bodyPost_ret (v := .tuple #[.agg (lnkC 0 0 none 0 0 none 0 0 none 0 0).toArray, .int .i64 7, .int .i64 0]) (results_box3 (by rfl) _ _ w.heap.size 45 _ _ _ _ (by rfl) hR (by rfl) (by rfl) Try.underlying45 (by rfl) 5 (by rfl) (by kernel_rfl)) rfl ⟨by rw [HN.out]; exact ⟨none, 0, 0, none, 0, 0, none, 0, 0, rfl, Lists.nil _ _⟩, hB⟩
  · by_cases hm : b.take 4 = magicB
    · have hmk : ((str (b.take 4)).toList == [80, 82, 67, 49]) = true := by rw [str_toList, hm]; rfl
      have HC : Hid (readRd b = if sealedB b = true then
          if (framed (b.take (b.length - 4))).2 < b.length - 4 then ansErr 9 (framed (b.take (b.length - 4))).2
          else match ordRd (framed (b.take (b.length - 4))).1 with
            | some p => ansErr 10 p
            | none => ansOk (framed (b.take (b.length - 4))).1
        else ansErr 8 0) := by show _ = _; unfold readRd; rw [if_neg (by rintro (h | h); (omega); exact h hm)] <;> rfl
      clear hm
      go_enter Try.func35, Try.ntmps35
      clear hz
      go_wp2_with fail
      refine (sealed_any b _ (by have := HZ.out; omega)).mono ?_
      rintro e w1 ⟨rfl, hb1⟩
      replace hR := hR.below hb1 hR.lt
      replace hB := hB.trans (hb1.mono (Nat.le_trans (Nat.le_succ _) (Nat.le_of_eq hW.symm)))
      clear hb1 hW
      cases hse : sealedB b with
      | false =>
        have HN : Hid (readRd b = ansErr 8 0) := by show _ = _; rw [HC.out, hse]; rfl
        clear HC hse
        go_wp2_with (refine wpList_bstore (by rfl) _ _ _ (by rfl) w.heap.size 45 (by rfl) _ _ (by rfl) hR 5 (by rfl) (by kernel_rfl) (by rfl) (by intro x hx; simp at hx; rcases hx with rfl | rfl | rfl | rfl | rfl <;> rfl) ?_; intro w9 hR9 hU9; replace hR := hR9; replace hB := hU9.below hB (Nat.le_refl _); clear hR9; clear hU9)
        exact bodyPost_ret (v := .tuple #[.agg (lnkC 0 0 none 0 0 none 0 0 none 0 0).toArray, .int .i64 8, .int .i64 0]) (results_box3 (by rfl) _ _ w.heap.size 45 _ _ _ _ (by rfl) hR (by rfl) (by rfl) Try.underlying45 (by rfl) 5 (by rfl) (by kernel_rfl)) rfl ⟨by rw [HN.out]; exact ⟨none, 0, 0, none, 0, 0, none, 0, 0, rfl, Lists.nil _ _⟩, hB⟩
      | true =>
        rw [hse, if_pos rfl] at HC
        have h8 : 8 ≤ b.length := by
          unfold sealedB at hse; simp at hse; exact hse.1
        obtain ⟨n, hn⟩ : ∃ n, (str b).size = n + 4 := ⟨(str b).size - 4, by omega⟩
        have hbl : b.length - 4 = n := by have := HZ.out; omega
        rw [hbl] at HC
        have hx1 : (str b).extract 0 n = str (b.take n) := by rw [str_extract]; simp
        have hsub : ((n : Int) + 4 - 4) = (n : Int) := by omega
        have hle2 : (n : Int) ≤ (n : Int) + 4 := by omega
        have hnl : (b.take n).length = n := by simp; omega
        have hzn : (str (b.take n)).size = n := by rw [str_size, hnl]
        have h4n : 4 ≤ n := by have := HZ.out; omega
        have hfst := frF_first (b.take n).length 4 ((b.take n).drop 4)
        have hkd := frF_kd (b.take n).length 4 ((b.take n).drop 4)
        have hlen := frF_length (b.take n).length 4 ((b.take n).drop 4)
        have hle := (frF_le (b.take n).length 4 ((b.take n).drop 4)).2
        have hne : ∀ q, ordRd (framed (b.take n)).1 = some q → 4 ≤ q := fun q h => ordRd_ne h
        have HF : Hid ((∀ f ∈ (framed (b.take n)).1, Kd f) ∧ (∀ f r, (framed (b.take n)).1 = f :: r → f.at_ = 4) ∧ (framed (b.take n)).1.length ≤ n ∧ (framed (b.take n)).2 ≤ n ∧ (∀ q, ordRd (framed (b.take n)).1 = some q → 4 ≤ q)) := ⟨hkd, fun f r h => hfst f r h, by rw [hnl] at hlen; exact Nat.le_trans hlen (Nat.le_refl _) |> fun h => by unfold framed; rw [hnl]; exact h, by unfold framed; simp only [List.length_drop, hnl] at hle ⊢; omega, hne⟩
        have HNL : Hid ((b.take n).length = n) := hnl
        clear hse hbl hnl hfst hkd hlen hle hne h4 hmk hx4
        go_wp2_with fail
        refine (framesOf_any (b.take n) _ (by rw [HNL.out]; omega) (by rw [HNL.out]; omega)).mono ?_
        rintro e w2 ⟨ad, cap, N, rfl, hN, hv, hb2⟩
        replace hR := hR.below hb2 hR.lt
        have hz1 := hB.size
        have hvl := fvec_lies hv hN
        have HN2 : Hid (N = (framed (b.take n)).1.length) := hN
        have hNb : N ≤ n := by rw [hN]; exact HF.out.2.2.1
        replace hB := hB.trans (hb2.mono hB.size)
        clear hv hN hb2 hz1
        generalize hfr : framed (b.take n) = X at *
        obtain ⟨l, st⟩ := X
        clear hfr
        have hst : st ≤ n := HF.out.2.2.2.1
        simp only at HC
        by_cases hlt : st < n
        · have HN : Hid (readRd b = ansErr 9 st) := by show _ = _; rw [HC.out, if_pos hlt]
          clear HC hst
          go_wp2_with (refine wpList_bstore (by rfl) _ _ _ (by rfl) w.heap.size 45 (by rfl) _ _ (by rfl) hR 5 (by rfl) (by kernel_rfl) (by rfl) (by intro x hx; simp at hx; rcases hx with rfl | rfl | rfl | rfl | rfl <;> rfl) ?_; intro w9 hR9 hU9; replace hR := hR9; replace hB := hU9.below hB (Nat.le_refl _); clear hR9; clear hU9)
          exact bodyPost_ret (v := .tuple #[.agg (lnkC 0 0 none 0 0 none 0 0 none 0 0).toArray, .int .i64 9, .int .i64 (st : Int)]) (results_box3 (by rfl) _ _ w.heap.size 45 _ _ _ _ (by rfl) hR (by rfl) (by rfl) Try.underlying45 (by rfl) 5 (by rfl) (by kernel_rfl)) rfl ⟨by rw [HN.out]; exact ⟨none, 0, 0, none, 0, 0, none, 0, 0, rfl, Lists.nil _ _⟩, hB⟩
        · rw [if_neg hlt] at HC
          have hst2 : st = n := by omega
          clear hst
          go_wp2_with fail
          refine (outOfOrder_any l ad N cap _ HN2.out hvl HF.out.1 HF.out.2.1 (by omega)).mono ?_
          rintro e w3 ⟨rfl, hb3⟩
          replace hR := hR.below hb3 hR.lt
          have hvl3 := hvl.below hb3
          replace hB := hB.trans (hb3.mono hB.size)
          clear hb3 hvl
          cases hord : ordRd l with
          | some q =>
            rw [hord] at HC
            have hq4 := HF.out.2.2.2.2 q hord
            have hqn : (q != 0) = true := by rw [bne_iff_ne]; omega
            have HN : Hid (readRd b = ansErr 10 q) := HC
            clear HC hord
            simp only [Option.getD_some]
            go_wp2_with (refine wpList_bstore (by rfl) _ _ _ (by rfl) w.heap.size 45 (by rfl) _ _ (by rfl) hR 5 (by rfl) (by kernel_rfl) (by rfl) (by intro x hx; simp at hx; rcases hx with rfl | rfl | rfl | rfl | rfl <;> rfl) ?_; intro w9 hR9 hU9; replace hR := hR9; replace hB := hU9.below hB (Nat.le_refl _); clear hR9; clear hU9)
            exact bodyPost_ret (v := .tuple #[.agg (lnkC 0 0 none 0 0 none 0 0 none 0 0).toArray, .int .i64 10, .int .i64 q]) (results_box3 (by rfl) _ _ w.heap.size 45 _ _ _ _ (by rfl) hR (by rfl) (by rfl) Try.underlying45 (by rfl) 5 (by rfl) (by kernel_rfl)) rfl ⟨by rw [HN.out]; exact ⟨none, 0, 0, none, 0, 0, none, 0, 0, rfl, Lists.nil _ _⟩, hB⟩
          | none =>
            rw [hord] at HC
            have HN : Hid (readRd b = ansOk l) := HC
            clear HC
            simp only [Option.getD_none]
            go_wp2_with fail
            have hg3 := hR.lt
            refine (linkOf_any l ad N cap _ HN2.out hvl3 (ordered_of hord) (by omega)).mono ?_
            rintro e w4 ⟨a1, n1, c1, a2, n2, c2, a3, n3, c3, rfl, hT, hb4⟩
            replace hR := hR.below hb4 hR.lt
            have hL := hT.lists.keep ((Below.refl w4.heap.size w4).alloc (Nat.le_refl _) (.cells (lnkC (l.getD 0 fd0).seq (l.getD 0 fd0).base a1 n1 c1 a2 n2 c2 a3 n3 c3).toArray 45))
            replace hB := (hB.trans (hb4.mono hB.size))
            clear hb4 hord hT
            go_wp2_with (refine wpList_bstore (by rfl) _ _ _ (by rfl) w.heap.size 45 (by rfl) _ _ (by rfl) (hR.alloc _) 5 (by rfl) (by kernel_rfl) (by rfl) (by intro x hx; simp at hx; rcases hx with rfl | rfl | rfl | rfl | rfl <;> rfl) ?_; intro w9 hR9 hU9; replace hR := hR9; replace hB := hU9.below (hB.alloc hB.size _) (Nat.le_refl _); clear hR9; replace hL := hL.upd hU9 hg3; clear hU9)
            exact bodyPost_ret (v := .tuple #[.agg (lnkC (l.getD 0 fd0).seq (l.getD 0 fd0).base a1 n1 c1 a2 n2 c2 a3 n3 c3).toArray, .int .i64 0, .int .i64 0]) (results_box3 (by rfl) _ _ w.heap.size 45 _ _ _ _ (by rfl) hR (by rfl) (by rfl) Try.underlying45 (by rfl) 5 (by rfl) (by kernel_rfl)) rfl ⟨by rw [HN.out]; exact ⟨a1, _, c1, a2, _, c2, a3, _, c3, rfl, hL.mono (Nat.le_of_lt hg3)⟩, hB⟩
    · have hmk : ((str (b.take 4)).toList == [80, 82, 67, 49]) = false := by rw [str_toList, beq_eq_false_iff_ne]; exact hm
      have HN : Hid (readRd b = ansErr 7 0) := by show _ = _; unfold readRd; rw [if_pos (Or.inr hm)]
      clear hz hm
      go_enter Try.func35, Try.ntmps35
      go_wp2_with fail
      exact bodyPost_ret (v := .tuple #[.agg (lnkC 0 0 none 0 0 none 0 0 none 0 0).toArray, .int .i64 7, .int .i64 0]) (results_box3 (by rfl) _ _ w.heap.size 45 _ _ _ _ (by rfl) hR (by rfl) (by rfl) Try.underlying45 (by rfl) 5 (by rfl) (by kernel_rfl)) rfl ⟨by rw [HN.out]; exact ⟨none, 0, 0, none, 0, 0, none, 0, 0, rfl, Lists.nil _ _⟩, hB⟩
end Go.Proofs.Ytdjpkgaicmklmab

/- linked of the reference: walked. -/
namespace Go.Proofs.Ytdjpkgaicmklmab
open Go.RowKit

end Go.Proofs.Ytdjpkgaicmklmab

/- Read of the reference: walked. -/
namespace Go.Proofs.Ytdjpkgaicmklmab
open Go.RowKit

theorem Bx.drew1 {w : World} {g e : Nat} {cs : List Value} (b : Bx w g e cs) : Bx w.drew g e cs := ⟨b.h⟩
theorem bx5 {w : World} {g e : Nat} {v0 v1 v2 v3 v4 : Value} {x0 x1 x2 x3 x4 : Value} (h : Bx w g e [x0, x1, x2, x3, x4]) : Bx ((((((w.setCell ⟨g, 0, none⟩ v0).setCell ⟨g, 1, none⟩ v1).setCell ⟨g, 2, none⟩ v2).setCell ⟨g, 3, none⟩ v3).setCell ⟨g, 4, none⟩ v4).drew) g e [v0, v1, v2, v3, v4] :=
  by
  have h5 := ((((h.setCell 0 v0).setCell 1 v1).setCell 2 v2).setCell 3 v3).setCell 4 v4
  dsimp only [List.set] at h5
  exact h5.drew1
theorem be5 {w0 w : World} {g : Nat} {v0 v1 v2 v3 v4 : Value} (h : Below g w0 w) : Below g w0 ((((((w.setCell ⟨g, 0, none⟩ v0).setCell ⟨g, 1, none⟩ v1).setCell ⟨g, 2, none⟩ v2).setCell ⟨g, 3, none⟩ v3).setCell ⟨g, 4, none⟩ v4).drew) :=
  ((((((Upd.refl g w).setCell ⟨g, 0, none⟩ rfl v0).setCell ⟨g, 1, none⟩ rfl v1).setCell ⟨g, 2, none⟩ rfl v2).setCell ⟨g, 3, none⟩ rfl v3).setCell ⟨g, 4, none⟩ rfl v4).drew.below h (Nat.le_refl _)
def okB (i : Nat) (p f : Fd) : Bool := if i = 0 then f.kind == 4 else fitB p f
/-- How far the order has been looked at. -/
def OI (l : List Fd) (i : Nat) (p : Fd) : Prop := (i = 0 ∧ p = fd0) ∨ (1 ≤ i ∧ ordRd l = ordF p (l.drop i))
theorem OI.step {l : List Fd} {i : Nat} {p : Fd} (h : OI l i p) (hi : i < l.length) (hk : okB i p (l.getD i fd0) = true) : OI l (i + 1) (l.getD i fd0) := by
  refine Or.inr ⟨by omega, ?_⟩
  rw [getD_lt l i hi] at hk ⊢
  rcases h with ⟨rfl, rfl⟩ | ⟨h1, h2⟩
  · cases l with
    | nil => simp at hi
    | cons f r => simp [okB] at hk; simp only [ordRd]; rw [if_pos hk]; rfl
  · unfold okB at hk; rw [if_neg (by omega)] at hk
    rw [h2, List.drop_eq_getElem_cons hi]; simp only [ordF]; rw [if_pos hk]
theorem OI.bad {l : List Fd} {i : Nat} {p : Fd} (h : OI l i p) (hi : i < l.length) (hk : okB i p (l.getD i fd0) = false) : ordRd l = some (l.getD i fd0).at_ := by
  rw [getD_lt l i hi] at hk ⊢
  rcases h with ⟨rfl, rfl⟩ | ⟨h1, h2⟩
  · cases l with
    | nil => simp at hi
    | cons f r => simp [okB] at hk; simp only [ordRd]; rw [if_neg hk]; rfl
  · unfold okB at hk; rw [if_neg (by omega)] at hk
    rw [h2, List.drop_eq_getElem_cons hi]; simp only [ordF]; rw [if_neg (by rw [hk]; decide)]
theorem OI.done {l : List Fd} {p : Fd} (h : OI l l.length p) (h0 : 0 < l.length) : ordRd l = none := by
  rcases h with ⟨h1, _⟩ | ⟨_, h2⟩
  · omega
  · rw [h2, List.drop_of_length_le (Nat.le_refl _)]; rfl

end Go.Proofs.Ytdjpkgaicmklmab

/- sameFound, and what own.kept asks: walked. -/
namespace Go.Proofs.Ytdjpkgaicmklmab
open Go.RowKit

theorem books_lies {Sh : List Value → Prop} {w : World} {B e eb m : Nat} {ad : Option Addr} {cap : Nat} {L : List Bk} (h : Books Sh w B e eb m ad cap L) : Lies w ad L.length (m + 1) (fun i => (L.getD i ⟨none, 0, 0, []⟩).cells) := by
  refine Vec.lies (rows := L.map Bk.cells) h.list ?_ (by simp) _ ?_
  · intro r hr; obtain ⟨x, hx, rfl⟩ := List.mem_map.1 hr; simp [(h.each x hx).len]
  · intro i hi; simp [List.getD, hi]
theorem rep_lies {w : World} {B e m : Nat} {ad : Option Addr} {n cap : Nat} {mk : List Value} (h : Vec w B e m ad n cap (rep n mk)) (hm : mk.length = m) : Lies w ad n m (fun _ => mk) := by
  refine Vec.lies (rows := List.replicate n mk) h ?_ (by simp) _ ?_
  · intro r hr; rw [(List.mem_replicate.1 hr).2]; exact hm
  · intro i hi; simp [List.getD, hi]

end Go.Proofs.Ytdjpkgaicmklmab

/- own.kept, walked: each book's list reads its mark. -/
namespace Go.Proofs.Ytdjpkgaicmklmab
open Go.RowKit

end Go.Proofs.Ytdjpkgaicmklmab

/- The owner writes over what came out: (*parcellaw.own).ofCards, walked. -/
namespace Go.Proofs.Ytdjpkgaicmklmab
open Go.RowKit

end Go.Proofs.Ytdjpkgaicmklmab

/- The owner writes over what came out: (*parcellaw.own).ofEdits, walked. -/
namespace Go.Proofs.Ytdjpkgaicmklmab
open Go.RowKit

end Go.Proofs.Ytdjpkgaicmklmab

/- The owner writes over what came out: (*parcellaw.own).replica, walked. -/
namespace Go.Proofs.Ytdjpkgaicmklmab
open Go.RowKit

theorem Books.old {Sh : List Value → Prop} {w : World} {B e eb m : Nat} {ad : Option Addr} {cap : Nat} {L : List Bk} (h : Books Sh w B e eb m ad cap L) : ∀ x, x ∈ L → ∀ b, x.ad = some b → b.block < w.heap.size := by
  intro x hx b hb
  obtain ⟨_, cur, hc⟩ := (h.each x hx).vec.typed b.block (by rw [hb]; rfl)
  exact (Array.getElem?_eq_some_iff.1 hc).1

theorem bx_six {Sh : List Value → Prop} {w0 w X w6 : World} {B B1 go gm tT e eb m f gr tr : Nat} {oc mk row cs : List Value} {ad : Option Addr} {N cap : Nat} {a4 : Option Addr} {c4 : Nat} {L : List Bk} (hk : Kp (a4.map (·.block)) row X w6) (h : St Sh w0 w B B1 go gm tT e eb m f oc mk ad N cap a4 c4 L) (hG : Bx w gr tr cs) (hb : Below w.heap.size w X) (h1 : eb ≠ tr) : Bx w6 gr tr cs :=
  (hG.below hb hG.lt).kp hk ((hG.below hb hG.lt).apart (h.b.keep hb) h1)
theorem Bx.but3 {w w' : World} {k t go e eb : Nat} {cs : List Value} (b : Bx w k t cs) (hb : But3 go e eb w w') (hk : k ≠ go) (h1 : t ≠ e) (h2 : t ≠ eb) : Bx w' k t cs := ⟨hb.block k _ t hk b.h h1 h2⟩

end Go.Proofs.Ytdjpkgaicmklmab

/- own.replicasKept, walked: each book's list reads its mark. -/
namespace Go.Proofs.Ytdjpkgaicmklmab
open Go.RowKit

end Go.Proofs.Ytdjpkgaicmklmab

/- Reads: called with any bytes, up to very many, it answers true. -/
namespace Go.Proofs.Ytdjpkgaicmklmab
open Go.RowKit

set_option maxRecDepth 100000 in
set_option maxHeartbeats 4000000 in
theorem pread_any (b : List UInt8) (w : World) (hb : b.length ≤ 1099511627776) :
    Calls Try.prog 17 #[.string (str b)] w fun e w' => ReadAns (readRd b) w.heap.size e w' ∧ Below w.heap.size w w' := by
  obtain ⟨hR, hW, hB⟩ := one_box w 45 (lnkC 0 0 none 0 0 none 0 0 none 0 0).toArray
  go_enter Try.func17, Try.ntmps17
  go_wp2_with fail
  refine (bread_any b _ hb).mono ?_
  rintro e w1 ⟨⟨a1, n1, c1, a2, n2, c2, a3, n3, c3, rfl, hL⟩, hb1⟩
  replace hL := hL.mono (Nat.le_of_eq hW.symm : w.heap.size + 1 ≤ _)
  replace hR := hR.below hb1 hR.lt
  replace hB := hB.trans (hb1.mono (Nat.le_trans (Nat.le_succ _) (Nat.le_of_eq hW.symm)))
  clear hb1 hW
  generalize hx : readRd b = x at *
  have HX : Hid (readRd b = x) := hx
  clear hx
  go_wp2_with (refine wpList_bstore (by rfl) _ _ _ (by rfl) w.heap.size 45 (by rfl) _ _ (by rfl) hR 5 (by rfl) (by kernel_rfl) (by rfl) (by intro x hx; simp at hx; rcases hx with rfl | rfl | rfl | rfl | rfl <;> rfl) ?_; intro w9 hR9 hU9; replace hR := hR9; replace hB := hU9.below hB (Nat.le_refl _); replace hL := hL.upd hU9 (by omega); clear hR9 hU9)
  exact bodyPost_ret (v := .tuple #[.agg (lnkC x.seq x.base a1 n1 c1 a2 n2 c2 a3 n3 c3).toArray, .int .i64 x.err, .int .i64 x.place]) (results_box3 (by rfl) _ _ w.heap.size 45 _ _ _ _ (by rfl) hR (by rfl) (by rfl) Try.underlying45 (by rfl) 5 (by rfl) (by kernel_rfl)) rfl ⟨by rw [HX.out]; exact ⟨a1, n1, c1, a2, n2, c2, a3, n3, c3, rfl, hL.mono (Nat.le_succ _)⟩, hB⟩

theorem Lists.has {w : World} {B : Nat} {K : List Ck} {C : List Cd} {E : List Ed} {a1 : Option Addr} {n1 c1 : Nat} {a2 : Option Addr} {n2 c2 : Nat} {a3 : Option Addr} {n3 c3 : Nat} (h : Lists w B K C E a1 n1 c1 a2 n2 c2 a3 n3 c3) (h1 : n1 ≤ 1099511627776) (h2 : n2 ≤ 1099511627776) (h3 : n3 ≤ 1099511627776) :
    Has w (repOf K C E) a1 a2 a3 ∧ repV (repOf K C E) a1 a2 a3 c1 c2 c3 = .agg #[.slice a1 n1 c1, .slice a2 n2 c2, .slice a3 n3 c3] := by
  obtain ⟨v1, v2, v3, rfl, rfl, rfl⟩ := h
  refine ⟨⟨kvec_lies v1 rfl, cvec_lies v2 rfl, evec_lies v3 rfl, ?_, ?_, ?_, ?_, ?_, ?_⟩, rfl⟩ <;> simp only [repOf] <;> omega
theorem readRd_few (b : List UInt8) : (readRd b).K.length ≤ b.length ∧ (readRd b).C.length ≤ b.length ∧ (readRd b).E.length ≤ b.length := by
  have hl : ∀ l : List Fd, l.length ≤ b.length → (ansOk l).K.length ≤ b.length ∧ (ansOk l).C.length ≤ b.length ∧ (ansOk l).E.length ≤ b.length := fun l h => ⟨Nat.le_trans (ckOf_le l) h, Nat.le_trans (cdOf_le l) h, Nat.le_trans (edOf_le l) h⟩
  have he : ∀ e p, (ansErr e p).K.length ≤ b.length ∧ (ansErr e p).C.length ≤ b.length ∧ (ansErr e p).E.length ≤ b.length := fun e p => ⟨by simp [ansErr], by simp [ansErr], by simp [ansErr]⟩
  unfold readRd
  split
  · exact he _ _
  · split
    · split
      · exact he _ _
      · split
        · exact he _ _
        · refine hl _ ?_
          have := frF_length (b.take (b.length - 4)).length 4 ((b.take (b.length - 4)).drop 4)
          unfold framed
          refine Nat.le_trans this ?_
          simp
    · exact he _ _

end Go.Proofs.Ytdjpkgaicmklmab

/- Restores: called with any bytes, up to very many, it answers true. -/
namespace Go.Proofs.Ytdjpkgaicmklmab
open Go.RowKit

/-- What Restore answers, out of what Read does. -/
def restOf (x : Ans) : Ans := if x.err = 0 then (if x.seq = 0 then (if (repOf x.K x.C x.E).chk = 0 then ⟨0, 0, 0, 0, x.K, x.C, x.E⟩ else ansErr (repOf x.K x.C x.E).chk 0) else ansErr 11 0) else ansErr x.err x.place
def restRd (b : List UInt8) : Ans := restOf (readRd b)
def RestAns (x : Ans) (B : Nat) (e : Ending) (w' : World) : Prop := ∃ a1 n1 c1 a2 n2 c2 a3 n3 c3, e = .returned (.tuple #[.agg #[.slice a1 n1 c1, .slice a2 n2 c2, .slice a3 n3 c3], .int .i64 x.err, .int .i64 x.place]) ∧ Lists w' B x.K x.C x.E a1 n1 c1 a2 n2 c2 a3 n3 c3
theorem restRd_few (b : List UInt8) : (restRd b).K.length ≤ b.length ∧ (restRd b).C.length ≤ b.length ∧ (restRd b).E.length ≤ b.length := by
  have he : ∀ e p, (ansErr e p).K.length ≤ b.length ∧ (ansErr e p).C.length ≤ b.length ∧ (ansErr e p).E.length ≤ b.length := fun e p => ⟨by simp [ansErr], by simp [ansErr], by simp [ansErr]⟩
  unfold restRd restOf
  split
  · split
    · split
      · exact readRd_few b
      · exact he _ _
    · exact he _ _
  · exact he _ _

set_option maxRecDepth 100000 in
set_option maxHeartbeats 4000000 in
theorem prestore_any (b : List UInt8) (w : World) (hb : b.length ≤ 1099511627776) :
    Calls Try.prog 15 #[.string (str b)] w fun e w' => RestAns (restRd b) w.heap.size e w' ∧ Below w.heap.size w w' := by
  obtain ⟨hR, hW, hB⟩ := one_box w 28 ([.slice none 0 0, .slice none 0 0, .slice none 0 0] : List Value).toArray
  have hfew := readRd_few b
  go_enter Try.func15, Try.ntmps15
  go_wp2_with fail
  refine (bread_any b _ hb).mono ?_
  rintro e w1 ⟨⟨a1, n1, c1, a2, n2, c2, a3, n3, c3, rfl, hL⟩, hb1⟩
  replace hL := hL.mono (Nat.le_of_eq hW.symm : w.heap.size + 1 ≤ _)
  replace hR := hR.below hb1 hR.lt
  replace hB := hB.trans (hb1.mono (Nat.le_trans (Nat.le_succ _) (Nat.le_of_eq hW.symm)))
  clear hb1 hW
  have f1 : n1 ≤ 1099511627776 := by rw [hL.e1]; omega
  have f2 : n2 ≤ 1099511627776 := by rw [hL.e2]; omega
  have f3 : n3 ≤ 1099511627776 := by rw [hL.e3]; omega
  have hx : restRd b = restOf (readRd b) := rfl
  have HX : Hid (restRd b = restOf (readRd b)) := hx
  clear hx hfew
  generalize readRd b = x at *
  by_cases he : x.err = 0
  · have heb : (x.err != 0) = false := by rw [he]; rfl
    by_cases hq : x.seq = 0
    · have hqb : (x.seq != 0) = false := by rw [hq]; rfl
      have hal : Below w1.heap.size w1 (w1.alloc (.cells (lnkC x.seq x.base a1 n1 c1 a2 n2 c2 a3 n3 c3).toArray 45)) := (Below.refl _ _).alloc (Nat.le_refl _) _
      have HHA : Hid (Has (w1.alloc (.cells (lnkC x.seq x.base a1 n1 c1 a2 n2 c2 a3 n3 c3).toArray 45)) (repOf x.K x.C x.E) a1 a2 a3 ∧ repV (repOf x.K x.C x.E) a1 a2 a3 c1 c2 c3 = .agg #[.slice a1 n1 c1, .slice a2 n2 c2, .slice a3 n3 c3]) := (hL.keep hal).has f1 f2 f3
      have hLb := Bx.new w1 45 (lnkC x.seq x.base a1 n1 c1 a2 n2 c2 a3 n3 c3).toArray
      have HE : Hid (x.err = 0 ∧ x.seq = 0) := ⟨he, hq⟩
      clear he hq
      go_wp2_with fail
      have hck := check_any (repOf x.K x.C x.E) a1 a2 a3 c1 c2 c3 _ HHA.out.1
      rw [HHA.out.2] at hck
      refine hck.mono ?_
      rintro e w2 ⟨rfl, hb2⟩
      clear hck
      replace hLb := hLb.below hb2 hLb.lt
      replace hL := (hL.keep hal).keep hb2
      replace hR := (hR.alloc _).below hb2 (by have := hR.lt; simp; omega)
      replace hB := (hB.alloc hB.size _).trans (hb2.mono (by have := hB.size; simp; omega))
      clear hb2 hal
      by_cases hc : (repOf x.K x.C x.E).chk = 0
      · have hcb : ((repOf x.K x.C x.E).chk != 0) = false := by rw [hc]; rfl
        have HN : Hid (restRd b = ⟨0, 0, 0, 0, x.K, x.C, x.E⟩) := by show _ = _; rw [HX.out]; simp only [restOf]; rw [if_pos HE.out.1, if_pos HE.out.2, if_pos hc]
        have x2 := hLb.cell 2
        have x3 := hLb.cell 3
        have x4 := hLb.cell 4
        dsimp only [List.getElem?_cons_zero, List.getElem?_cons_succ] at x2 x3 x4
        clear hc hLb
        go_wp2_with (refine wpList_bstore (by rfl) _ _ _ (by rfl) w.heap.size 28 (by rfl) _ _ (by rfl) hR 3 (by rfl) (by kernel_rfl) (by rfl) (by intro x hx; simp at hx; rcases hx with rfl | rfl | rfl <;> rfl) ?_; intro w9 hR9 hU9; replace hR := hR9; replace hB := hU9.below hB (Nat.le_refl _); replace hL := hL.upd hU9 (by omega); clear hR9 hU9)
        exact bodyPost_ret (v := .tuple #[.agg #[.slice a1 n1 c1, .slice a2 n2 c2, .slice a3 n3 c3], .int .i64 0, .int .i64 0]) (results_box3 (by rfl) _ _ w.heap.size 28 _ _ _ _ (by rfl) hR (by rfl) (by rfl) Try.underlying28 (by rfl) 3 (by rfl) (by kernel_rfl)) rfl ⟨by rw [HN.out]; exact ⟨a1, n1, c1, a2, n2, c2, a3, n3, c3, rfl, hL.mono (Nat.le_succ _)⟩, hB⟩
      · have hcb : ((repOf x.K x.C x.E).chk != 0) = true := by rw [bne_iff_ne]; exact hc
        have HN : Hid (restRd b = ansErr (repOf x.K x.C x.E).chk 0) := by show _ = _; rw [HX.out]; simp only [restOf]; rw [if_pos HE.out.1, if_pos HE.out.2, if_neg hc]
        clear hc hLb
        generalize (repOf x.K x.C x.E).chk = ck at *
        go_wp2_with (refine wpList_bstore (by rfl) _ _ _ (by rfl) w.heap.size 28 (by rfl) _ _ (by rfl) hR 3 (by rfl) (by kernel_rfl) (by rfl) (by intro x hx; simp at hx; rcases hx with rfl | rfl | rfl <;> rfl) ?_; intro w9 hR9 hU9; replace hR := hR9; replace hB := hU9.below hB (Nat.le_refl _); clear hR9 hU9)
        exact bodyPost_ret (v := .tuple #[.agg ([.slice none 0 0, .slice none 0 0, .slice none 0 0] : List Value).toArray, .int .i64 ck, .int .i64 0]) (results_box3 (by rfl) _ _ w.heap.size 28 _ _ _ _ (by rfl) hR (by rfl) (by rfl) Try.underlying28 (by rfl) 3 (by rfl) (by kernel_rfl)) rfl ⟨by rw [HN.out]; exact ⟨none, 0, 0, none, 0, 0, none, 0, 0, rfl, Lists.nil _ _⟩, hB⟩
    · have hqb : (x.seq != 0) = true := by rw [bne_iff_ne]; exact hq
      have HN : Hid (restRd b = ansErr 11 0) := by show _ = _; rw [HX.out]; simp only [restOf]; rw [if_pos he, if_neg hq]
      clear hq he
      go_wp2_with (refine wpList_bstore (by rfl) _ _ _ (by rfl) w.heap.size 28 (by rfl) _ _ (by rfl) (hR.alloc _) 3 (by rfl) (by kernel_rfl) (by rfl) (by intro x hx; simp at hx; rcases hx with rfl | rfl | rfl <;> rfl) ?_; intro w9 hR9 hU9; replace hR := hR9; replace hB := hU9.below (hB.alloc hB.size _) (Nat.le_refl _); clear hR9 hU9)
      exact bodyPost_ret (v := .tuple #[.agg ([.slice none 0 0, .slice none 0 0, .slice none 0 0] : List Value).toArray, .int .i64 11, .int .i64 0]) (results_box3 (by rfl) _ _ w.heap.size 28 _ _ _ _ (by rfl) hR (by rfl) (by rfl) Try.underlying28 (by rfl) 3 (by rfl) (by kernel_rfl)) rfl ⟨by rw [HN.out]; exact ⟨none, 0, 0, none, 0, 0, none, 0, 0, rfl, Lists.nil _ _⟩, hB⟩
  · have heb : (x.err != 0) = true := by rw [bne_iff_ne]; exact he
    have HN : Hid (restRd b = ansErr x.err x.place) := by show _ = _; rw [HX.out]; simp only [restOf]; rw [if_neg he]
    clear he
    go_wp2_with (refine wpList_bstore (by rfl) _ _ _ (by rfl) w.heap.size 28 (by rfl) _ _ (by rfl) (hR.alloc _) 3 (by rfl) (by kernel_rfl) (by rfl) (by intro x hx; simp at hx; rcases hx with rfl | rfl | rfl <;> rfl) ?_; intro w9 hR9 hU9; replace hR := hR9; replace hB := hU9.below (hB.alloc hB.size _) (Nat.le_refl _); clear hR9 hU9)
    exact bodyPost_ret (v := .tuple #[.agg ([.slice none 0 0, .slice none 0 0, .slice none 0 0] : List Value).toArray, .int .i64 x.err, .int .i64 x.place]) (results_box3 (by rfl) _ _ w.heap.size 28 _ _ _ _ (by rfl) hR (by rfl) (by rfl) Try.underlying28 (by rfl) 3 (by rfl) (by kernel_rfl)) rfl ⟨by rw [HN.out]; exact ⟨none, 0, 0, none, 0, 0, none, 0, 0, rfl, Lists.nil _ _⟩, hB⟩

abbrev repC (a1 : Option Addr) (n1 c1 : Nat) (a2 : Option Addr) (n2 c2 : Nat) (a3 : Option Addr) (n3 c3 : Nat) : List Value := [.slice a1 n1 c1, .slice a2 n2 c2, .slice a3 n3 c3]

end Go.Proofs.Ytdjpkgaicmklmab

/- Restore of Export is that replica: without the program. -/
namespace Go.Proofs.Ytdjpkgaicmklmab
open Go.RowKit

theorem clockTo_congr {c d : Nat → Ck} {site : Int} : ∀ {n : Nat}, (∀ i, i < n → c i = d i) → clockTo c site n = clockTo d site n
  | 0, _ => rfl
  | n + 1, h => by simp only [clockTo]; rw [clockTo_congr (fun i hi => h i (by omega)), h n (by omega)]
/-- The same replicas are alike to Check. -/
theorem Same.chk {R T : Rep} (h : Same R T) : R.chk = T.chk := by
  have e1 : R.manyB = T.manyB := by unfold Rep.manyB; rw [h.n1, h.n2, h.n3]
  have e2 : R.numB = T.numB := by
    unfold Rep.numB
    rw [anyTo_congr (q := T.num1) (fun i hi => by unfold Rep.num1; rw [h.c i hi]), anyTo_congr (p := R.num2) (q := T.num2) (fun i hi => by unfold Rep.num2; rw [h.d i hi]), anyTo_congr (p := R.num3) (q := T.num3) (fun i hi => by unfold Rep.num3; rw [h.e i hi]), h.n1, h.n2, h.n3]
  have e3 : R.txtB = T.txtB := by
    unfold Rep.txtB
    rw [anyTo_congr (q := T.txt2) (fun i hi => by unfold Rep.txt2; rw [h.d i hi]), anyTo_congr (p := R.txt3) (q := T.txt3) (fun i hi => by unfold Rep.txt3; rw [h.e i hi]), h.n2, h.n3]
  have e4 : R.risB = T.risB := by
    unfold Rep.risB
    rw [anyTo_congr (q := T.ris1) (fun i hi => by unfold Rep.ris1; rw [h.c i (by omega), h.c (i + 1) (by omega)]), anyTo_congr (p := R.ris2) (q := T.ris2) (fun i hi => by unfold Rep.ris2; rw [h.d i (by omega), h.d (i + 1) (by omega)]), h.n1, h.n2]
  have e5 : R.uncB = T.uncB := by
    unfold Rep.uncB
    rw [anyTo_congr (q := T.unc) (fun i hi => by unfold Rep.unc Rep.clk; rw [clockTo_congr h.c, h.d i hi, h.n1]), h.n2]
  have e6 : R.clashB = T.clashB := by
    unfold Rep.clashB
    rw [anyTo_congr (q := T.clash) (fun i hi => by unfold Rep.clash; rw [anyTo_congr (q := fun k => stampB (T.d i) (T.d k)) (fun k hk => by rw [h.d i hi, h.d k (by omega)])]), h.n2]
  unfold Rep.chk
  rw [e1, e2, e3, e4, e5, e6]
theorem same_lists (R : Rep) : Same (repOf ((List.range R.n1).map R.c) ((List.range R.n2).map R.d) ((List.range R.n3).map R.e)) R := by
  refine ⟨by simp [repOf], by simp [repOf], by simp [repOf], fun i hi => ?_, fun i hi => ?_, fun i hi => ?_⟩
  · have : i < R.n1 := by simpa [repOf] using hi
    simp [repOf, List.getD, this]
  · have : i < R.n2 := by simpa [repOf] using hi
    simp [repOf, List.getD, this]
  · have : i < R.n3 := by simpa [repOf] using hi
    simp [repOf, List.getD, this]
/-- Restore of a sound replica's bundle is that replica. -/
theorem restRd_bundle {R : Rep} (h : R.chk = 0) : restRd (bundleB (recsOf 0 0 R)) = ⟨0, 0, 0, 0, (List.range R.n1).map R.c, (List.range R.n2).map R.d, (List.range R.n3).map R.e⟩ := by
  unfold restRd
  rw [readRd_bundle (Rep.fit h) (Rep.rising h) ⟨by decide, by decide⟩ (by decide) (by decide) (fun _ => rfl)]
  simp only [restOf]
  rw [if_pos trivial, if_pos trivial, if_pos (by rw [(same_lists R).chk, h])]
end Go.Proofs.Ytdjpkgaicmklmab

/- A bundle with turned bits is refused; how long a sound replica's bundle is: without the program. -/
namespace Go.Proofs.Ytdjpkgaicmklmab
open Go.RowKit

theorem sum_le (f : Nat → Nat) (c : Nat) : ∀ (l : List Nat), (∀ x ∈ l, f x ≤ c) → (l.map f).sum ≤ l.length * c
  | [], _ => by simp
  | x :: l, h => by
    have := sum_le f c l (fun y hy => h y (by simp [hy]))
    have := h x (by simp)
    simp only [List.map_cons, List.sum_cons, List.length_cons, Nat.add_mul, Nat.one_mul]; omega
theorem Rep.many {R : Rep} (h : R.chk = 0) : R.n1 ≤ 8 ∧ R.n2 ≤ 40 ∧ R.n3 ≤ 16 := by
  have g1 : R.manyB = false := by
    cases hh : R.manyB
    · rfl
    · simp [Rep.chk, hh] at h
  unfold Rep.manyB at g1; simp at g1; omega
/-- A sound replica's bundle can be split. -/
theorem bundle_small {R : Rep} (h : R.chk = 0) : (bundleB (recsOf 0 0 R)).length ≤ 6000 := by
  obtain ⟨m1, m2, m3⟩ := Rep.many h
  have hF := Rep.fit h
  have h1 : ((List.range R.n1).map (fun i => lenF (fdClock (R.c i)))).sum ≤ R.n1 * 28 := by
    have := sum_le (fun i => lenF (fdClock (R.c i))) 28 (List.range R.n1) (fun i _ => by
      have := bytesI_le 9 (R.c i).site; have := bytesI_le 9 (R.c i).count
      show lenF _ ≤ _; rw [lenF_clock]; omega)
    simpa using this
  have h2 : ((List.range R.n2).map (fun i => lenF (fdCard (R.d i)))).sum ≤ R.n2 * 99 := by
    have := sum_le (fun i => lenF (fdCard (R.d i))) 99 (List.range R.n2) (fun i hi => by
      have := bytesI_le 9 (R.d i).site; have := bytesI_le 9 (R.d i).count; have := bytesI_le 9 (R.d i).id; have := (hF.d1 i (List.mem_range.mp hi)).2.2.2
      show lenF _ ≤ _; rw [lenF_card]; omega)
    simpa using this
  have h3 : ((List.range R.n3).map (fun i => lenF (fdEdit (R.e i)))).sum ≤ R.n3 * 78 := by
    have := sum_le (fun i => lenF (fdEdit (R.e i))) 78 (List.range R.n3) (fun i hi => by
      have := bytesI_le 9 (R.e i).id; have := (hF.e1 i (List.mem_range.mp hi)).2
      show lenF _ ≤ _; rw [lenF_edit]; omega)
    simpa using this
  have h0 := lenF_head
  rw [bundleB_length]
  have e : lenL (recsOf 0 0 R) = lenF (fdHead 0 0) + ((List.range R.n1).map (fun i => lenF (fdClock (R.c i)))).sum + ((List.range R.n2).map (fun i => lenF (fdCard (R.d i)))).sum + ((List.range R.n3).map (fun i => lenF (fdEdit (R.e i)))).sum := by
    simp only [lenL, recsOf, recs3, recs2, recs1, List.map_append, List.map_cons, List.map_map, List.sum_append, List.sum_cons, Function.comp_def]
  rw [e]; omega

theorem readRd_sealed {b : List UInt8} (h : (readRd b).err = 0) : b = b.take (b.length - 4) ++ fourI (crc pSeal (b.take (b.length - 4))) := by
  unfold readRd at h
  split at h
  · simp [ansErr] at h
  · split at h
    · rename_i hs
      simp only [sealedB, Bool.and_eq_true, decide_eq_true_eq, beq_iff_eq] at hs
      rw [← hs.2, List.take_append_drop]
    · simp [ansErr] at h
theorem restRd_read {b : List UInt8} (h : (restRd b).err = 0) : (readRd b).err = 0 := by
  unfold restRd restOf at h
  split at h
  · assumption
  · exact h
theorem pSeal_lt : pSeal < 4294967296 := by decide
theorem pSeal_odd : pSeal % 2 = 1 := by decide
/-- A bundle with bits turned over within 32 consecutive ones is refused. -/
theorem read_turned (bit : Nat → Bool) (a : Nat) (l : List Fd) (h : turnB bit a (bundleB l) 32 ≠ bundleB l) : (readRd (turnB bit a (bundleB l) 32)).err ≠ 0 ∧ (restRd (turnB bit a (bundleB l) 32)).err ≠ 0 := by
  have k : (readRd (turnB bit a (bundleB l) 32)).err ≠ 0 := fun h0 => h (seal_turned pSeal_lt pSeal_odd bit a (bodyB l) _ (readRd_sealed h0))
  exact ⟨k, fun h0 => k (restRd_read h0)⟩
end Go.Proofs.Ytdjpkgaicmklmab

/- Carried: called with any writes and numbers it answers true. -/
namespace Go.Proofs.Ytdjpkgaicmklmab
open Go.RowKit

theorem vols_full {m : Nat} {b : List UInt8} {i : Nat} (hm : 0 < m) (h : i < cntB m b.length) : ((volsB m b).getD i []).length ≤ m + 14 ∧ (i + 1 < cntB m b.length → ((volsB m b).getD i []).length = m + 14) := by
  rw [vols_get m b i h, volB_len]
  unfold partB
  rw [List.length_take, List.length_drop]
  refine ⟨by omega, fun h2 => ?_⟩
  have h3 := cnt_least m b.length hm (by omega)
  have h4 : (i + 1) * m ≤ (cntB m b.length - 1) * m := Nat.mul_le_mul_right _ (by omega)
  rw [Nat.add_mul] at h4
  omega

set_option maxRecDepth 100000 in
set_option maxHeartbeats 4000000 in
theorem carried_any (nw nn nx no : Nat) (fw fx : Nat → Wr) (fn fo : Nat → Int) (aw an ax ao : Option Addr) (cw cn cx co : Nat) (size : Int) (w : World)
    (hW : Ws w aw nw fw) (hN : Ns w an nn fn) (hX : Ws w ax nx fx) (hO : Ns w ao no fo) (kw : nw ≤ cw) (hs : I64 size) :
    Calls Try.prog 3 #[.slice aw nw cw, .slice an nn cn, .slice ax nx cx, .int .i64 size, .slice ao no co] w fun e w' => e = .returned (.bool true) ∧ Below w.heap.size w w' := by
  have HS : Hid (I64 size) := hs
  have HO : Hid (Ns w ao no fo) := hO
  clear hs hO
  go_enter Try.func3, Try.ntmps3
  go_wp2_with fail
  refine (state_call (S := ⟨nw, fw, nn, fn⟩) (Below.refl _ w) hW hN hX kw).mono ?_
  rintro e w1 ⟨a1, a2, a3, k1, k2, k3, rfl, hR, hb1⟩
  have hRc := stateR_chk ⟨nw, fw, nn, fn⟩ nx fx
  generalize stateR ⟨nw, fw, nn, fn⟩ nx fx = R at *
  have hh : Below w1.heap.size w1 (w1.alloc (.cells #[.slice a1 R.n1 k1, .slice a2 R.n2 k2, .slice a3 R.n3 k3] 28)) := (Below.refl _ _).alloc (Nat.le_refl _) _
  have i0 : InC w w1 R a1 a2 a3 k1 k2 k3 (w1.alloc (.cells #[.slice a1 R.n1 k1, .slice a2 R.n2 k2, .slice a3 R.n3 k3] 28)) := ⟨Below.refl _ _, hR.below hh, hb1.trans (hh.mono hb1.size)⟩
  clear hh hb1 hR hW hN hX kw
  have eR : R.exp = bundleB (recsOf 0 0 R) := by unfold Rep.exp; rw [if_pos hRc]
  have H6 : Hid ((bundleB (recsOf 0 0 R)).length ≤ 6000) := bundle_small hRc
  have HRD : Hid (restRd (bundleB (recsOf 0 0 R)) = ⟨0, 0, 0, 0, (List.range R.n1).map R.c, (List.range R.n2).map R.d, (List.range R.n3).map R.e⟩) := restRd_bundle hRc
  have HRC : Hid (R.chk = 0) := hRc
  generalize bundleB (recsOf 0 0 R) = B at *
  have HRB : Hid (R.exp = B) := eR
  clear eR hRc
  have HI0 := i0
  obtain ⟨x1, x2, x3⟩ := box3 i0.bR
  go_wp2_with fail
  refine (export_any R a1 a2 a3 k1 k2 k3 _ i0.hR).mono ?_
  rintro e w3 ⟨rfl, hb3⟩
  have HI : Hid (InC w w1 R a1 a2 a3 k1 k2 k3 w3) := i0.step hb3
  rw [HRC.out, HRB.out]
  clear hb3 i0 HI0 x1 x2 x3
  go_wp2_with fail
  refine (volumes_any size _ HS.out).mono ?_
  rintro e w4 ⟨rfl, hw4⟩
  obtain rfl : w3 = w4 := hw4.symm
  clear hw4
  obtain ⟨s1, s2⟩ := split_ok (b := B) size H6.out
  obtain ⟨r1, r2, r3⟩ := roomN_range size
  have HE1 : Hid (splitL B (volN size) = volsB (roomN size) B) := s1
  have HE2 : Hid (splitE B (volN size) = 0) := s2
  clear s1 s2
  go_wp2_with fail
  refine (psplit_any B (volN size) _ (by have := H6.out; omega)).mono ?_
  rintro e w5 ⟨ad, cap, N, rfl, hN, hv, hb5⟩
  rw [HE1.out] at hN hv
  rw [HE2.out]
  rw [vols_len] at hN
  generalize hmm : roomN size = m at *
  have HR3 : Hid ((m : Int) + 14 = volN size) := r3
  have HM0 := cnt_pos m B.length (by omega)
  have HM1 := cnt_small m B.length r1 H6.out
  have hN0 : 0 < N := by omega
  have hN1 : N < 256 := by omega
  have HN : Hid (N = cntB m B.length) := hN
  have HNV : Hid (N = (volsB m B).length) := by show _ = _; rw [vols_len]; exact HN.out
  have HL : Hid (Lies w5 ad N 1 (fun i => [.string (str ((volsB m B).getD i []))])) := strs_lies hv HNV.out
  have HB5 : Hid (Below w3.heap.size w3 w5) := hb5
  have HI5 : Hid (InC w w1 R a1 a2 a3 k1 k2 k3 w5) := HI.out.step hb5
  have HR1 : Hid (26 ≤ m) := r1
  have HR2 : Hid (m ≤ 3986) := r2
  have q1 : ((N : Int) == 0) = false := by rw [beq_eq_false_iff_ne]; omega
  clear hN hv hb5 HM0 HM1 hmm HE1 HE2 r3 HI
  generalize hvn : volN size = V at *
  have HVN : Hid (volN size = V) := hvn
  clear hvn
  go_wp2_with fail
  go_loopw [16] (fun u wr => ∃ i : Nat, i ≤ N ∧ u = .int .i64 i ∧ Below w5.heap.size w5 wr) (fun u _ => N - (intOf u).toNat)
  case atStart => exact ⟨0, by omega, rfl, Below.refl _ _⟩
  case round =>
    obtain ⟨i, hi, rfl, hbr⟩ := hrel
    by_cases hlt : i < N
    · obtain ⟨b, o, hbl, hix, hc⟩ := (HL.out.below hbr).at cap (P := Try.prog) (t := 33) (by kernel_rfl) (by kernel_rfl) hlt
      have c0 : wr.cell? ⟨b, o, none⟩ = some (.string (str ((volsB m B).getD i []))) := hc 0 _ (by omega) rfl
      obtain ⟨f1, f2⟩ := vols_full (m := m) (b := B) (i := i) (by have := HR1.out; omega) (by rw [← HN.out]; exact hlt)
      rw [← HN.out] at f2
      clear hc
      generalize (volsB m B).getD i [] = v at *
      have hvs := str_size v
      have hV3 := HR3.out
      have d1 : decide (((str v).size : Int) > V) = false := by simp; omega
      by_cases hl2 : i + 1 < N
      · have d2 : decide ((i : Int) + 1 < (N : Int)) = true := by simp; omega
        have d3 : decide (((str v).size : Int) < V) = false := by have := f2 hl2; simp; omega
        have hVi : IntKind.i64.wrap ((i : Int) + 1) = (i : Int) + 1 := wrap_i64 _ (by omega) (by omega)
        clear f1 f2 hvs hV3
        go_wp2_with fail
        go_quiet ((go_at_call 12; exact Calls.quiet_of_same ((volumes_any size _ HS.out).mono fun e w' h => ⟨by rw [h.1, HVN.out], h.2⟩)))
        go_wp2_with fail
        go_roundw
        case rel => exact ⟨i + 1, by omega, by go_num, below_drewN hbr _⟩
        case measure => simp [intOf]; omega
      · have d2 : decide ((i : Int) + 1 < (N : Int)) = false := by simp; omega
        have hVi : IntKind.i64.wrap ((i : Int) + 1) = (i : Int) + 1 := wrap_i64 _ (by omega) (by omega)
        clear f1 f2 hvs hV3
        go_wp2_with fail
        go_quiet ((go_at_call 12; exact Calls.quiet_of_same ((volumes_any size _ HS.out).mono fun e w' h => ⟨by rw [h.1, HVN.out], h.2⟩)))
        go_wp2_with fail
        go_roundw
        case rel => exact ⟨i + 1, by omega, by go_num, below_drewN hbr _⟩
        case measure => simp [intOf]; omega
    · generalize hWW : wr = W at *
      clear hWW
      have HBR : Hid (Below w5.heap.size w5 W) := hbr
      have HIW : Hid (InC w w1 R a1 a2 a3 k1 k2 k3 W) := HI5.out.step hbr
      clear hbr
      go_wp2_with fail
      have HOW := HO.out.lies.below (HIW.out.old)
      refine (shuffled_any (volsB m B) ad N cap no fo ao co _ (HL.out.below HBR.out) HNV.out (by omega) HOW HO.out.few HO.out.ok).mono ?_
      rintro e w6 ⟨g, ad6, rfl, had6, ho6, hb6⟩
      have HP : Hid ((shufR fo (volsB m B) no).Perm (volsB m B)) := shufR_perm _ _ _
      have HNS : Hid (N = (shufR fo (volsB m B) no).length) := by show _ = _; rw [HP.out.length_eq]; exact HNV.out
      have HJ : Hid (joinRd (shufR fo (volsB m B) no) = ⟨B, 0, 0⟩) := join_perm HR1.out H6.out HP.out
      have HL6 : Hid (Lies w6 ad6 N 1 (fun i => [.string (str ((shufR fo (volsB m B) no).getD i []))])) := srows_lies ho6 had6 (by rw [← HNS.out]; exact Nat.le_refl _) (fun _ _ => rfl)
      have HI6 : Hid (InC w w1 R a1 a2 a3 k1 k2 k3 w6) := HIW.out.step hb6
      have HSH : Hid (∀ v, v ∈ shufR fo (volsB m B) no → v.length ≤ 34359738368) := fun v hv => by have := vols_short (HP.out.mem_iff.1 hv); have := HR2.out; omega
      clear had6 ho6 hb6 HOW
      go_wp2_with fail
      refine (pjoin_any (shufR fo (volsB m B) no) ad6 N _ _ HL6.out HNS.out HSH.out (by omega)).mono ?_
      rintro e w7 ⟨rfl, hb7⟩
      rw [HJ.out]
      have HI7 : Hid (InC w w1 R a1 a2 a3 k1 k2 k3 w7) := HI6.out.step hb7
      clear hb7
      have q2 : ((str B).toList == (str B).toList) = true := by simp
      go_wp2_with fail
      refine (prestore_any B _ (by have := H6.out; omega)).mono ?_
      rintro e w8 ⟨⟨b1, n1, c1, b2, n2, c2, b3, n3, c3, rfl, hL8⟩, hb8⟩
      rw [HRD.out] at hL8 ⊢
      have HI8 : Hid (InC w w1 R a1 a2 a3 k1 k2 k3 w8) := HI7.out.step hb8
      clear hb8
      have f1 : n1 ≤ 1099511627776 := by rw [hL8.e1]; simp; have := (Rep.many HRC.out).1; omega
      have f2 : n2 ≤ 1099511627776 := by rw [hL8.e2]; simp; have := (Rep.many HRC.out).2.1; omega
      have f3 : n3 ≤ 1099511627776 := by rw [hL8.e3]; simp; have := (Rep.many HRC.out).2.2; omega
      obtain ⟨hH8, hV8⟩ := hL8.has f1 f2 f3
      have HSM : Hid (Same R (repOf ((List.range R.n1).map R.c) ((List.range R.n2).map R.d) ((List.range R.n3).map R.e))) := by
        have h := same_lists R
        exact ⟨h.n1.symm, h.n2.symm, h.n3.symm, fun i hi => (h.c i (by rw [h.n1]; exact hi)).symm, fun i hi => (h.d i (by rw [h.n2]; exact hi)).symm, fun i hi => (h.e i (by rw [h.n3]; exact hi)).symm⟩
      have hh8 : Below w8.heap.size w8 (w8.alloc (.cells #[.slice b1 n1 c1, .slice b2 n2 c2, .slice b3 n3 c3] 28)) := (Below.refl _ _).alloc (Nat.le_refl _) _
      have HI9 : Hid (InC w w1 R a1 a2 a3 k1 k2 k3 (w8.alloc (.cells #[.slice b1 n1 c1, .slice b2 n2 c2, .slice b3 n3 c3] 28))) := HI8.out.step hh8
      have HH9 : Hid (Has (w8.alloc (.cells #[.slice b1 n1 c1, .slice b2 n2 c2, .slice b3 n3 c3] 28)) (repOf ((List.range R.n1).map R.c) ((List.range R.n2).map R.d) ((List.range R.n3).map R.e)) b1 b2 b3) := hH8.below hh8
      have HV9 : Hid (repV (repOf ((List.range R.n1).map R.c) ((List.range R.n2).map R.d) ((List.range R.n3).map R.e)) b1 b2 b3 c1 c2 c3 = .agg #[.slice b1 n1 c1, .slice b2 n2 c2, .slice b3 n3 c3]) := hV8
      clear hH8 hV8 hh8 hL8 f1 f2 f3
      generalize repOf ((List.range R.n1).map R.c) ((List.range R.n2).map R.d) ((List.range R.n3).map R.e) = T8 at *
      obtain ⟨x1, x2, x3⟩ := box3 HI9.out.bR
      go_wp2_with fail
      have hsm := same_any R T8 a1 a2 a3 b1 b2 b3 k1 k2 k3 c1 c2 c3 _ HI9.out.hR HH9.out
      rw [HV9.out] at hsm
      refine hsm.mono ?_
      rintro e w10 ⟨bb, ⟨rfl, hbb⟩, hb10⟩
      have hbt : bb = true := hbb.2 HSM.out
      subst hbt
      have HI10 : Hid (InC w w1 R a1 a2 a3 k1 k2 k3 w10) := HI9.out.step hb10
      clear hsm hbb hb10 x1 x2 x3
      go_wp2_with fail
      go_ret
      exact ⟨by first | rfl | simp, HI10.out.old⟩
end Go.Proofs.Ytdjpkgaicmklmab

/- Torn: called with any writes and numbers it answers true. -/
namespace Go.Proofs.Ytdjpkgaicmklmab
open Go.RowKit

theorem vols_turned {m : Nat} {b : List UInt8} {i : Nat} (hi : i < cntB m b.length) (bit : Nat → Bool) (a : Nat) (h : turnB bit a ((volsB m b).getD i []) 32 ≠ (volsB m b).getD i []) : volOk (turnB bit a ((volsB m b).getD i []) 32) = false := by
  rw [vols_get m b i hi] at h ⊢
  exact vol_turned bit a h
theorem set_same {l : List (List UInt8)} {i : Nat} (h : i < l.length) : l.set i (l.getD i []) = l := by
  apply List.ext_getElem?
  intro j
  rw [List.getElem?_set]
  split
  · rename_i e; subst e; simp [h]
  · rfl

set_option maxRecDepth 100000 in
set_option maxHeartbeats 4000000 in
theorem torn_any (nw nn nx : Nat) (fw fx : Nat → Wr) (fn : Nat → Int) (aw an ax : Option Addr) (cw cn cx : Nat) (size which at_ mask : Int) (w : World)
    (hW : Ws w aw nw fw) (hN : Ns w an nn fn) (hX : Ws w ax nx fx) (kw : nw ≤ cw) (hs : I64 size) (hwh : I64 which) (hat : I64 at_) :
    Calls Try.prog 4 #[.slice aw nw cw, .slice an nn cn, .slice ax nx cx, .int .i64 size, .int .i64 which, .int .i64 at_, .int .i64 mask] w fun e w' => e = .returned (.bool true) ∧ Below w.heap.size w w' := by
  have HS : Hid (I64 size) := hs
  have HWH : Hid (I64 which) := hwh
  have HAT : Hid (I64 at_) := hat
  clear hs hwh hat
  go_enter Try.func4, Try.ntmps4
  go_wp2_with fail
  refine (state_call (S := ⟨nw, fw, nn, fn⟩) (Below.refl _ w) hW hN hX kw).mono ?_
  rintro e w1 ⟨a1, a2, a3, k1, k2, k3, rfl, hR, hb1⟩
  have hRc := stateR_chk ⟨nw, fw, nn, fn⟩ nx fx
  generalize stateR ⟨nw, fw, nn, fn⟩ nx fx = R at *
  have eR : R.exp = bundleB (recsOf 0 0 R) := by unfold Rep.exp; rw [if_pos hRc]
  have H6 : Hid ((bundleB (recsOf 0 0 R)).length ≤ 6000) := bundle_small hRc
  have HB8 : Hid (8 ≤ (bundleB (recsOf 0 0 R)).length) := by show _ ≤ _; rw [bundleB_length]; omega
  have HRD : Hid ((readRd (bundleB (recsOf 0 0 R))).err = 0 ∧ (restRd (bundleB (recsOf 0 0 R))).err = 0) := by
    have h := restRd_bundle hRc
    have h2 : (restRd (bundleB (recsOf 0 0 R))).err = 0 := by rw [h]
    exact ⟨restRd_read h2, h2⟩
  have HTU : Hid (∀ bit a, turnB bit a (bundleB (recsOf 0 0 R)) 32 ≠ bundleB (recsOf 0 0 R) → (readRd (turnB bit a (bundleB (recsOf 0 0 R)) 32)).err ≠ 0 ∧ (restRd (turnB bit a (bundleB (recsOf 0 0 R)) 32)).err ≠ 0) := fun bit a h => read_turned bit a _ h
  have HRC : Hid (R.chk = 0) := hRc
  generalize bundleB (recsOf 0 0 R) = B at *
  have HRB : Hid (R.exp = B) := eR
  have HHR : Hid (Has w1 R a1 a2 a3) := hR
  have HB1 : Hid (Below w.heap.size w w1) := hb1
  clear eR hRc hR hb1 hW hN hX kw
  go_wp2_with fail
  refine (export_any R a1 a2 a3 k1 k2 k3 _ HHR.out).mono ?_
  rintro e w3 ⟨rfl, hb3⟩
  rw [HRC.out, HRB.out]
  have HB3 : Hid (Below w.heap.size w w3) := HB1.out.trans (hb3.mono HB1.out.size)
  clear hb3 HHR HB1
  go_wp2_with fail
  refine (volumes_any size _ HS.out).mono ?_
  rintro e w4 ⟨rfl, hw4⟩
  obtain rfl : w3 = w4 := hw4.symm
  clear hw4
  obtain ⟨s1, s2⟩ := split_ok (b := B) size H6.out
  obtain ⟨r1, r2, r3⟩ := roomN_range size
  have HE1 : Hid (splitL B (volN size) = volsB (roomN size) B) := s1
  have HE2 : Hid (splitE B (volN size) = 0) := s2
  clear s1 s2
  go_wp2_with fail
  refine (psplit_any B (volN size) _ (by have := H6.out; omega)).mono ?_
  rintro e w5 ⟨ad, cap, N, rfl, hN, hv, hb5⟩
  rw [HE1.out] at hN hv
  rw [HE2.out]
  rw [vols_len] at hN
  generalize hmm : roomN size = m at *
  have HM0 := cnt_pos m B.length (by omega)
  have HM1 := cnt_small m B.length r1 H6.out
  have hN0 : 0 < N := by omega
  have hN1 : N < 256 := by omega
  have HN : Hid (N = cntB m B.length) := hN
  have HNV : Hid (N = (volsB m B).length) := by show _ = _; rw [vols_len]; exact HN.out
  have HV5 : Hid (Vec w5 w.heap.size 9 1 ad N cap (strs (volsB m B))) := hv.mono HB3.out.size
  have HB5 : Hid (Below w.heap.size w w5) := HB3.out.trans (hb5.mono HB3.out.size)
  have HR1 : Hid (26 ≤ m) := r1
  have HR2 : Hid (m ≤ 3986) := r2
  have HSH : Hid (∀ v, v ∈ volsB m B → v.length ≤ 4000) := fun v hv => by have := vols_short hv; omega
  have q1 : ((N : Int) == 0) = false := by rw [beq_eq_false_iff_ne]; omega
  clear hN hv hb5 HM0 HM1 hmm HE1 HE2 r1 r2 r3 HB3
  go_wp2_with fail
  refine (pread_any B _ (by have := H6.out; omega)).mono ?_
  rintro e w6 ⟨⟨b1, n1, c1, b2, n2, c2, b3, n3, c3, rfl, -⟩, hb6⟩
  rw [HRD.out.1]
  have HB56 : Hid (Below w5.heap.size w5 w6) := hb6
  clear hb6
  generalize (readRd B).seq = sq
  generalize (readRd B).base = bs
  generalize (readRd B).place = pl
  go_wp2_with fail
  have HA6 : Hid (Below w5.heap.size w5 (w6.alloc (.cells #[.int .i64 sq, .int .i64 bs, .slice b1 n1 c1, .slice b2 n2 c2, .slice b3 n3 c3] 45))) := HB56.out.alloc HB56.out.size _
  generalize w6.alloc (.cells #[.int .i64 sq, .int .i64 bs, .slice b1 n1 c1, .slice b2 n2 c2, .slice b3 n3 c3] 45) = w7 at *
  have HSJ : Hid (∀ v, v ∈ volsB m B → v.length ≤ 34359738368) := fun v hv => Nat.le_trans (HSH.out v hv) (by omega)
  refine (pjoin_any (volsB m B) ad N cap _ ((strs_lies HV5.out HNV.out).below HA6.out) HNV.out HSJ.out (by omega)).mono ?_
  rintro e w8 ⟨rfl, hb8⟩
  rw [join_perm HR1.out H6.out (List.Perm.refl _)]
  have HB58 : Hid (Below w5.heap.size w5 w8) := HA6.out.trans (hb8.mono HA6.out.size)
  clear hb8 HA6 HB56
  have hzB := str_size B
  have hs0 : 0 < 8 * ((str B).size : Int) := by have := HB8.out; omega
  have hs1 : (str B).size ≤ 6000 := by have := H6.out; omega
  have q2 : ((str B).toList == []) = false := by rw [str_toList, beq_eq_false_iff_ne]; intro h; have := HB8.out; rw [h] at this; simp at this
  have HZB : Hid ((str B).size = B.length) := hzB
  clear hzB
  go_wp2_with fail
  obtain ⟨p1, p2⟩ := pickI_lt at_ (8 * ((str B).size : Int)) hs0
  obtain ⟨a, ha⟩ : ∃ a : Nat, pickI at_ (8 * ((str B).size : Int)) = (a : Int) := ⟨(pickI at_ (8 * ((str B).size : Int))).toNat, by omega⟩
  have HAN : Hid (a < 8 * B.length) := by have := HZB.out; show _ < _; omega
  have HAI : Hid (pickI at_ (8 * ((str B).size : Int)) = (a : Int)) := ha
  clear p1 p2 ha
  refine (pick_any at_ (8 * ((str B).size : Int)) _ HAT.out hs0 (by omega)).mono ?_
  rintro e w9 ⟨rfl, hw9⟩
  obtain rfl : w8 = w9 := hw9.symm
  rw [HAI.out]
  clear hw9 hs0 HAI
  go_wp2_with fail
  refine (turned_any B a mask _ (by have := H6.out; omega) HAN.out).mono ?_
  rintro e w10 ⟨rfl, hb10⟩
  have HB510 : Hid (Below w5.heap.size w5 w10) := HB58.out.trans (hb10.mono HB58.out.size)
  have HCL : Hid ((turnB (bitM mask) a B 32).length = B.length) := turn_len _ _ _ _
  obtain ⟨C, hC⟩ : ∃ C, C = turnB (bitM mask) a B 32 := ⟨_, rfl⟩
  have HTC := HTU.out (bitM mask) a
  rw [← hC] at HTC HCL ⊢
  have HTD : Hid (C ≠ B → (readRd C).err ≠ 0 ∧ (restRd C).err ≠ 0) := HTC
  clear hb10 HB58 hC HTC HTU
  go_wp2_with fail
  refine (pread_any C _ (by have := H6.out; have := HCL.out; omega)).mono ?_
  rintro e w11 ⟨⟨d1, m1, e1, d2, m2, e2, d3, m3, e3, rfl, -⟩, hb11⟩
  have HB511 : Hid (Below w5.heap.size w5 w11) := HB510.out.trans (hb11.mono HB510.out.size)
  clear hb11 HB510
  obtain ⟨er, her⟩ : ∃ x, x = (readRd C).err := ⟨_, rfl⟩
  have HER : Hid ((readRd C).err = er) := her.symm
  rw [← her]
  clear her
  generalize (readRd C).seq = sq2
  generalize (readRd C).base = bs2
  generalize (readRd C).place = pl2
  go_wp2_with fail
  refine (prestore_any C _ (by have := H6.out; have := HCL.out; omega)).mono ?_
  rintro e w12 ⟨⟨g1, o1, h1, g2, o2, h2, g3, o3, h3, rfl, -⟩, hb12⟩
  have HB512 : Hid (Below w5.heap.size w5 w12) := HB511.out.trans (hb12.mono HB511.out.size)
  clear hb12 HB511
  obtain ⟨es, hes⟩ : ∃ x, x = (restRd C).err := ⟨_, rfl⟩
  have HES : Hid ((restRd C).err = es) := hes.symm
  rw [← hes]
  clear hes
  generalize (restRd C).place = pl3
  have HCASE : Hid ((((str B).toList == (str C).toList) = true ∧ (er == 0) = true ∧ (es == 0) = true) ∨ (((str B).toList == (str C).toList) = false ∧ (er == 0) = false ∧ (es == 0) = false)) := by
    by_cases h : C = B
    · left
      subst h
      exact ⟨by simp, by rw [← HER.out, HRD.out.1]; rfl, by rw [← HES.out, HRD.out.2]; rfl⟩
    · right
      obtain ⟨k1, k2⟩ := HTD.out h
      rw [HER.out] at k1
      rw [HES.out] at k2
      exact ⟨by rw [str_beq, beq_eq_false_iff_ne]; exact fun e => h e.symm, by rw [beq_eq_false_iff_ne]; exact k1, by rw [beq_eq_false_iff_ne]; exact k2⟩
  generalize hx1 : ((str B).toList == (str C).toList) = x1 at *
  generalize hx2 : (er == 0) = x2 at *
  generalize hx3 : (es == 0) = x3 at *
  obtain ⟨hx4, hx5⟩ : x2 = x1 ∧ x3 = x1 := by
    rcases HCASE.out with ⟨h1, h2, h3⟩ | ⟨h1, h2, h3⟩
    · rw [h1, h2, h3]; exact ⟨rfl, rfl⟩
    · rw [h1, h2, h3]; exact ⟨rfl, rfl⟩
  subst hx4 hx5
  clear HCASE HTD HES HER HCL
  go_wp2_with fail
  obtain ⟨p1, p2⟩ := pickI_lt which (N : Int) (by omega)
  obtain ⟨i, hi⟩ : ∃ i : Nat, pickI which (N : Int) = (i : Int) := ⟨(pickI which (N : Int)).toNat, by omega⟩
  have hiN : i < N := by omega
  have HI : Hid (pickI which (N : Int) = (i : Int)) := hi
  clear p1 p2 hi
  refine (pick_any which (N : Int) _ HWH.out (by omega) (by omega)).mono ?_
  rintro e w13 ⟨rfl, hw13⟩
  obtain rfl : w12 = w13 := hw13.symm
  rw [HI.out]
  clear hw13 HI hx1 hx2 hx3 hs1 q2
  have HV12 : Hid (Vec w12 w.heap.size 9 1 ad N cap (strs (volsB m B))) := HV5.out.keep HB512.out
  have HBW : Hid (Below w.heap.size w w12) := HB5.out.trans (HB512.out.mono HB5.out.size)
  obtain ⟨g, hgd, hgB, hgl, hix, hcg, hfz, hst⟩ := HV12.out.cell1 (P := Try.prog) (t := 33) (by kernel_rfl) (by kernel_rfl) hiN (i : Int) rfl
  have hcg2 : w12.cell? ⟨g, i, none⟩ = some (.string (str ((volsB m B).getD i []))) := by rw [hcg, strs_at (by rw [← HNV.out]; exact hiN)]
  have HMV : Hid ((volsB m B).getD i [] ∈ volsB m B) := volAt_mem (by rw [← HNV.out]; exact hiN)
  have HVL : Hid (((volsB m B).getD i []).length ≤ 4000) := HSH.out _ HMV.out
  have HVL2 : Hid (14 ≤ ((volsB m B).getD i []).length) := by show _ ≤ _; rw [vols_get m B i (by rw [← HN.out]; exact hiN), volB_len]; omega
  have HTV : Hid (∀ a, turnB (bitM mask) a ((volsB m B).getD i []) 32 ≠ (volsB m B).getD i [] → volOk (turnB (bitM mask) a ((volsB m B).getD i []) 32) = false) := fun a h => vols_turned (by rw [← HN.out]; exact hiN) _ a h
  have HSS : Hid ((volsB m B).set i ((volsB m B).getD i []) = volsB m B) := set_same (by rw [← HNV.out]; exact hiN)
  clear hcg hst hgd
  generalize hve : (volsB m B).getD i [] = v at *
  have HVE : Hid ((volsB m B).getD i [] = v) := hve
  clear hve
  have hzv := str_size v
  have HZV : Hid ((str v).size = v.length) := hzv
  have q2 : ((str v).toList == []) = false := by rw [str_toList, beq_eq_false_iff_ne]; intro h; have := HVL2.out; rw [h] at this; simp at this
  have hv0 : 0 < 8 * ((str v).size : Int) := by have := HVL2.out; omega
  have hv1 : (str v).size ≤ 4000 := by have := HVL.out; omega
  obtain ⟨p1, p2⟩ := pickI_lt at_ (8 * ((str v).size : Int)) hv0
  obtain ⟨a5, ha5⟩ : ∃ a : Nat, pickI at_ (8 * ((str v).size : Int)) = (a : Int) := ⟨(pickI at_ (8 * ((str v).size : Int))).toNat, by omega⟩
  have HAN5 : Hid (a5 < 8 * v.length) := by have := HZV.out; show _ < _; omega
  have HAI5 : Hid (pickI at_ (8 * ((str v).size : Int)) = (a5 : Int)) := ha5
  have hmul : IntKind.i64.wrap (8 * ((str v).size : Int)) = 8 * ((str v).size : Int) := wrap_i64 _ (by omega) (by omega)
  clear p1 p2 ha5 hzv
  go_wp2_with fail
  apply merge
  · intro KEY
    go_region_law (go_simp; first | (go_at_call 19; refine (pick_any at_ (8 * ((str v).size : Int)) _ HAT.out hv0 (by omega)).mono ?_; rintro e w' ⟨rfl, hw'⟩; subst hw'; rw [HAI5.out]; dsimp only) | (go_at_call 18; refine (turned_any v a5 mask _ (by have := HVL.out; omega) HAN5.out).mono ?_; rintro e w' ⟨rfl, hb'⟩; dsimp only))
    all_goals (revert w'; exact KEY.out)
  intro w' hb'
  have HB' : Hid (Below w12.heap.size w12 w') := below_drew1 hb'
  obtain ⟨V, hV⟩ : ∃ V, V = turnB (bitM mask) a5 v 32 := ⟨_, rfl⟩
  rw [← hV]
  have HVV : Hid (V ≠ v → volOk V = false) := by rw [hV]; exact HTV.out a5
  have HVL5 : Hid (V.length ≤ 4000) := by show _ ≤ _; rw [hV, turn_len]; exact HVL.out
  clear hb' hV HTV hix hcg2 hfz hgB hgl
  have HV13 : Hid (Vec w' w.heap.size 9 1 ad N cap (strs (volsB m B))) := HV12.out.keep HB'.out
  obtain ⟨g, hgd, hgB, hgl, hix, hcg, hfz, hst⟩ := HV13.out.cell1 (P := Try.prog) (t := 33) (by kernel_rfl) (by kernel_rfl) hiN (i : Int) rfl
  have hcg2 : w'.cell? ⟨g, i, none⟩ = some (.string (str v)) := by rw [hcg, strs_at (by rw [← HNV.out]; exact hiN), HVE.out]
  have HST : Hid (∀ x : List UInt8, Vec (w'.setCell ⟨g, i, none⟩ (.string (str x))) w.heap.size 9 1 ad N cap (strs ((volsB m B).set i x))) := fun x => by rw [← strs_set]; exact hst _
  have HU : Hid (∀ x : List UInt8, Below w.heap.size w (w'.setCell ⟨g, i, none⟩ (.string (str x)))) := fun x => ((Upd.refl g w').setCell _ rfl _).below (HBW.out.trans (HB'.out.mono HBW.out.size)) hgB
  clear hcg hst hgd
  obtain ⟨x5, hx5⟩ : ∃ x, x = ((str V).toList == (str v).toList) := ⟨_, rfl⟩
  have HX5 : Hid (((str V).toList == (str v).toList) = x5) := hx5.symm
  have hx6 := hx5.symm
  clear hx5
  go_wp2_with fail
  have hv14 := HST.out V
  have hb14 := HU.out V
  generalize w'.setCell ⟨g, i, none⟩ (.string (str V)) = w14 at *
  have HN14 : Hid (N = ((volsB m B).set i V).length) := by show _ = _; rw [List.length_set, ← HNV.out]
  have HV14 : Hid (Vec w14 w.heap.size 9 1 ad N cap (strs ((volsB m B).set i V))) := hv14
  have HB14 : Hid (Below w.heap.size w w14) := hb14
  clear hv14 hb14 HST HU
  refine (pjoin_any ((volsB m B).set i V) ad N cap _ (strs_lies HV14.out HN14.out) HN14.out (fun v hv => by rcases List.mem_or_eq_of_mem_set hv with h | h; (exact HSJ.out v h); (rw [h]; exact Nat.le_trans HVL5.out (by omega))) (by omega)).mono ?_
  rintro e w15 ⟨rfl, hb15⟩
  have HB15 : Hid (Below w.heap.size w w15) := HB14.out.trans (hb15.mono HB14.out.size)
  clear hb15 hix hcg2 hfz hx6
  by_cases hVv : V = v
  · have hx : x5 = true := by rw [← HX5.out, hVv]; simp
    have HJ : Hid (joinRd ((volsB m B).set i V) = ⟨B, 0, 0⟩) := by show _ = _; rw [hVv, HSS.out]; exact join_perm HR1.out H6.out (List.Perm.refl _)
    subst hx
    rw [HJ.out]
    clear hVv
    go_wp2_with fail
    go_ret
    exact ⟨by first | rfl | simp, HB15.out⟩
  · have hx : x5 = false := by rw [← HX5.out, str_beq, beq_eq_false_iff_ne]; exact hVv
    have HJ : Hid (joinRd ((volsB m B).set i V) = ⟨[], 13, i⟩) := join_torn HR1.out H6.out (by rw [← HN.out]; exact hiN) (HVV.out hVv)
    subst hx
    rw [HJ.out]
    clear hVv
    go_wp2_with fail
    go_ret
    exact ⟨by first | rfl | simp, HB15.out⟩
end Go.Proofs.Ytdjpkgaicmklmab

