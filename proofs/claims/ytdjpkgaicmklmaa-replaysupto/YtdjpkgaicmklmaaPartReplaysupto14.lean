/- Texts of the proof, one behind the other; what each holds is said at its head. -/
import Derived.Test.YtdjpkgaicmklmaaPartReplaysupto12
import Derived.Test.YtdjpkgaicmklmaaPartReplaysupto8
import Derived.Test.YtdjpkgaicmklmaaPartReplaysupto13
import Derived.Test.YtdjpkgaicmklmaaPartReplaysupto0
import Derived.ProofKit
import Derived.SizedLaws
import Derived.Lib.SmallJoins
import Derived.Deep.Slices
import Derived.SliceStrings
import Derived.Carry
/- parcellaw.replayed and Replays: called with any strings, up to very many bytes, it answers true. -/
namespace Go.Proofs.Ytdjpkgaicmklmaa
open Go.RowKit

theorem replayRd_few {l : List (List UInt8)} (h : ∀ v, v ∈ l → v.length ≤ 1048576) : (replayRd l).K.length ≤ 17825792 ∧ (replayRd l).C.length ≤ 17825792 ∧ (replayRd l).E.length ≤ 17825792 := by
  have he : ∀ e p, (ansErr e p).K.length ≤ 17825792 ∧ (ansErr e p).C.length ≤ 17825792 ∧ (ansErr e p).E.length ≤ 17825792 := fun e p => ⟨by simp [ansErr], by simp [ansErr], by simp [ansErr]⟩
  unfold replayRd
  split
  · exact he _ _
  · split
    · exact he _ _
    · split
      · exact he _ _
      · split
        · exact he _ _
        · split
          · exact he _ _
          · split
            · obtain ⟨h1, h2, h3⟩ := chain_few h (l.length - 1)
              refine ⟨Nat.le_trans h1 ?_, Nat.le_trans h2 ?_, Nat.le_trans h3 (by omega)⟩ <;> omega
            · exact he _ _

set_option maxRecDepth 100000 in
set_option maxHeartbeats 4000000 in
theorem replayed_any (l : List (List UInt8)) (ad0 : Option Addr) (N cap0 : Nat) (w0 w : World) (hLi : Lies w0 ad0 N 1 (fun i => [.string (str (l.getD i []))])) (hN : N = l.length) (hl : ∀ v, v ∈ l → v.length ≤ 1048576) (hb : N ≤ 1048576) (hw : Below w0.heap.size w0 w) (go : Nat) (n : Int) (a4 : Option Addr) (d4 : Nat) (L : List Bk) (a5 : Option Addr) (d5 : Nat) (L2 : List Bk) (a6 : Option Addr) (d6 : Nat) (L3 : List Bk) (hO : OwnR w w0.heap.size go n a4 d4 L a5 d5 L2 a6 d6 L3) (hL : L.length ≤ 900 ∧ L2.length ≤ 900 ∧ L3.length ≤ 900) (hB : w0.heap.size ≤ go) (hn0 : 0 ≤ n) (hn1 : n ≤ 900) :
    Calls Try.prog 29 #[.slice ad0 N cap0, .pointer (some ⟨go, 0, none⟩)] w fun e w' => (e = .returned (.bool true) ∧ ∃ a5 c5 L5 a6 c6 L6 a7 c7 L7, (L5.length = L.length + 4 ∧ L6.length = L2.length + 4 ∧ L7.length = L3.length + 4) ∧ OwnR w' w0.heap.size go (n + 1) a5 c5 L5 a6 c6 L6 a7 c7 L7) ∧ Below w0.heap.size w0 w' := by
  have HO : Hid (OwnR w w0.heap.size go n a4 d4 L a5 d5 L2 a6 d6 L3) := hO
  have HN : Hid (N = l.length) := hN
  have HLE : Hid (∀ v, v ∈ l → v.length ≤ 1048576) := hl
  have HL : Hid (L.length ≤ 900 ∧ L2.length ≤ 900 ∧ L3.length ≤ 900) := hL
  have HLI : Hid (∀ X, Below w.heap.size w X → Lies X ad0 N 1 (fun i => [.string (str (l.getD i []))])) := fun X hX => hLi.below (hw.trans (hX.mono hw.size))
  have HW : Hid (Below w0.heap.size w0 w) := hw
  have hbw : w0.heap.size ≤ w.heap.size := hw.size
  have HBW : Hid (w0.heap.size ≤ w.heap.size) := hbw
  have HFW : Hid ((replayRd l).K.length ≤ 17825792 ∧ (replayRd l).C.length ≤ 17825792 ∧ (replayRd l).E.length ≤ 17825792) := replayRd_few hl
  clear hO hL hN hl hw hLi hbw
  go_enter Try.func29, Try.ntmps29
  go_wp2_with fail
  refine (handedList_any l ad0 N cap0 _ (HLI.out _ (Below.refl _ _)) HN.out (by omega)).mono ?_
  rintro e w1 ⟨g, ad, rfl, had, hg, ho, hb1⟩
  have HAD : Hid (ad = some ⟨g, 0, none⟩) := had
  have HOW : Hid (Own w1 g 9 1 (srows (l ++ roomS 2))) := ho
  have HB1 : Hid (Below w.heap.size w w1) := hb1
  have HG : Hid (w.heap.size ≤ g) := hg
  have HL2 : Hid (Lies w1 ad N 1 (fun i => [.string (str (l.getD i []))])) := srows_lies ho had (by rw [List.length_append, HN.out]; omega) (fun i hi => getD_room _ _ _ (by rw [← HN.out]; exact hi))
  clear had ho hb1 hg
  go_wp2_with fail
  refine (preplay_any l ad N (N + 2) _ HL2.out HN.out HLE.out hb).mono ?_
  rintro e w2 ⟨⟨a1, n1, c1, a2, n2, c2, a3, n3, c3, rfl, hL1⟩, hb1⟩
  have H1 : Hid (Lists w2 w.heap.size (replayRd l).K (replayRd l).C (replayRd l).E a1 n1 c1 a2 n2 c2 a3 n3 c3) := hL1.mono HB1.out.size
  have HB2 : Hid (Below w1.heap.size w1 w2) := hb1
  clear hL1 hb1
  have HF : Hid (n1 ≤ 1099511627776 ∧ n2 ≤ 1099511627776 ∧ n3 ≤ 1099511627776) := by
    have := HFW.out; have := H1.out.e1; have := H1.out.e2; have := H1.out.e3; refine ⟨?_, ?_, ?_⟩ <;> omega
  have HRR : Hid (∀ X, Below w.heap.size w X → Calls Try.prog 65 #[.slice ad0 N cap0] X fun e w' => ReplayAns (replayRd l) X.heap.size e w' ∧ Below X.heap.size X w') := fun X hX => rreplay_any l ad0 N cap0 X (HLI.out X hX) HN.out HLE.out hb
  clear HFW
  generalize replayRd l = x at *
  have hX1 := Bx.new w2 26 (repC a1 n1 c1 a2 n2 c2 a3 n3 c3).toArray
  have hA1 : Below w2.heap.size w2 (w2.alloc (.cells (repC a1 n1 c1 a2 n2 c2 a3 n3 c3).toArray 26)) := (Below.refl _ _).alloc (Nat.le_refl _) _
  have HX1 : Hid (Bx (w2.alloc (.cells (repC a1 n1 c1 a2 n2 c2 a3 n3 c3).toArray 26)) w2.heap.size 26 (repC a1 n1 c1 a2 n2 c2 a3 n3 c3)) := hX1
  have H1X : Hid (Lists (w2.alloc (.cells (repC a1 n1 c1 a2 n2 c2 a3 n3 c3).toArray 26)) w.heap.size x.K x.C x.E a1 n1 c1 a2 n2 c2 a3 n3 c3) := H1.out.keep hA1
  have HBX : Hid (Below w1.heap.size w1 (w2.alloc (.cells (repC a1 n1 c1 a2 n2 c2 a3 n3 c3).toArray 26))) := HB2.out.trans (hA1.mono HB2.out.size)
  have HBY : Hid (Below w.heap.size w (w2.alloc (.cells (repC a1 n1 c1 a2 n2 c2 a3 n3 c3).toArray 26))) := HB1.out.trans (HBX.out.mono HB1.out.size)
  clear hX1 hA1 H1 HB2
  go_wp2_with fail
  generalize w2.alloc (.cells (repC a1 n1 c1 a2 n2 c2 a3 n3 c3).toArray 26) = X at *
  generalize w2.heap.size = gr at *
  clear w2
  refine (HRR.out X HBY.out).mono ?_
  rintro e w3 ⟨⟨b1, m1, d1, b2, m2, d2, b3, m3, d3, rfl, hL2⟩, hb2⟩
  have em1 : m1 = n1 := by rw [hL2.e1, H1X.out.e1]
  have em2 : m2 = n2 := by rw [hL2.e2, H1X.out.e2]
  have em3 : m3 = n3 := by rw [hL2.e3, H1X.out.e3]
  subst em1 em2 em3
  have hA3 : Below w3.heap.size w3 (w3.alloc (.cells (repC b1 m1 d1 b2 m2 d2 b3 m3 d3).toArray 26)) := (Below.refl _ _).alloc (Nat.le_refl _) _
  have hs3 : Below X.heap.size X (w3.alloc (.cells (repC b1 m1 d1 b2 m2 d2 b3 m3 d3).toArray 26)) := hb2.trans (hA3.mono hb2.size)
  have HL3 : Hid (Lists (w3.alloc (.cells (repC b1 m1 d1 b2 m2 d2 b3 m3 d3).toArray 26)) w.heap.size x.K x.C x.E a1 m1 c1 a2 m2 c2 a3 m3 c3 ∧ Lists (w3.alloc (.cells (repC b1 m1 d1 b2 m2 d2 b3 m3 d3).toArray 26)) 0 x.K x.C x.E b1 m1 d1 b2 m2 d2 b3 m3 d3) := ⟨H1X.out.keep hs3, (hL2.mono (Nat.zero_le _)).keep hA3⟩
  have HX3 : Hid (Bx (w3.alloc (.cells (repC b1 m1 d1 b2 m2 d2 b3 m3 d3).toArray 26)) gr 26 (repC a1 m1 c1 a2 m2 c2 a3 m3 c3) ∧ Bx (w3.alloc (.cells (repC b1 m1 d1 b2 m2 d2 b3 m3 d3).toArray 26)) w3.heap.size 26 (repC b1 m1 d1 b2 m2 d2 b3 m3 d3)) := ⟨HX1.out.below hs3 HX1.out.lt, Bx.new _ _ _⟩
  have HB3 : Hid (Below w1.heap.size w1 (w3.alloc (.cells (repC b1 m1 d1 b2 m2 d2 b3 m3 d3).toArray 26))) := HBX.out.trans (hs3.mono HBX.out.size)
  clear hL2 hb2 hA3 hs3 H1X HX1 HBX HBY HRR
  go_wp2_with fail
  generalize w3.alloc (.cells (repC b1 m1 d1 b2 m2 d2 b3 m3 d3).toArray 26) = X3 at *
  generalize w3.heap.size = gq at *
  clear w3
  have HO3 : Hid (Own X3 g 9 1 (srows (l ++ roomS 2))) := ⟨HOW.out.even, by rw [HB3.out.block g (Array.getElem?_eq_some_iff.1 HOW.out.block).1]; exact HOW.out.block⟩
  refine (stillList_any l ad0 N cap0 g ad _ (HLI.out _ (HB1.out.trans (HB3.out.mono HB1.out.size))) HN.out (by omega) HAD HO3.out).mono ?_
  rintro e w4 ⟨rfl, hb4⟩
  have HL4 : Hid (Lists w4 w.heap.size x.K x.C x.E a1 m1 c1 a2 m2 c2 a3 m3 c3 ∧ Lists w4 0 x.K x.C x.E b1 m1 d1 b2 m2 d2 b3 m3 d3) := ⟨HL3.out.1.keep hb4, HL3.out.2.keep hb4⟩
  have HX4 : Hid (Bx w4 gr 26 (repC a1 m1 c1 a2 m2 c2 a3 m3 c3) ∧ Bx w4 gq 26 (repC b1 m1 d1 b2 m2 d2 b3 m3 d3)) := ⟨HX3.out.1.below hb4 HX3.out.1.lt, HX3.out.2.below hb4 HX3.out.2.lt⟩
  have HB4 : Hid (Below w1.heap.size w1 w4) := HB3.out.trans (hb4.mono HB3.out.size)
  clear hb4 HL3 HX3 HB3 HO3
  obtain ⟨⟨x0, x1, x2⟩, y0, y1, y2⟩ : (_ ∧ _ ∧ _) ∧ _ ∧ _ ∧ _ := ⟨⟨HX4.out.1.cell 0, HX4.out.1.cell 1, HX4.out.1.cell 2⟩, HX4.out.2.cell 0, HX4.out.2.cell 1, HX4.out.2.cell 2⟩
  dsimp only [List.getElem?_cons_zero, List.getElem?_cons_succ] at x0 x1 x2 y0 y1 y2
  have HHA : Hid (Has w4 (repOf x.K x.C x.E) a1 a2 a3 ∧ repV (repOf x.K x.C x.E) a1 a2 a3 c1 c2 c3 = .agg #[.slice a1 m1 c1, .slice a2 m2 c2, .slice a3 m3 c3]) := HL4.out.1.has HF.out.1 HF.out.2.1 HF.out.2.2
  have HHB : Hid (Has w4 (repOf x.K x.C x.E) b1 b2 b3 ∧ repV (repOf x.K x.C x.E) b1 b2 b3 d1 d2 d3 = .agg #[.slice b1 m1 d1, .slice b2 m2 d2, .slice b3 m3 d3]) := HL4.out.2.has HF.out.1 HF.out.2.1 HF.out.2.2
  go_wp2_with fail
  have hsr := sameReplica_any (repOf x.K x.C x.E) a1 a2 a3 b1 b2 b3 c1 c2 c3 d1 d2 d3 _ HHA.out.1 HHB.out.1
  rw [HHA.out.2, HHB.out.2] at hsr
  refine hsr.mono ?_
  rintro e w5 ⟨rfl, hb5⟩
  clear hsr x0 x1 x2 y0 y1 y2 HHA HHB
  have HL5 : Hid (Lists w5 w.heap.size x.K x.C x.E a1 m1 c1 a2 m2 c2 a3 m3 c3) := HL4.out.1.keep hb5
  have HX5 : Hid (Bx w5 gr 26 (repC a1 m1 c1 a2 m2 c2 a3 m3 c3)) := HX4.out.1.below hb5 HX4.out.1.lt
  have HB5 : Hid (Below w.heap.size w w5) := (HB1.out.trans (HB4.out.mono HB1.out.size)).trans (hb5.mono (HB1.out.trans (HB4.out.mono HB1.out.size)).size)
  clear hb5 HL4 HX4 HB4
  have x0 := HX5.out.cell 0
  have x1 := HX5.out.cell 1
  have x2 := HX5.out.cell 2
  dsimp only [List.getElem?_cons_zero, List.getElem?_cons_succ] at x0 x1 x2
  go_wp2_with fail
  refine (replica_any _ w0.heap.size w.heap.size go n a1 m1 c1 _ a2 m2 c2 _ a3 m3 c3 _ a4 d4 L a5 d5 L2 a6 d6 L3 (HO.out.keep HB5.out) ⟨HO.out.b1.old, HO.out.b2.old, HO.out.b3.old⟩ HL5.out.v1 HL5.out.v2 HL5.out.v3 HF.out.1 HF.out.2.1 HF.out.2.2 (by have := HL.out; omega) (by have := HL.out; omega) (by have := HL.out; omega) hB HBW.out hn0 (by omega) (Nat.le_trans HBW.out HB5.out.size) HB5.out.size).mono ?_
  rintro e w6 ⟨⟨v, rfl⟩, ⟨q1, k1, M1, q2, k2, M2, q3, k3, M3, hM, hO4⟩, hb6, hlk⟩
  clear x0 x1 x2
  have H6 : Hid (OwnR w6 w0.heap.size go (n + 1) q1 k1 M1 q2 k2 M2 q3 k3 M3 ∧ Below w0.heap.size w0 w6) := ⟨hO4, (HW.out.trans (HB5.out.mono HBW.out)).trans hb6⟩
  have HM : Hid (M1.length = L.length + 4 ∧ M2.length = L2.length + 4 ∧ M3.length = L3.length + 4) := hM
  clear hM hO4 hb6 hlk
  go_wp2_with fail
  refine (kept_any _ w0.heap.size go (n + 1) _ _ _ none 0 [] H6.out.1.o (Books.nil _ _ _ _ _) (by simp) (fun w' hw' => rkept_any w' w0.heap.size go (n + 1) q1 k1 M1 q2 k2 M2 q3 k3 M3 (H6.out.1.keep hw') (by have := HL.out; have := HM.out; omega) (by have := HL.out; have := HM.out; omega) (by have := HL.out; have := HM.out; omega))).mono ?_
  rintro e w7 ⟨rfl, hb7⟩
  have H7 : Hid (Below w6.heap.size w6 w7) := hb7
  clear hb7
  go_wp2_with fail
  go_ret
  exact ⟨⟨by simp, q1, k1, M1, q2, k2, M2, q3, k3, M3, HM.out, H6.out.1.keep H7.out⟩, H6.out.2.trans (H7.out.mono H6.out.2.size)⟩

set_option maxRecDepth 100000 in
set_option maxHeartbeats 4000000 in
theorem replays_any (l : List (List UInt8)) (ad0 : Option Addr) (N cap0 : Nat) (w : World) (hL : Lies w ad0 N 1 (fun i => [.string (str (l.getD i []))])) (hN : N = l.length) (hl : ∀ v, v ∈ l → v.length ≤ 1048576) (hb : N ≤ 1048576) :
    Calls Try.prog 11 #[.slice ad0 N cap0] w fun e w' => e = .returned (.bool true) ∧ Below w.heap.size w w' := by
  obtain ⟨hO, hW, hB⟩ := one_box w 41 #[.int .i64 0, .slice none 0 0, .slice none 0 0, .slice none 0 0, .slice none 0 0, .slice none 0 0]
  have H0 : Hid (OwnR (w.alloc (.cells #[.int .i64 0, .slice none 0 0, .slice none 0 0, .slice none 0 0, .slice none 0 0, .slice none 0 0] 41)) w.heap.size w.heap.size 0 none 0 [] none 0 [] none 0 []) := ⟨hO, Books.nil _ _ _ _ _, Books.nil _ _ _ _ _, Books.nil _ _ _ _ _⟩
  have HLI : Hid (Lies w ad0 N 1 (fun i => [.string (str (l.getD i []))])) := hL
  have HN : Hid (N = l.length) := hN
  have HLE : Hid (∀ v, v ∈ l → v.length ≤ 1048576) := hl
  clear hO hL hN hl
  go_enter Try.func11, Try.ntmps11
  go_wp2_with fail
  refine (replayed_any l ad0 N cap0 w _ HLI.out HN.out HLE.out hb hB w.heap.size 0 none 0 [] none 0 [] none 0 [] H0.out ⟨by simp, by simp, by simp⟩ (Nat.le_refl _) (by omega) (by omega)).mono ?_
  rintro e w1 ⟨⟨rfl, a5, c5, L5, a6, c6, L6, a7, c7, L7, hL, hO5⟩, hb1⟩
  have hL6 : L5.length ≤ 900 ∧ L6.length ≤ 900 ∧ L7.length ≤ 900 := by simp at hL; omega
  have HO5 : Hid (OwnR w1 w.heap.size w.heap.size (0 + 1) a5 c5 L5 a6 c6 L6 a7 c7 L7) := hO5
  have HB1 : Hid (Below w.heap.size w w1) := hb1
  clear hL hO5 hb1
  go_wp2_with fail
  refine (replayed_any l ad0 N cap0 w _ HLI.out HN.out HLE.out hb HB1.out w.heap.size (0 + 1) a5 c5 L5 a6 c6 L6 a7 c7 L7 HO5.out hL6 (Nat.le_refl _) (by omega) (by omega)).mono ?_
  rintro e w2 ⟨⟨rfl, -⟩, hb3⟩
  go_wp2_with fail
  go_ret
  exact ⟨rfl, hb3⟩
end Go.Proofs.Ytdjpkgaicmklmaa

/- A replica that comes in, opened: its reading as data gives its rows. -/
namespace Go.Proofs.Ytdjpkgaicmklmaa
open Go.ChangeShapes Go.WideShapes Go.ChangeAt Go.RowKit Go.Joins Go.Deep

section
variable {H : Type} {enc : TypeId × Value → H} {w : World} {base : Nat} {spare : Nat → Bool} {held : Bool}

theorem Try.cellsInt : Try.prog.cellsOf 3 = 1 := by kernel_rfl
theorem Try.cellsBool : Try.prog.cellsOf 4 = 1 := by kernel_rfl
theorem Try.cellsString : Try.prog.cellsOf 9 = 1 := by kernel_rfl
theorem Try.cellsClock : Try.prog.cellsOf 67 = 2 := by kernel_rfl
theorem Try.cellsCard : Try.prog.cellsOf 69 = 5 := by kernel_rfl
theorem Try.cellsEdit : Try.prog.cellsOf 71 = 2 := by kernel_rfl

theorem list2 {α : Type} {l : List α} (h : l.length = 2) : ∃ a b, l = [a, b] := by
  match l, h with
  | [a, b], _ => exact ⟨a, b, rfl⟩
theorem list5 {α : Type} {l : List α} (h : l.length = 5) : ∃ a b c d e, l = [a, b, c, d, e] := by
  match l, h with
  | [a, b, c, d, e], _ => exact ⟨a, b, c, d, e, rfl⟩

theorem read_clock {n : Nat} {cs : List Value} {x : DataW H × List MemPlace} (h : DataW.trod enc Try.prog w base spare held n 67 cs = some x) : ∃ c : Ck, cs = c.cells := by
  obtain ⟨xs, k, _, _, hl, hlen, hf⟩ := DataW.trod_struct Try.underlying67 h
  rw [Try.cellsClock] at hl
  obtain ⟨c0, c1, rfl⟩ := list2 hl
  obtain ⟨y0, y1, rfl⟩ := list2 (show xs.length = 2 from hlen)
  have g0 := hf 0 _ rfl
  have g1 := hf 1 _ rfl
  simp [Try.cellsInt] at g0 g1
  obtain ⟨n0, e0, _⟩ := DataW.trod_int Try.underlying3 g0
  obtain ⟨n1, e1, _⟩ := DataW.trod_int Try.underlying3 g1
  simp at e0 e1
  subst e0 e1
  exact ⟨⟨n0, n1⟩, rfl⟩

theorem read_edit {n : Nat} {cs : List Value} {x : DataW H × List MemPlace} (h : DataW.trod enc Try.prog w base spare held n 71 cs = some x) : ∃ c : Ed, cs = c.cells := by
  obtain ⟨xs, k, _, _, hl, hlen, hf⟩ := DataW.trod_struct Try.underlying71 h
  rw [Try.cellsEdit] at hl
  obtain ⟨c0, c1, rfl⟩ := list2 hl
  obtain ⟨y0, y1, rfl⟩ := list2 (show xs.length = 2 from hlen)
  have g0 := hf 0 _ rfl
  have g1 := hf 1 _ rfl
  simp [Try.cellsInt, Try.cellsString] at g0 g1
  obtain ⟨n0, e0, _⟩ := DataW.trod_int Try.underlying3 g0
  obtain ⟨n1, e1, _⟩ := DataW.trod_string Try.underlying9 g1
  simp at e0 e1
  subst e0 e1
  exact ⟨⟨n0, n1⟩, rfl⟩

theorem read_card {n : Nat} {cs : List Value} {x : DataW H × List MemPlace} (h : DataW.trod enc Try.prog w base spare held n 69 cs = some x) : ∃ c : Cd, cs = c.cells := by
  obtain ⟨xs, k, _, _, hl, hlen, hf⟩ := DataW.trod_struct Try.underlying69 h
  rw [Try.cellsCard] at hl
  obtain ⟨c0, c1, c2, c3, c4, rfl⟩ := list5 hl
  obtain ⟨y0, y1, y2, y3, y4, rfl⟩ := list5 (show xs.length = 5 from hlen)
  have g0 := hf 0 _ rfl
  have g1 := hf 1 _ rfl
  have g2 := hf 2 _ rfl
  have g3 := hf 3 _ rfl
  have g4 := hf 4 _ rfl
  simp [Try.cellsInt, Try.cellsString, Try.cellsBool] at g0 g1 g2 g3 g4
  obtain ⟨n0, e0, _⟩ := DataW.trod_int Try.underlying3 g0
  obtain ⟨n1, e1, _⟩ := DataW.trod_int Try.underlying3 g1
  obtain ⟨n2, e2, _⟩ := DataW.trod_int Try.underlying3 g2
  obtain ⟨n3, e3, _⟩ := DataW.trod_bool Try.underlying4 g3
  obtain ⟨n4, e4, _⟩ := DataW.trod_string Try.underlying9 g4
  simp at e0 e1 e2 e3 e4
  subst e0 e1 e2 e3 e4
  exact ⟨⟨n0, n1, n2, n3, n4⟩, rfl⟩

theorem addr_plus (b off j : Nat) : (⟨b, off, none⟩ : Addr).add j = ⟨b, off + j, none⟩ := by
  unfold Addr.add
  by_cases h : j = 0 <;> simp [h]

/-- A slice of records that comes in. -/
theorem read_rows {α : Type} [Inhabited α] (cells : α → List Value) (m : Nat) {t e : TypeId} {fuel : Nat} {v : Value} {x : DataW H × List MemPlace} (ht : Try.prog.underlying t = some (.slice e)) (hc : Try.prog.cellsOf e = m) (h0 : 0 < m)
    (hr : ∀ (n : Nat) (cs : List Value) (y : DataW H × List MemPlace), DataW.trod enc Try.prog w 0 (fun _ => true) held n e cs = some y → ∃ c : α, cs = cells c)
    (h : DataW.trod enc Try.prog w 0 (fun _ => true) held fuel t [v] = some x) :
    ∃ (a : Option Addr) (n k : Nat) (f : Nat → α), v = .slice a n k ∧ Lies w a n m (fun i => cells (f i)) ∧ n ≤ k ∧ ((x.1 = .nil ∧ n = 0) ∨ ∃ el sp : List (DataW H), x.1 = .slice el sp ∧ el.length + sp.length = k) := by
  rcases open_slice ht h with ⟨hcs, hx⟩ | ⟨a, len, cap, mm, n, D, Pl, hcs, _, hl, hm, hmm, hx, hel⟩
  · simp at hcs
    exact ⟨none, 0, 0, fun _ => default, hcs, Or.inl rfl, Nat.le_refl _, Or.inl ⟨by rw [hx], rfl⟩⟩
  · simp at hcs
    simp at hmm
    subst hmm
    rw [hc] at hel
    have hall : ∀ i, i < mm → ∃ c : α, w.cells? 0 (a.add (i * m)) m = some (cells c) := fun i hi => by
      obtain ⟨cs', h1, h2⟩ := hel i hi
      obtain ⟨c, rfl⟩ := hr _ _ _ h2
      exact ⟨c, h1⟩
    obtain ⟨f, hf⟩ := choose_lt (α := α) (p := fun i c => w.cells? 0 (a.add (i * m)) m = some (cells c)) hall
    refine ⟨some a, len, mm, f, hcs, ?_, hl, Or.inr ⟨_, _, by rw [hx], by simp; omega⟩⟩
    by_cases hz : len = 0
    · exact Or.inl hz
    · obtain ⟨b, off, spot⟩ := a
      obtain ⟨_, hlen0, hc0⟩ := World.cells?_some (hf 0 (by omega))
      have hcell : w.cell? ((Addr.add ⟨b, off, spot⟩ (0 * m)).add 0) = (cells (f 0))[0]? := hc0 0 h0
      rw [List.getElem?_eq_getElem (by omega)] at hcell
      have hspot : spot = none := by simpa [Addr.add] using World.cell?_spot hcell
      subst hspot
      have hblk : b < w.heap.size := by
        simp only [Nat.zero_mul, addr_plus, Nat.add_zero] at hcell
        unfold World.cell? at hcell
        rcases Nat.lt_or_ge b w.heap.size with h | h
        · exact h
        · simp [Array.getElem?_eq_none h] at hcell
      refine Or.inr ⟨b, off, rfl, hblk, fun i hi j v hj hv => ?_⟩
      obtain ⟨_, _, hci⟩ := World.cells?_some (hf i (by omega))
      have := hci j hj
      rw [addr_plus, addr_plus] at this
      rw [this, hv]

theorem Try.bytesClock : Try.prog.bytesOf 67 = 16 := by kernel_rfl
theorem Try.bytesCard : Try.prog.bytesOf 69 = 48 := by kernel_rfl
theorem Try.bytesEdit : Try.prog.bytesOf 71 = 24 := by kernel_rfl

/-- The bytes of a slice that came in. -/
theorem weigh {t e : TypeId} {d : DataW H} {n k b : Nat} (ht : Try.prog.underlying t = some (.slice e)) (hb : Try.prog.bytesOf e = b) (hn : n ≤ k)
    (hx : (d = .nil ∧ n = 0) ∨ ∃ el sp : List (DataW H), d = .slice el sp ∧ el.length + sp.length = k) (hw : ∀ q, q ∈ d.weights Try.prog t → q ≤ reachBytes) : n * b ≤ reachBytes := by
  rcases hx with ⟨_, rfl⟩ | ⟨el, sp, rfl, rfl⟩
  · simp
  · have := hw ((el.length + sp.length) * Try.prog.bytesOf e) (by simp [DataW.weights, ht])
    rw [hb] at this
    exact Nat.le_trans (Nat.mul_le_mul_right _ hn) this

set_option maxRecDepth 100000 in
/-- A replica that comes in. -/
theorem open_rep {r : Reach} {b0 : Nat} {v : Value} {d : DataW H} {p : List MemPlace} (hv : Value.okWide Try.prog w r b0 26 v)
    (h : DataW.Trod enc Try.prog w 0 (fun _ => true) held 26 v d p) (hw : ∀ q, q ∈ d.weights Try.prog 26 → q ≤ reachBytes) :
    ∃ (R : Rep) (a1 a2 a3 : Option Addr) (k1 k2 k3 : Nat), v = repV R a1 a2 a3 k1 k2 k3 ∧ Has w R a1 a2 a3 := by
  obtain ⟨v0, v1, v2, y0, y1, y2, n, rfl, rfl, _, h0, h1, h2⟩ := open_agg3 Try.underlying26 (by kernel_rfl) (by kernel_rfl) hv h
  have : Inhabited Ck := ⟨⟨0, 0⟩⟩
  have : Inhabited Cd := ⟨⟨0, 0, 0, false, ⟨#[]⟩⟩⟩
  have : Inhabited Ed := ⟨⟨0, ⟨#[]⟩⟩⟩
  obtain ⟨a1, n1, k1, c, rfl, l1, m1, x1⟩ := read_rows Ck.cells 2 Try.underlying22 Try.cellsClock (by omega) (fun _ _ _ hh => read_clock hh) h0
  obtain ⟨a2, n2, k2, dd, rfl, l2, m2, x2⟩ := read_rows Cd.cells 5 Try.underlying23 Try.cellsCard (by omega) (fun _ _ _ hh => read_card hh) h1
  obtain ⟨a3, n3, k3, e, rfl, l3, m3, x3⟩ := read_rows Ed.cells 2 Try.underlying24 Try.cellsEdit (by omega) (fun _ _ _ hh => read_edit hh) h2
  have hw' : ∀ q, q ∈ DataW.weightsEach Try.prog [22, 23, 24] [y0.1, y1.1, y2.1] → q ≤ reachBytes := fun q hq => hw q (by
    simp only [DataW.weights, Try.underlying26]; exact hq)
  simp only [DataW.weightsEach, List.mem_append] at hw'
  have z1 := weigh Try.underlying22 Try.bytesClock m1 x1 (fun q hq => hw' q (Or.inl hq))
  have z2 := weigh Try.underlying23 Try.bytesCard m2 x2 (fun q hq => hw' q (Or.inr (Or.inl hq)))
  have z3 := weigh Try.underlying24 Try.bytesEdit m3 x3 (fun q hq => hw' q (Or.inr (Or.inr (Or.inl hq))))
  unfold reachBytes at z1 z2 z3
  exact ⟨⟨n1, n2, n3, c, dd, e⟩, a1, a2, a3, k1, k2, k3, rfl, l1, l2, l3, by show n1 ≤ _; omega, by show n2 ≤ _; omega, by show n3 ≤ _; omega, by show 16 * n1 ≤ _; omega, by show 48 * n2 ≤ _; omega, by show 24 * n3 ≤ _; omega⟩
end
end Go.Proofs.Ytdjpkgaicmklmaa

/- A list of strings that comes in, opened. -/
namespace Go.Proofs.Ytdjpkgaicmklmaa
open Go.WideShapes Go.ChangeAt Go.RowKit Go.Joins Go.Deep
open Go.ChangeShapes (open_strings)

section
variable {H : Type} {enc : TypeId × Value → H} {w : World} {base : Nat} {held : Bool}

theorem texts_lies {w : World} {ad : Addr} {n : Nat} {ss : List ByteArray} (hn : n ≤ ss.length) (hc : ∀ i, i < ss.length → w.cell? (ad.add i) = some (.string (ss.getD i ByteArray.empty))) :
    Lies w (some ad) n 1 (fun i => [.string (str ((((ss.take n).map fun s => s.data.toList)).getD i []))]) := by
  by_cases hz : n = 0
  · exact Or.inl hz
  · obtain ⟨b, off, spot⟩ := ad
    have hcell := hc 0 (by omega)
    have hspot : spot = none := by simpa [Addr.add] using World.cell?_spot hcell
    subst hspot
    have hblk : b < w.heap.size := by
      simp only [addr_plus, Nat.add_zero] at hcell
      unfold World.cell? at hcell
      rcases Nat.lt_or_ge b w.heap.size with h | h
      · exact h
      · simp [Array.getElem?_eq_none h] at hcell
    refine Or.inr ⟨b, off, rfl, hblk, fun i hi j v hj hv => ?_⟩
    obtain rfl : j = 0 := by omega
    have := hc i (by omega)
    rw [addr_plus] at this
    rw [show off + i * 1 + 0 = off + i by omega, this]
    have e : ((ss.take n).map fun s => s.data.toList).getD i [] = (ss.getD i ByteArray.empty).data.toList := by
      rw [List.getD_eq_getElem?_getD, List.getElem?_map, List.getElem?_take_of_lt hi, List.getD_eq_getElem?_getD]
      rw [List.getElem?_eq_getElem (by omega)]; rfl
    simp only [e, str_data] at hv
    simpa using hv

set_option maxRecDepth 100000 in
/-- A list of strings. -/
theorem open_texts {r : Reach} {b0 : Nat} {v : Value} {d : DataW H} {p : List MemPlace} (hok : Value.okWide Try.prog w r b0 46 v) (h : DataW.Trod enc Try.prog w 0 (fun _ => true) held 46 v d p) :
    ∃ (a : Option Addr) (n k : Nat) (l : List (List UInt8)), v = .slice a n k ∧ n = l.length ∧ Lies w a n 1 (fun i => [.string (str (l.getD i []))]) ∧ n ≤ k ∧ ((d = .nil ∧ l = []) ∨ ∃ sp : List (DataW H), d = .slice (l.map fun s => .lit (.string s)) sp ∧ l.length + sp.length = k) := by
  obtain ⟨x, y, z, rfl⟩ := okWide_slice Try.underlying46 hok
  obtain ⟨fuel, hh⟩ := h
  rcases open_strings Try.underlying46 Try.underlying9 Try.cellsString hh with ⟨hcs, hx⟩ | ⟨a, len, cap, ss, hcs, _, hl, hm, hz, hx, hcell, hws⟩
  · simp [Value.cells] at hcs
    obtain ⟨rfl, rfl, rfl⟩ := hcs
    exact ⟨none, 0, 0, [], rfl, rfl, Or.inl rfl, Nat.le_refl _, Or.inl ⟨by simpa using congrArg Prod.fst hx, rfl⟩⟩
  · simp [Value.cells] at hcs
    obtain ⟨rfl, rfl, rfl⟩ := hcs
    simp at hz
    refine ⟨some a, y, z, (ss.take y).map (fun s => s.data.toList), rfl, by simp; omega, texts_lies (by omega) hcell, hl, Or.inr ⟨Go.ChangeShapes.strs (ss.drop y), ?_, ?_⟩⟩
    · have := congrArg Prod.fst hx
      simp only at this
      rw [this, List.map_map]
      rfl
    · simp [Go.ChangeShapes.strs]; omega
end

theorem bulk_texts {H : Type} : ∀ l : List (List UInt8), l.length ≤ Rows.uptoBulkAll (H := H) (l.map fun s => .lit (.string s)) ∧ ∀ s ∈ l, s.length ≤ Rows.uptoBulkAll (H := H) (l.map fun s => .lit (.string s))
  | [] => ⟨by simp, by intro s h; cases h⟩
  | a :: l => by
    obtain ⟨h1, h2⟩ := bulk_texts (H := H) l
    simp only [List.map_cons, Rows.uptoBulkAll, Rows.uptoBulk, List.length_cons]
    refine ⟨by omega, fun s hs => ?_⟩
    rcases List.mem_cons.1 hs with rfl | hs
    · omega
    · have := h2 s hs; omega
/-- What the bound gives of a list of strings. -/
theorem bulk_list {H : Type} {d : DataW H} {l : List (List UInt8)} {k : Nat} (h : (d = .nil ∧ l = []) ∨ ∃ sp : List (DataW H), d = .slice (l.map fun s => .lit (.string s)) sp ∧ l.length + sp.length = k) (hb : Rows.uptoBulk d ≤ 1048576) : l.length ≤ 1048576 ∧ ∀ s ∈ l, s.length ≤ 1048576 := by
  rcases h with ⟨_, rfl⟩ | ⟨sp, rfl, _⟩
  · exact ⟨by simp, by intro s h; cases h⟩
  · obtain ⟨h1, h2⟩ := bulk_texts (H := H) l
    simp only [Rows.uptoBulk] at hb
    exact ⟨by omega, fun s hs => by have := h2 s hs; omega⟩
end Go.Proofs.Ytdjpkgaicmklmaa

