/- Texts of the proof, one behind the other; what each holds is said at its head. -/
import Derived.Test.YtdjpkgaicmklmabPartJoined4
import Derived.Deep.RegionLaw
import Derived.Test.YtdjpkgaicmklmabPartJoined3
import Derived.Test.YtdjpkgaicmklmabPartJoined1
import Derived.Test.YtdjpkgaicmklmabPartJoined0
import Derived.Deep.QuietTactic
import Derived.BigQuiet
import Derived.Deep.RegionHeld3
/- own.kept, walked: each book's list reads its mark. -/
namespace Go.Proofs.Ytdjpkgaicmklmab
open Go.RowKit

end Go.Proofs.Ytdjpkgaicmklmab

/- The owner writes over what came out: (*parcellaw.own).ofCards, walked. -/
namespace Go.Proofs.Ytdjpkgaicmklmab
open Go.RowKit

end Go.Proofs.Ytdjpkgaicmklmab

/- The owner writes over what came out: (*parcellaw.own).ofEdits, walked. -/
namespace Go.Proofs.Ytdjpkgaicmklmab
open Go.RowKit

end Go.Proofs.Ytdjpkgaicmklmab

/- The owner writes over what came out: (*parcellaw.own).replica, walked. -/
namespace Go.Proofs.Ytdjpkgaicmklmab
open Go.RowKit

theorem Books.old {Sh : List Value → Prop} {w : World} {B e eb m : Nat} {ad : Option Addr} {cap : Nat} {L : List Bk} (h : Books Sh w B e eb m ad cap L) : ∀ x, x ∈ L → ∀ b, x.ad = some b → b.block < w.heap.size := by
  intro x hx b hb
  obtain ⟨_, cur, hc⟩ := (h.each x hx).vec.typed b.block (by rw [hb]; rfl)
  exact (Array.getElem?_eq_some_iff.1 hc).1

theorem bx_six {Sh : List Value → Prop} {w0 w X w6 : World} {B B1 go gm tT e eb m f gr tr : Nat} {oc mk row cs : List Value} {ad : Option Addr} {N cap : Nat} {a4 : Option Addr} {c4 : Nat} {L : List Bk} (hk : Kp (a4.map (·.block)) row X w6) (h : St Sh w0 w B B1 go gm tT e eb m f oc mk ad N cap a4 c4 L) (hG : Bx w gr tr cs) (hb : Below w.heap.size w X) (h1 : eb ≠ tr) : Bx w6 gr tr cs :=
  (hG.below hb hG.lt).kp hk ((hG.below hb hG.lt).apart (h.b.keep hb) h1)
theorem Bx.but3 {w w' : World} {k t go e eb : Nat} {cs : List Value} (b : Bx w k t cs) (hb : But3 go e eb w w') (hk : k ≠ go) (h1 : t ≠ e) (h2 : t ≠ eb) : Bx w' k t cs := ⟨hb.block k _ t hk b.h h1 h2⟩

end Go.Proofs.Ytdjpkgaicmklmab

/- own.replicasKept, walked: each book's list reads its mark. -/
namespace Go.Proofs.Ytdjpkgaicmklmab
open Go.RowKit

end Go.Proofs.Ytdjpkgaicmklmab

/- Reads: called with any bytes, up to very many, it answers true. -/
namespace Go.Proofs.Ytdjpkgaicmklmab
open Go.RowKit

set_option maxRecDepth 100000 in
set_option maxHeartbeats 4000000 in
theorem pread_any (b : List UInt8) (w : World) (hb : b.length ≤ 1099511627776) :
    Calls Try.prog 17 #[.string (str b)] w fun e w' => ReadAns (readRd b) w.heap.size e w' ∧ Below w.heap.size w w' := by
  obtain ⟨hR, hW, hB⟩ := one_box w 45 (lnkC 0 0 none 0 0 none 0 0 none 0 0).toArray
  go_enter Try.func17, Try.ntmps17
  go_wp2_with fail
  refine (bread_any b _ hb).mono ?_
  rintro e w1 ⟨⟨a1, n1, c1, a2, n2, c2, a3, n3, c3, rfl, hL⟩, hb1⟩
  replace hL := hL.mono (Nat.le_of_eq hW.symm : w.heap.size + 1 ≤ _)
  replace hR := hR.below hb1 hR.lt
  replace hB := hB.trans (hb1.mono (Nat.le_trans (Nat.le_succ _) (Nat.le_of_eq hW.symm)))
  clear hb1 hW
  generalize hx : readRd b = x at *
  have HX : Hid (readRd b = x) := hx
  clear hx
  go_wp2_with (refine wpList_bstore (by rfl) _ _ _ (by rfl) w.heap.size 45 (by rfl) _ _ (by rfl) hR 5 (by rfl) (by kernel_rfl) (by rfl) (by intro x hx; simp at hx; rcases hx with rfl | rfl | rfl | rfl | rfl <;> rfl) ?_; intro w9 hR9 hU9; replace hR := hR9; replace hB := hU9.below hB (Nat.le_refl _); replace hL := hL.upd hU9 (by omega); clear hR9 hU9)
  exact bodyPost_ret (v := .tuple #[.agg (lnkC x.seq x.base a1 n1 c1 a2 n2 c2 a3 n3 c3).toArray, .int .i64 x.err, .int .i64 x.place]) (results_box3 (by rfl) _ _ w.heap.size 45 _ _ _ _ (by rfl) hR (by rfl) (by rfl) Try.underlying45 (by rfl) 5 (by rfl) (by kernel_rfl)) rfl ⟨by rw [HX.out]; exact ⟨a1, n1, c1, a2, n2, c2, a3, n3, c3, rfl, hL.mono (Nat.le_succ _)⟩, hB⟩

theorem Lists.has {w : World} {B : Nat} {K : List Ck} {C : List Cd} {E : List Ed} {a1 : Option Addr} {n1 c1 : Nat} {a2 : Option Addr} {n2 c2 : Nat} {a3 : Option Addr} {n3 c3 : Nat} (h : Lists w B K C E a1 n1 c1 a2 n2 c2 a3 n3 c3) (h1 : n1 ≤ 1099511627776) (h2 : n2 ≤ 1099511627776) (h3 : n3 ≤ 1099511627776) :
    Has w (repOf K C E) a1 a2 a3 ∧ repV (repOf K C E) a1 a2 a3 c1 c2 c3 = .agg #[.slice a1 n1 c1, .slice a2 n2 c2, .slice a3 n3 c3] := by
  obtain ⟨v1, v2, v3, rfl, rfl, rfl⟩ := h
  refine ⟨⟨kvec_lies v1 rfl, cvec_lies v2 rfl, evec_lies v3 rfl, ?_, ?_, ?_, ?_, ?_, ?_⟩, rfl⟩ <;> simp only [repOf] <;> omega
theorem readRd_few (b : List UInt8) : (readRd b).K.length ≤ b.length ∧ (readRd b).C.length ≤ b.length ∧ (readRd b).E.length ≤ b.length := by
  have hl : ∀ l : List Fd, l.length ≤ b.length → (ansOk l).K.length ≤ b.length ∧ (ansOk l).C.length ≤ b.length ∧ (ansOk l).E.length ≤ b.length := fun l h => ⟨Nat.le_trans (ckOf_le l) h, Nat.le_trans (cdOf_le l) h, Nat.le_trans (edOf_le l) h⟩
  have he : ∀ e p, (ansErr e p).K.length ≤ b.length ∧ (ansErr e p).C.length ≤ b.length ∧ (ansErr e p).E.length ≤ b.length := fun e p => ⟨by simp [ansErr], by simp [ansErr], by simp [ansErr]⟩
  unfold readRd
  split
  · exact he _ _
  · split
    · split
      · exact he _ _
      · split
        · exact he _ _
        · refine hl _ ?_
          have := frF_length (b.take (b.length - 4)).length 4 ((b.take (b.length - 4)).drop 4)
          unfold framed
          refine Nat.le_trans this ?_
          simp
    · exact he _ _

end Go.Proofs.Ytdjpkgaicmklmab

/- Restores: called with any bytes, up to very many, it answers true. -/
namespace Go.Proofs.Ytdjpkgaicmklmab
open Go.RowKit

/-- What Restore answers, out of what Read does. -/
def restOf (x : Ans) : Ans := if x.err = 0 then (if x.seq = 0 then (if (repOf x.K x.C x.E).chk = 0 then ⟨0, 0, 0, 0, x.K, x.C, x.E⟩ else ansErr (repOf x.K x.C x.E).chk 0) else ansErr 11 0) else ansErr x.err x.place
def restRd (b : List UInt8) : Ans := restOf (readRd b)
def RestAns (x : Ans) (B : Nat) (e : Ending) (w' : World) : Prop := ∃ a1 n1 c1 a2 n2 c2 a3 n3 c3, e = .returned (.tuple #[.agg #[.slice a1 n1 c1, .slice a2 n2 c2, .slice a3 n3 c3], .int .i64 x.err, .int .i64 x.place]) ∧ Lists w' B x.K x.C x.E a1 n1 c1 a2 n2 c2 a3 n3 c3
theorem restRd_few (b : List UInt8) : (restRd b).K.length ≤ b.length ∧ (restRd b).C.length ≤ b.length ∧ (restRd b).E.length ≤ b.length := by
  have he : ∀ e p, (ansErr e p).K.length ≤ b.length ∧ (ansErr e p).C.length ≤ b.length ∧ (ansErr e p).E.length ≤ b.length := fun e p => ⟨by simp [ansErr], by simp [ansErr], by simp [ansErr]⟩
  unfold restRd restOf
  split
  · split
    · split
      · exact readRd_few b
      · exact he _ _
    · exact he _ _
  · exact he _ _

set_option maxRecDepth 100000 in
set_option maxHeartbeats 4000000 in
theorem prestore_any (b : List UInt8) (w : World) (hb : b.length ≤ 1099511627776) :
    Calls Try.prog 15 #[.string (str b)] w fun e w' => RestAns (restRd b) w.heap.size e w' ∧ Below w.heap.size w w' := by
  obtain ⟨hR, hW, hB⟩ := one_box w 28 ([.slice none 0 0, .slice none 0 0, .slice none 0 0] : List Value).toArray
  have hfew := readRd_few b
  go_enter Try.func15, Try.ntmps15
  go_wp2_with fail
  refine (bread_any b _ hb).mono ?_
  rintro e w1 ⟨⟨a1, n1, c1, a2, n2, c2, a3, n3, c3, rfl, hL⟩, hb1⟩
  replace hL := hL.mono (Nat.le_of_eq hW.symm : w.heap.size + 1 ≤ _)
  replace hR := hR.below hb1 hR.lt
  replace hB := hB.trans (hb1.mono (Nat.le_trans (Nat.le_succ _) (Nat.le_of_eq hW.symm)))
  clear hb1 hW
  have f1 : n1 ≤ 1099511627776 := by rw [hL.e1]; omega
  have f2 : n2 ≤ 1099511627776 := by rw [hL.e2]; omega
  have f3 : n3 ≤ 1099511627776 := by rw [hL.e3]; omega
  have hx : restRd b = restOf (readRd b) := rfl
  have HX : Hid (restRd b = restOf (readRd b)) := hx
  clear hx hfew
  generalize readRd b = x at *
  by_cases he : x.err = 0
  · have heb : (x.err != 0) = false := by rw [he]; rfl
    by_cases hq : x.seq = 0
    · have hqb : (x.seq != 0) = false := by rw [hq]; rfl
      have hal : Below w1.heap.size w1 (w1.alloc (.cells (lnkC x.seq x.base a1 n1 c1 a2 n2 c2 a3 n3 c3).toArray 45)) := (Below.refl _ _).alloc (Nat.le_refl _) _
      have HHA : Hid (Has (w1.alloc (.cells (lnkC x.seq x.base a1 n1 c1 a2 n2 c2 a3 n3 c3).toArray 45)) (repOf x.K x.C x.E) a1 a2 a3 ∧ repV (repOf x.K x.C x.E) a1 a2 a3 c1 c2 c3 = .agg #[.slice a1 n1 c1, .slice a2 n2 c2, .slice a3 n3 c3]) := (hL.keep hal).has f1 f2 f3
      have hLb := Bx.new w1 45 (lnkC x.seq x.base a1 n1 c1 a2 n2 c2 a3 n3 c3).toArray
      have HE : Hid (x.err = 0 ∧ x.seq = 0) := ⟨he, hq⟩
      clear he hq
      go_wp2_with fail
      have hck := check_any (repOf x.K x.C x.E) a1 a2 a3 c1 c2 c3 _ HHA.out.1
      rw [HHA.out.2] at hck
      refine hck.mono ?_
      rintro e w2 ⟨rfl, hb2⟩
      clear hck
      replace hLb := hLb.below hb2 hLb.lt
      replace hL := (hL.keep hal).keep hb2
      replace hR := (hR.alloc _).below hb2 (by have := hR.lt; simp; omega)
      replace hB := (hB.alloc hB.size _).trans (hb2.mono (by have := hB.size; simp; omega))
      clear hb2 hal
      by_cases hc : (repOf x.K x.C x.E).chk = 0
      · have hcb : ((repOf x.K x.C x.E).chk != 0) = false := by rw [hc]; rfl
        have HN : Hid (restRd b = ⟨0, 0, 0, 0, x.K, x.C, x.E⟩) := by show _ = _; rw [HX.out]; simp only [restOf]; rw [if_pos HE.out.1, if_pos HE.out.2, if_pos hc]
        have x2 := hLb.cell 2
        have x3 := hLb.cell 3
        have x4 := hLb.cell 4
        dsimp only [List.getElem?_cons_zero, List.getElem?_cons_succ] at x2 x3 x4
        clear hc hLb
        go_wp2_with (refine wpList_bstore (by rfl) _ _ _ (by rfl) w.heap.size 28 (by rfl) _ _ (by rfl) hR 3 (by rfl) (by kernel_rfl) (by rfl) (by intro x hx; simp at hx; rcases hx with rfl | rfl | rfl <;> rfl) ?_; intro w9 hR9 hU9; replace hR := hR9; replace hB := hU9.below hB (Nat.le_refl _); replace hL := hL.upd hU9 (by omega); clear hR9 hU9)
        exact bodyPost_ret (v := .tuple #[.agg #[.slice a1 n1 c1, .slice a2 n2 c2, .slice a3 n3 c3], .int .i64 0, .int .i64 0]) (results_box3 (by rfl) _ _ w.heap.size 28 _ _ _ _ (by rfl) hR (by rfl) (by rfl) Try.underlying28 (by rfl) 3 (by rfl) (by kernel_rfl)) rfl ⟨by rw [HN.out]; exact ⟨a1, n1, c1, a2, n2, c2, a3, n3, c3, rfl, hL.mono (Nat.le_succ _)⟩, hB⟩
      · have hcb : ((repOf x.K x.C x.E).chk != 0) = true := by rw [bne_iff_ne]; exact hc
        have HN : Hid (restRd b = ansErr (repOf x.K x.C x.E).chk 0) := by show _ = _; rw [HX.out]; simp only [restOf]; rw [if_pos HE.out.1, if_pos HE.out.2, if_neg hc]
        clear hc hLb
        generalize (repOf x.K x.C x.E).chk = ck at *
        go_wp2_with (refine wpList_bstore (by rfl) _ _ _ (by rfl) w.heap.size 28 (by rfl) _ _ (by rfl) hR 3 (by rfl) (by kernel_rfl) (by rfl) (by intro x hx; simp at hx; rcases hx with rfl | rfl | rfl <;> rfl) ?_; intro w9 hR9 hU9; replace hR := hR9; replace hB := hU9.below hB (Nat.le_refl _); clear hR9 hU9)
        exact bodyPost_ret (v := .tuple #[.agg ([.slice none 0 0, .slice none 0 0, .slice none 0 0] : List Value).toArray, .int .i64 ck, .int .i64 0]) (results_box3 (by rfl) _ _ w.heap.size 28 _ _ _ _ (by rfl) hR (by rfl) (by rfl) Try.underlying28 (by rfl) 3 (by rfl) (by kernel_rfl)) rfl ⟨by rw [HN.out]; exact ⟨none, 0, 0, none, 0, 0, none, 0, 0, rfl, Lists.nil _ _⟩, hB⟩
    · have hqb : (x.seq != 0) = true := by rw [bne_iff_ne]; exact hq
      have HN : Hid (restRd b = ansErr 11 0) := by show _ = _; rw [HX.out]; simp only [restOf]; rw [if_pos he, if_neg hq]
      clear hq he
      go_wp2_with (refine wpList_bstore (by rfl) _ _ _ (by rfl) w.heap.size 28 (by rfl) _ _ (by rfl) (hR.alloc _) 3 (by rfl) (by kernel_rfl) (by rfl) (by intro x hx; simp at hx; rcases hx with rfl | rfl | rfl <;> rfl) ?_; intro w9 hR9 hU9; replace hR := hR9; replace hB := hU9.below (hB.alloc hB.size _) (Nat.le_refl _); clear hR9 hU9)
      exact bodyPost_ret (v := .tuple #[.agg ([.slice none 0 0, .slice none 0 0, .slice none 0 0] : List Value).toArray, .int .i64 11, .int .i64 0]) (results_box3 (by rfl) _ _ w.heap.size 28 _ _ _ _ (by rfl) hR (by rfl) (by rfl) Try.underlying28 (by rfl) 3 (by rfl) (by kernel_rfl)) rfl ⟨by rw [HN.out]; exact ⟨none, 0, 0, none, 0, 0, none, 0, 0, rfl, Lists.nil _ _⟩, hB⟩
  · have heb : (x.err != 0) = true := by rw [bne_iff_ne]; exact he
    have HN : Hid (restRd b = ansErr x.err x.place) := by show _ = _; rw [HX.out]; simp only [restOf]; rw [if_neg he]
    clear he
    go_wp2_with (refine wpList_bstore (by rfl) _ _ _ (by rfl) w.heap.size 28 (by rfl) _ _ (by rfl) (hR.alloc _) 3 (by rfl) (by kernel_rfl) (by rfl) (by intro x hx; simp at hx; rcases hx with rfl | rfl | rfl <;> rfl) ?_; intro w9 hR9 hU9; replace hR := hR9; replace hB := hU9.below (hB.alloc hB.size _) (Nat.le_refl _); clear hR9 hU9)
    exact bodyPost_ret (v := .tuple #[.agg ([.slice none 0 0, .slice none 0 0, .slice none 0 0] : List Value).toArray, .int .i64 x.err, .int .i64 x.place]) (results_box3 (by rfl) _ _ w.heap.size 28 _ _ _ _ (by rfl) hR (by rfl) (by rfl) Try.underlying28 (by rfl) 3 (by rfl) (by kernel_rfl)) rfl ⟨by rw [HN.out]; exact ⟨none, 0, 0, none, 0, 0, none, 0, 0, rfl, Lists.nil _ _⟩, hB⟩

abbrev repC (a1 : Option Addr) (n1 c1 : Nat) (a2 : Option Addr) (n2 c2 : Nat) (a3 : Option Addr) (n3 c3 : Nat) : List Value := [.slice a1 n1 c1, .slice a2 n2 c2, .slice a3 n3 c3]

end Go.Proofs.Ytdjpkgaicmklmab

/- Restore of Export is that replica: without the program. -/
namespace Go.Proofs.Ytdjpkgaicmklmab
open Go.RowKit

theorem clockTo_congr {c d : Nat → Ck} {site : Int} : ∀ {n : Nat}, (∀ i, i < n → c i = d i) → clockTo c site n = clockTo d site n
  | 0, _ => rfl
  | n + 1, h => by simp only [clockTo]; rw [clockTo_congr (fun i hi => h i (by omega)), h n (by omega)]
/-- The same replicas are alike to Check. -/
theorem Same.chk {R T : Rep} (h : Same R T) : R.chk = T.chk := by
  have e1 : R.manyB = T.manyB := by unfold Rep.manyB; rw [h.n1, h.n2, h.n3]
  have e2 : R.numB = T.numB := by
    unfold Rep.numB
    rw [anyTo_congr (q := T.num1) (fun i hi => by unfold Rep.num1; rw [h.c i hi]), anyTo_congr (p := R.num2) (q := T.num2) (fun i hi => by unfold Rep.num2; rw [h.d i hi]), anyTo_congr (p := R.num3) (q := T.num3) (fun i hi => by unfold Rep.num3; rw [h.e i hi]), h.n1, h.n2, h.n3]
  have e3 : R.txtB = T.txtB := by
    unfold Rep.txtB
    rw [anyTo_congr (q := T.txt2) (fun i hi => by unfold Rep.txt2; rw [h.d i hi]), anyTo_congr (p := R.txt3) (q := T.txt3) (fun i hi => by unfold Rep.txt3; rw [h.e i hi]), h.n2, h.n3]
  have e4 : R.risB = T.risB := by
    unfold Rep.risB
    rw [anyTo_congr (q := T.ris1) (fun i hi => by unfold Rep.ris1; rw [h.c i (by omega), h.c (i + 1) (by omega)]), anyTo_congr (p := R.ris2) (q := T.ris2) (fun i hi => by unfold Rep.ris2; rw [h.d i (by omega), h.d (i + 1) (by omega)]), h.n1, h.n2]
  have e5 : R.uncB = T.uncB := by
    unfold Rep.uncB
    rw [anyTo_congr (q := T.unc) (fun i hi => by unfold Rep.unc Rep.clk; rw [clockTo_congr h.c, h.d i hi, h.n1]), h.n2]
  have e6 : R.clashB = T.clashB := by
    unfold Rep.clashB
    rw [anyTo_congr (q := T.clash) (fun i hi => by unfold Rep.clash; rw [anyTo_congr (q := fun k => stampB (T.d i) (T.d k)) (fun k hk => by rw [h.d i hi, h.d k (by omega)])]), h.n2]
  unfold Rep.chk
  rw [e1, e2, e3, e4, e5, e6]
theorem same_lists (R : Rep) : Same (repOf ((List.range R.n1).map R.c) ((List.range R.n2).map R.d) ((List.range R.n3).map R.e)) R := by
  refine ⟨by simp [repOf], by simp [repOf], by simp [repOf], fun i hi => ?_, fun i hi => ?_, fun i hi => ?_⟩
  · have : i < R.n1 := by simpa [repOf] using hi
    simp [repOf, List.getD, this]
  · have : i < R.n2 := by simpa [repOf] using hi
    simp [repOf, List.getD, this]
  · have : i < R.n3 := by simpa [repOf] using hi
    simp [repOf, List.getD, this]
/-- Restore of a sound replica's bundle is that replica. -/
theorem restRd_bundle {R : Rep} (h : R.chk = 0) : restRd (bundleB (recsOf 0 0 R)) = ⟨0, 0, 0, 0, (List.range R.n1).map R.c, (List.range R.n2).map R.d, (List.range R.n3).map R.e⟩ := by
  unfold restRd
  rw [readRd_bundle (Rep.fit h) (Rep.rising h) ⟨by decide, by decide⟩ (by decide) (by decide) (fun _ => rfl)]
  simp only [restOf]
  rw [if_pos trivial, if_pos trivial, if_pos (by rw [(same_lists R).chk, h])]
end Go.Proofs.Ytdjpkgaicmklmab

/- Bits of bytes turned over: without the program. -/
namespace Go.Proofs.Ytdjpkgaicmklmab
open Go.RowKit

theorem allBits_get : ∀ (l : List UInt8) (i : Nat), (allBits l)[i]? = (l[i / 8]?).map fun x => x.toNat.testBit (7 - i % 8)
  | [], i => by simp [allBits]
  | x :: l, i => by
    rw [show allBits (x :: l) = bitsOf x ++ allBits l from by rw [show x :: l = [x] ++ l from rfl, allBits_append, allBits_one]]
    by_cases h : i < 8
    · rw [List.getElem?_append_left (by simpa [bitsOf] using h), show i / 8 = 0 by omega]
      have : i = 0 ∨ i = 1 ∨ i = 2 ∨ i = 3 ∨ i = 4 ∨ i = 5 ∨ i = 6 ∨ i = 7 := by omega
      rcases this with rfl | rfl | rfl | rfl | rfl | rfl | rfl | rfl <;> rfl
    · rw [List.getElem?_append_right (by simp [bitsOf]; omega), show i - (bitsOf x).length = i - 8 by simp [bitsOf], allBits_get l (i - 8)]
      rw [show i / 8 = (i - 8) / 8 + 1 by omega, List.getElem?_cons_succ, show (i - 8) % 8 = i % 8 by omega]
theorem bits_byte {x y : UInt8} (h : bitsOf x = bitsOf y) : x = y := by
  simp only [bitsOf, List.cons.injEq, and_true] at h
  obtain ⟨h7, h6, h5, h4, h3, h2, h1, h0⟩ := h
  apply UInt8.toNat_inj.mp
  apply Nat.eq_of_testBit_eq
  intro i
  by_cases hi : i < 8
  · have : i = 0 ∨ i = 1 ∨ i = 2 ∨ i = 3 ∨ i = 4 ∨ i = 5 ∨ i = 6 ∨ i = 7 := by omega
    rcases this with rfl | rfl | rfl | rfl | rfl | rfl | rfl | rfl <;> assumption
  · have hx := x.toNat_lt
    have hy := y.toNat_lt
    have hp : 2 ^ 8 ≤ 2 ^ i := Nat.pow_le_pow_right (by omega) (by omega)
    rw [Nat.testBit_lt_two_pow (by omega), Nat.testBit_lt_two_pow (by omega)]
theorem allBits_inj : ∀ {s t : List UInt8}, allBits s = allBits t → s = t
  | [], [], _ => rfl
  | [], _ :: _, h => by have := congrArg List.length h; rw [allBits_length, allBits_length] at this; simp at this
  | _ :: _, [], h => by have := congrArg List.length h; rw [allBits_length, allBits_length] at this; simp at this
  | x :: s, y :: t, h => by
    rw [show x :: s = [x] ++ s from rfl, show y :: t = [y] ++ t from rfl, allBits_append, allBits_append, allBits_one, allBits_one] at h
    have := List.append_inj h (by simp [bitsOf])
    rw [bits_byte this.1, allBits_inj this.2]

/-- A bit turned over. -/
def flipB (x : UInt8) (r : Nat) : UInt8 := x ^^^ UInt8.ofNat (2 ^ (7 - r))
def flipAt (l : List UInt8) (i : Nat) : List UInt8 := l.set (i / 8) (flipB (l.getD (i / 8) 0) (i % 8))
/-- The first k of the bits that are asked for, from bit a on. -/
def turnB (bit : Nat → Bool) (a : Nat) (s : List UInt8) : Nat → List UInt8
  | 0 => s
  | k + 1 => if bit k = true ∧ (a + k) / 8 < s.length then flipAt (turnB bit a s k) (a + k) else turnB bit a s k
theorem turn_len (bit : Nat → Bool) (a : Nat) (s : List UInt8) : ∀ k, (turnB bit a s k).length = s.length
  | 0 => rfl
  | k + 1 => by
    simp only [turnB]; split
    · simp [flipAt, turn_len bit a s k]
    · exact turn_len bit a s k

theorem flip_bit (x : UInt8) (r q : Nat) (hr : r < 8) (hq : q < 8) : (flipB x r).toNat.testBit (7 - q) = (x.toNat.testBit (7 - q) != decide (q = r)) := by
  unfold flipB
  rw [UInt8.toNat_xor, Nat.testBit_xor]
  have e : (UInt8.ofNat (2 ^ (7 - r))).toNat = 2 ^ (7 - r) := by
    rw [UInt8.toNat_ofNat']
    apply Nat.mod_eq_of_lt
    calc 2 ^ (7 - r) ≤ 2 ^ 7 := Nat.pow_le_pow_right (by omega) (by omega)
      _ < 2 ^ 8 := by decide
  rw [e, Nat.testBit_two_pow]
  congr 1
  exact decide_eq_decide.mpr (by omega)
/-- Turning over one bit leaves the others. -/
theorem flip_bits (l : List UInt8) (i j : Nat) (hi : i / 8 < l.length) : (allBits (flipAt l i))[j]? = ((allBits l)[j]?).map fun x => x != decide (j = i) := by
  rw [allBits_get, allBits_get]
  unfold flipAt
  by_cases hj : j / 8 = i / 8
  · rw [hj, List.getElem?_set_self hi, List.getElem?_eq_getElem hi]
    simp only [Option.map_some, List.getD_eq_getElem?_getD, List.getElem?_eq_getElem hi, Option.getD_some]
    rw [flip_bit _ _ _ (by omega) (by omega)]
    congr 2
    exact decide_eq_decide.mpr (by omega)
  · rw [List.getElem?_set_ne (by omega)]
    have : j ≠ i := fun e => hj (by rw [e])
    simp only [Option.map_map]
    congr 1
    funext x
    simp [this]
theorem turn_bits (bit : Nat → Bool) (a : Nat) (s : List UInt8) (j : Nat) : ∀ k, (allBits (turnB bit a s k))[j]? = ((allBits s)[j]?).map fun x => x != (decide (a ≤ j ∧ j < a + k) && bit (j - a))
  | 0 => by
    have : decide (a ≤ j ∧ j < a + 0) = false := decide_eq_false (by omega)
    rw [this]; simp [turnB]
  | k + 1 => by
    simp only [turnB]
    by_cases hb : bit k = true ∧ (a + k) / 8 < s.length
    · rw [if_pos hb, flip_bits _ _ _ (by rw [turn_len]; exact hb.2), turn_bits bit a s j k, Option.map_map]
      congr 1
      funext x
      simp only [Function.comp_apply]
      by_cases hj : j = a + k
      · rw [hj, show a + k - a = k by omega, hb.1]; simp
      · rw [decide_eq_false hj, show decide (a ≤ j ∧ j < a + (k + 1)) = decide (a ≤ j ∧ j < a + k) from decide_eq_decide.mpr (by omega)]; simp
    · rw [if_neg hb, turn_bits bit a s j k]
      by_cases hj : j = a + k
      · by_cases hb1 : bit k = true
        · have : s.length ≤ (a + k) / 8 := by
            rcases Nat.lt_or_ge ((a + k) / 8) s.length with h | h
            · exact absurd ⟨hb1, h⟩ hb
            · exact h
          rw [List.getElem?_eq_none (by rw [allBits_length]; omega)]; rfl
        · congr 1; funext x
          rw [hj, show a + k - a = k by omega, eq_false_of_ne_true hb1]; simp
      · rw [show decide (a ≤ j ∧ j < a + (k + 1)) = decide (a ≤ j ∧ j < a + k) from decide_eq_decide.mpr (by omega)]
/-- All of it that is turned lies within k bits. -/
theorem turn_parts (bit : Nat → Bool) (a : Nat) (s : List UInt8) (k : Nat) :
    ∃ x e e' c, allBits s = x ++ e ++ c ∧ allBits (turnB bit a s k) = x ++ e' ++ c ∧ e.length = e'.length ∧ e.length ≤ k := by
  have split3 : ∀ l : List Bool, l = l.take a ++ (l.drop a).take k ++ l.drop (a + k) := by
    intro l; rw [List.append_assoc, ← List.drop_drop, List.take_append_drop, List.take_append_drop]
  have hlen : (allBits (turnB bit a s k)).length = (allBits s).length := by rw [allBits_length, allBits_length, turn_len]
  refine ⟨(allBits s).take a, ((allBits s).drop a).take k, ((allBits (turnB bit a s k)).drop a).take k, (allBits s).drop (a + k), split3 _, ?_, by simp [hlen], by simp; omega⟩
  conv => lhs; rw [split3 (allBits (turnB bit a s k))]
  congr 1
  · congr 1
    apply List.ext_getElem?; intro j
    by_cases hj : j < a
    · rw [List.getElem?_take_of_lt hj, List.getElem?_take_of_lt hj, turn_bits, show decide (a ≤ j ∧ j < a + k) = false from decide_eq_false (by omega)]; simp
    · rw [List.getElem?_eq_none (by simp; omega), List.getElem?_eq_none (by simp; omega)]
  · apply List.ext_getElem?; intro j
    rw [List.getElem?_drop, List.getElem?_drop, turn_bits, show decide (a ≤ a + k + j ∧ a + k + j < a + k) = false from decide_eq_false (by omega)]; simp
/-- One bit that is turned over within the bytes: they are others. -/
theorem turn_one (bit : Nat → Bool) (a : Nat) (s : List UInt8) (k i : Nat) (hi : i < k) (hb : bit i = true) (ha : a + i < 8 * s.length) : turnB bit a s k ≠ s := by
  intro h
  have e := turn_bits bit a s (a + i) k
  rw [h, List.getElem?_eq_getElem (by rw [allBits_length]; exact ha), show decide (a ≤ a + i ∧ a + i < a + k) = true from decide_eq_true (by omega), show a + i - a = i by omega, hb] at e
  simp at e

/-- The sum of bytes in which bits within 32 are turned is another. -/
theorem crc_turned {p : Nat} (hp : p < 4294967296) (ho : p % 2 = 1) (bit : Nat → Bool) (a : Nat) (s : List UInt8) (h : turnB bit a s 32 ≠ s) : crc p (turnB bit a s 32) ≠ crc p s := by
  obtain ⟨x, e, e', c, h1, h2, h3, h4⟩ := turn_parts bit a s 32
  intro hc
  have := crc_turn hp ho _ _ x e e' c h1 h2 h3 h4 hc.symm
  rw [this] at h1
  exact h (allBits_inj (h2.trans h1.symm))
/-- What ends in its own sum, with such bits turned, does not. -/
theorem seal_turned {p : Nat} (hp : p < 4294967296) (ho : p % 2 = 1) (bit : Nat → Bool) (a : Nat) (s t : List UInt8) (h : turnB bit a (s ++ fourI (crc p s)) 32 = t ++ fourI (crc p t)) : turnB bit a (s ++ fourI (crc p s)) 32 = s ++ fourI (crc p s) := by
  obtain ⟨x, e, e', c, h1, h2, h3, h4⟩ := turn_parts bit a (s ++ fourI (crc p s)) 32
  have := torn hp ho s t x e e' c h1 (by rw [← h]; exact h2) h3 h4
  rw [this] at h1
  exact allBits_inj (h2.trans h1.symm)
theorem vol_turned {i n : Nat} {s : Nat} {p : List UInt8} (bit : Nat → Bool) (a : Nat) (h : turnB bit a (volB i n s p) 32 ≠ volB i n s p) : volOk (turnB bit a (volB i n s p) 32) = false := by
  obtain ⟨x, e, e', c, h1, h2, h3, h4⟩ := turn_parts bit a (volB i n s p) 32
  refine vol_torn x e e' c h1 h2 h3 h4 ?_
  intro he
  rw [he] at h1
  exact h (allBits_inj (h2.trans h1.symm))
end Go.Proofs.Ytdjpkgaicmklmab

/- A bundle with turned bits is refused; how long a sound replica's bundle is: without the program. -/
namespace Go.Proofs.Ytdjpkgaicmklmab
open Go.RowKit

theorem sum_le (f : Nat → Nat) (c : Nat) : ∀ (l : List Nat), (∀ x ∈ l, f x ≤ c) → (l.map f).sum ≤ l.length * c
  | [], _ => by simp
  | x :: l, h => by
    have := sum_le f c l (fun y hy => h y (by simp [hy]))
    have := h x (by simp)
    simp only [List.map_cons, List.sum_cons, List.length_cons, Nat.add_mul, Nat.one_mul]; omega
theorem Rep.many {R : Rep} (h : R.chk = 0) : R.n1 ≤ 8 ∧ R.n2 ≤ 40 ∧ R.n3 ≤ 16 := by
  have g1 : R.manyB = false := by
    cases hh : R.manyB
    · rfl
    · simp [Rep.chk, hh] at h
  unfold Rep.manyB at g1; simp at g1; omega
/-- A sound replica's bundle can be split. -/
theorem bundle_small {R : Rep} (h : R.chk = 0) : (bundleB (recsOf 0 0 R)).length ≤ 6000 := by
  obtain ⟨m1, m2, m3⟩ := Rep.many h
  have hF := Rep.fit h
  have h1 : ((List.range R.n1).map (fun i => lenF (fdClock (R.c i)))).sum ≤ R.n1 * 28 := by
    have := sum_le (fun i => lenF (fdClock (R.c i))) 28 (List.range R.n1) (fun i _ => by
      have := bytesI_le 9 (R.c i).site; have := bytesI_le 9 (R.c i).count
      show lenF _ ≤ _; rw [lenF_clock]; omega)
    simpa using this
  have h2 : ((List.range R.n2).map (fun i => lenF (fdCard (R.d i)))).sum ≤ R.n2 * 99 := by
    have := sum_le (fun i => lenF (fdCard (R.d i))) 99 (List.range R.n2) (fun i hi => by
      have := bytesI_le 9 (R.d i).site; have := bytesI_le 9 (R.d i).count; have := bytesI_le 9 (R.d i).id; have := (hF.d1 i (List.mem_range.mp hi)).2.2.2
      show lenF _ ≤ _; rw [lenF_card]; omega)
    simpa using this
  have h3 : ((List.range R.n3).map (fun i => lenF (fdEdit (R.e i)))).sum ≤ R.n3 * 78 := by
    have := sum_le (fun i => lenF (fdEdit (R.e i))) 78 (List.range R.n3) (fun i hi => by
      have := bytesI_le 9 (R.e i).id; have := (hF.e1 i (List.mem_range.mp hi)).2
      show lenF _ ≤ _; rw [lenF_edit]; omega)
    simpa using this
  have h0 := lenF_head
  rw [bundleB_length]
  have e : lenL (recsOf 0 0 R) = lenF (fdHead 0 0) + ((List.range R.n1).map (fun i => lenF (fdClock (R.c i)))).sum + ((List.range R.n2).map (fun i => lenF (fdCard (R.d i)))).sum + ((List.range R.n3).map (fun i => lenF (fdEdit (R.e i)))).sum := by
    simp only [lenL, recsOf, recs3, recs2, recs1, List.map_append, List.map_cons, List.map_map, List.sum_append, List.sum_cons, Function.comp_def]
  rw [e]; omega

theorem readRd_sealed {b : List UInt8} (h : (readRd b).err = 0) : b = b.take (b.length - 4) ++ fourI (crc pSeal (b.take (b.length - 4))) := by
  unfold readRd at h
  split at h
  · simp [ansErr] at h
  · split at h
    · rename_i hs
      simp only [sealedB, Bool.and_eq_true, decide_eq_true_eq, beq_iff_eq] at hs
      rw [← hs.2, List.take_append_drop]
    · simp [ansErr] at h
theorem restRd_read {b : List UInt8} (h : (restRd b).err = 0) : (readRd b).err = 0 := by
  unfold restRd restOf at h
  split at h
  · assumption
  · exact h
theorem pSeal_lt : pSeal < 4294967296 := by decide
theorem pSeal_odd : pSeal % 2 = 1 := by decide
/-- A bundle with bits turned over within 32 consecutive ones is refused. -/
theorem read_turned (bit : Nat → Bool) (a : Nat) (l : List Fd) (h : turnB bit a (bundleB l) 32 ≠ bundleB l) : (readRd (turnB bit a (bundleB l) 32)).err ≠ 0 ∧ (restRd (turnB bit a (bundleB l) 32)).err ≠ 0 := by
  have k : (readRd (turnB bit a (bundleB l) 32)).err ≠ 0 := fun h0 => h (seal_turned pSeal_lt pSeal_odd bit a (bodyB l) _ (readRd_sealed h0))
  exact ⟨k, fun h0 => k (restRd_read h0)⟩
end Go.Proofs.Ytdjpkgaicmklmab

/- What Read lets by rises; Replay, Extend and chains: without the program. -/
namespace Go.Proofs.Ytdjpkgaicmklmab
open Go.RowKit

theorem ord_asc : ∀ (l : List Fd) (p : Fd), ordF p l = none → Asc Ck.site (ckOf l) ∧ Asc Cd.id (cdOf l) ∧ (p.kind = 1 → ∀ x ∈ ckOf l, p.site < x.site) ∧
    (p.kind = 2 → ckOf l = [] ∧ ∀ x ∈ cdOf l, p.id < x.id) ∧ (p.kind = 3 → ckOf l = [] ∧ cdOf l = [])
  | [], p, _ => by simp [ckOf, cdOf, Asc]
  | f :: l, p, h => by
    simp only [ordF] at h
    split at h
    · rename_i hf
      obtain ⟨a, b, h1, h2, h3⟩ := ord_asc l f h
      by_cases k1 : f.kind = 1
      · have e1 : ckOf (f :: l) = ⟨f.site, f.count⟩ :: ckOf l := by simp [ckOf, k1]
        have e2 : cdOf (f :: l) = cdOf l := by simp [cdOf, k1]
        have h1 := h1 k1
        simp only [fitB, if_pos k1, Bool.or_eq_true, Bool.and_eq_true, beq_iff_eq, decide_eq_true_eq] at hf
        rw [e1, e2]
        refine ⟨List.pairwise_cons.mpr ⟨fun x hx => h1 x hx, a⟩, b, fun hp x hx => ?_, fun hp => by omega, fun hp => by omega⟩
        rcases List.mem_cons.mp hx with rfl | hx
        · simp only; omega
        · have := h1 x hx; omega
      · by_cases k2 : f.kind = 2
        · have e1 : ckOf (f :: l) = ckOf l := by simp [ckOf, k2]
          have e2 : cdOf (f :: l) = ⟨f.id, f.site, f.count, f.gone, f.text⟩ :: cdOf l := by simp [cdOf, k2]
          obtain ⟨z, h2⟩ := h2 k2
          simp only [fitB, if_neg k1, if_pos k2, Bool.or_eq_true, Bool.and_eq_true, beq_iff_eq, decide_eq_true_eq] at hf
          rw [e1, e2]
          refine ⟨a, List.pairwise_cons.mpr ⟨fun x hx => h2 x hx, b⟩, fun hp x hx => by rw [z] at hx; simp at hx, fun hp => ⟨z, fun x hx => ?_⟩, fun hp => by omega⟩
          rcases List.mem_cons.mp hx with rfl | hx
          · simp only; omega
          · have := h2 x hx; omega
        · by_cases k3 : f.kind = 3
          · have e1 : ckOf (f :: l) = ckOf l := by simp [ckOf, k3]
            have e2 : cdOf (f :: l) = cdOf l := by simp [cdOf, k3]
            obtain ⟨z1, z2⟩ := h3 k3
            rw [e1, e2, z1, z2]; simp [Asc]
          · simp [fitB, k1, k2, k3] at hf
    · cases h
theorem read_asc (b : List UInt8) : Asc Ck.site (readRd b).K ∧ Asc Cd.id (readRd b).C := by
  have he : ∀ e p, Asc Ck.site (ansErr e p).K ∧ Asc Cd.id (ansErr e p).C := fun e p => by simp [ansErr, Asc]
  unfold readRd
  split
  · exact he _ _
  · split
    · split
      · exact he _ _
      · split
        · exact he _ _
        · rename_i hn
          generalize (framed (b.take (b.length - 4))).1 = l at *
          cases l with
          | nil => simp [ordRd] at hn
          | cons f l =>
            simp only [ordRd] at hn
            split at hn
            · rename_i k4
              have h := ord_asc l f hn
              have e1 : ckOf (f :: l) = ckOf l := by simp [ckOf, k4]
              have e2 : cdOf (f :: l) = cdOf l := by simp [cdOf, k4]
              simp only [ansOk]; rw [e1, e2]; exact ⟨h.1, h.2.1⟩
            · cases hn
    · exact he _ _

/-- Lists of a replica. -/
structure Tri where
  K : List Ck
  C : List Cd
  E : List Ed
def Ans.st (x : Ans) : Tri := ⟨x.K, x.C, x.E⟩
def Tri.rep (x : Tri) : Rep := repOf x.K x.C x.E
def layS (a b : Tri) : Tri := ⟨layK Ck.site (fun _ c => c) a.K b.K, layK Cd.id (fun _ c => c) a.C b.C, b.E⟩
def sealR (b : List UInt8) : Int := fourRd (b.drop (b.length - 4))
def seqIx (l : List (List UInt8)) (n : Int) : Nat := l.findIdx (fun b => (readRd b).seq == n)
def linkR (l : List (List UInt8)) (n : Int) : List UInt8 := l.getD (seqIx l n) []
def chainSt (l : List (List UInt8)) : Nat → Tri
  | 0 => (readRd (linkR l 0)).st
  | n + 1 => layS (chainSt l n) (readRd (linkR l ((n + 1 : Nat) : Int))).st
def bad4 (l : List (List UInt8)) (i : Nat) : Bool := (readRd (l.getD i [])).err != 0
def bad5 (l : List (List UInt8)) (i : Nat) : Bool := (l.take i).any fun b => (readRd b).seq == (readRd (l.getD i [])).seq
def bad6 (l : List (List UInt8)) (n : Nat) : Bool := !(l.any fun b => (readRd b).seq == (n : Int))
def bad7 (l : List (List UInt8)) (i : Nat) : Bool := decide (0 < (readRd (l.getD i [])).seq) && sealR (linkR l ((readRd (l.getD i [])).seq - 1)) != (readRd (l.getD i [])).base
def replayRd (l : List (List UInt8)) : Ans :=
  if 16 < l.length then ansErr 1 0 else
  match firstOf (bad4 l) l.length with
  | some i => ansErr (readRd (l.getD i [])).err i
  | none => match firstOf (bad5 l) l.length with
    | some i => ansErr 15 i
    | none => if l.length = 0 ∨ (firstOf (bad6 l) l.length).isSome = true then ansErr 16 0 else
      match firstOf (bad7 l) l.length with
      | some i => ansErr 17 i
      | none => if (chainSt l (l.length - 1)).rep.chk = 0 then ⟨0, 0, 0, 0, (chainSt l (l.length - 1)).K, (chainSt l (l.length - 1)).C, (chainSt l (l.length - 1)).E⟩ else ansErr (chainSt l (l.length - 1)).rep.chk 0

/-- Bundles of a chain, in their order. -/
structure Links (bs : List (List UInt8)) : Prop where
  pos : 0 < bs.length
  few : bs.length ≤ 16
  err : ∀ i, i < bs.length → (readRd (bs.getD i [])).err = 0
  seq : ∀ i, i < bs.length → (readRd (bs.getD i [])).seq = (i : Int)
  base : ∀ i, i + 1 < bs.length → (readRd (bs.getD (i + 1) [])).base = sealR (bs.getD i [])
theorem links_mem {bs : List (List UInt8)} {b : List UInt8} (h : b ∈ bs) : ∃ i, i < bs.length ∧ b = bs.getD i [] := by
  obtain ⟨i, hi, rfl⟩ := List.mem_iff_getElem.mp h
  exact ⟨i, hi, by simp [hi]⟩
theorem Links.link {bs l : List (List UInt8)} (h : Links bs) (hp : l.Perm bs) (n : Nat) (hn : n < bs.length) : linkR l (n : Int) = bs.getD n [] := by
  have hm : bs.getD n [] ∈ l := hp.mem_iff.mpr (volAt_mem hn)
  have ha : seqIx l (n : Int) < l.length := by
    unfold seqIx; rw [List.findIdx_lt_length]; exact ⟨_, hm, by simp only [beq_iff_eq]; exact h.seq n hn⟩
  have hq : (readRd (linkR l (n : Int))).seq = (n : Int) := by
    have := List.findIdx_getElem (w := ha) (p := fun b => (readRd b).seq == (n : Int))
    unfold linkR
    rw [List.getD_eq_getElem?_getD, List.getElem?_eq_getElem ha]
    have e2 := of_decide_eq_true (p := (readRd (l[l.findIdx (fun b => (readRd b).seq == (n : Int))]'ha)).seq = (n : Int)) (by simpa using this)
    exact e2
  have hin : linkR l (n : Int) ∈ l := volAt_mem ha
  obtain ⟨i, hi, e⟩ := links_mem (hp.mem_iff.mp hin)
  have := h.seq i hi
  rw [e, this] at hq
  rw [e, show i = n by omega]
theorem Links.chain {bs l : List (List UInt8)} (h : Links bs) (hp : l.Perm bs) : ∀ n, n < bs.length → chainSt l n = chainSt bs n
  | 0, hn => by
    have h1 := h.link hp 0 hn
    have h2 := h.link (List.Perm.refl bs) 0 hn
    simp only [chainSt]
    rw [show ((0 : Nat) : Int) = 0 from rfl] at h1 h2
    rw [h1, h2]
  | n + 1, hn => by simp only [chainSt]; rw [h.chain hp n (by omega), h.link hp (n + 1) hn, h.link (List.Perm.refl bs) (n + 1) hn]
theorem links_seqs {bs : List (List UInt8)} (h : Links bs) : bs.map (fun b => (readRd b).seq) = (List.range bs.length).map (fun (i : Nat) => (i : Int)) := by
  apply List.ext_getElem?; intro i
  by_cases hi : i < bs.length
  · have := h.seq i hi
    rw [List.getD_eq_getElem?_getD, List.getElem?_eq_getElem hi] at this
    simp [hi]; exact this
  · simp [Nat.le_of_not_lt hi]
/-- A chain, in any order, is replayed to what its states make one over the other. -/
theorem replay_links {bs l : List (List UInt8)} (h : Links bs) (hp : l.Perm bs) (hc : (chainSt bs (bs.length - 1)).rep.chk = 0) :
    replayRd l = ⟨0, 0, 0, 0, (chainSt bs (bs.length - 1)).K, (chainSt bs (bs.length - 1)).C, (chainSt bs (bs.length - 1)).E⟩ := by
  have hl := hp.length_eq
  have pos := h.pos
  have few := h.few
  have hof : ∀ i, i < l.length → ∃ j, j < bs.length ∧ l.getD i [] = bs.getD j [] := fun i hi => links_mem (hp.mem_iff.mp (volAt_mem hi))
  have n4 : ∀ i, i < l.length → bad4 l i = false := by
    intro i hi
    obtain ⟨j, hj, e⟩ := hof i hi
    simp only [bad4]; rw [e, h.err j hj]; rfl
  have hnd : (l.map (fun b => (readRd b).seq)).Nodup := by
    refine (hp.map _).nodup_iff.mpr ?_
    rw [links_seqs h, List.nodup_iff_pairwise_ne, List.pairwise_map]
    refine List.Pairwise.imp ?_ (List.nodup_iff_pairwise_ne.mp (List.nodup_range (n := bs.length)))
    intro a b hab e; omega
  have n5 : ∀ i, i < l.length → bad5 l i = false := by
    intro i hi
    rw [List.nodup_iff_pairwise_ne, List.pairwise_iff_getElem] at hnd
    simp only [bad5, List.any_eq_false, beq_iff_eq]
    intro v hv he
    rw [List.mem_take_iff_getElem] at hv
    obtain ⟨j, hj, rfl⟩ := hv
    refine hnd j i (by simp; omega) (by simpa using hi) (by omega) ?_
    simp only [List.getElem_map]
    rw [he, List.getD_eq_getElem?_getD, List.getElem?_eq_getElem hi]; rfl
  have n6 : ∀ n, n < l.length → bad6 l n = false := by
    intro n hn
    simp only [bad6, Bool.not_eq_false', List.any_eq_true, beq_iff_eq]
    exact ⟨bs.getD n [], hp.mem_iff.mpr (volAt_mem (by omega)), h.seq n (by omega)⟩
  have n7 : ∀ i, i < l.length → bad7 l i = false := by
    intro i hi
    obtain ⟨j, hj, e⟩ := hof i hi
    simp only [bad7]
    rw [e, h.seq j hj]
    cases j with
    | zero => rfl
    | succ j =>
      rw [show ((j + 1 : Nat) : Int) - 1 = (j : Int) by omega, h.link hp j (by omega), h.base j hj]
      simp
  unfold replayRd
  rw [if_neg (by omega), firstOf_none.mpr n4, firstOf_none.mpr n5]
  simp only
  rw [if_neg (by
    rw [firstOf_none.mpr n6]
    rintro (q | q)
    · omega
    · cases q), firstOf_none.mpr n7]
  simp only
  rw [hl, h.chain hp _ (by omega), if_pos hc]
end Go.Proofs.Ytdjpkgaicmklmab

/- Extend: a chain and one link more: without the program. -/
namespace Go.Proofs.Ytdjpkgaicmklmab
open Go.RowKit

instance decCk : DecidableEq Ck := fun a b => match a, b with
  | ⟨i, s⟩, ⟨j, t⟩ => if h : i = j ∧ s = t then isTrue (by rw [h.1, h.2]) else isFalse (fun e => by injection e with e1 e2; exact h ⟨e1, e2⟩)
instance decCd : DecidableEq Cd := fun a b => match a, b with
  | ⟨i, s, c, g, t⟩, ⟨i', s', c', g', t'⟩ => if h : i = i' ∧ s = s' ∧ c = c' ∧ g = g' ∧ t = t' then isTrue (by rw [h.1, h.2.1, h.2.2.1, h.2.2.2.1, h.2.2.2.2]) else isFalse (fun e => by injection e with e1 e2 e3 e4 e5; exact h ⟨e1, e2, e3, e4, e5⟩)

theorem range_getD {α : Type} (l : List α) (d : α) : (List.range l.length).map (fun i => l.getD i d) = l := by
  apply List.ext_getElem?; intro i
  by_cases hi : i < l.length
  · simp [hi]
  · simp [Nat.le_of_not_lt hi]
theorem asc_of {α : Type} (key : α → Int) (d : α) (l : List α) (h : ∀ i, i + 1 < l.length → key (l.getD i d) < key (l.getD (i + 1) d)) : Asc key l := by
  have all : ∀ (i k : Nat), i + k + 1 < l.length → key (l.getD i d) < key (l.getD (i + k + 1) d) := by
    intro i k
    induction k with
    | zero => exact h i
    | succ k ih => intro hk; have := ih (by omega); have := h (i + k + 1) (by omega); rw [show i + (k + 1) + 1 = i + k + 1 + 1 by omega]; omega
  unfold Asc
  rw [List.pairwise_iff_getElem]
  intro i j hi hj hij
  have := all i (j - i - 1) (by omega)
  rw [show i + (j - i - 1) + 1 = j by omega] at this
  simpa [hi, hj] using this
theorem asc_next {α : Type} (key : α → Int) (d : α) {l : List α} (h : Asc key l) (i : Nat) (hi : i + 1 < l.length) : key (l.getD i d) < key (l.getD (i + 1) d) := by
  unfold Asc at h
  rw [List.pairwise_iff_getElem] at h
  have := h i (i + 1) (by omega) hi (by omega)
  simpa [hi, show i < l.length by omega] using this
theorem Tri.asc {r : Tri} (h : r.rep.chk = 0) : Asc Ck.site r.K ∧ Asc Cd.id r.C := by
  have := Rep.rising h
  exact ⟨asc_of Ck.site ck0 r.K (fun i hi => this.c i hi), asc_of Cd.id cd0 r.C (fun i hi => this.d i hi)⟩

def diffS (o r : Tri) : Tri := ⟨r.K.filter (fun c => decide (look Ck.site o.K c.site ≠ some c)), r.C.filter (fun c => decide (look Cd.id o.C c.id ≠ some c)), r.E⟩
def followK (o r : List Ck) : Bool := o.all fun c => match look Ck.site r c.site with
  | some d => decide (c.count ≤ d.count)
  | none => false
def followC (o r : List Cd) : Bool := o.all fun c => match look Cd.id r c.id with
  | some d => laterB d c || decide (d = c)
  | none => false
def followB (o r : Tri) : Bool := followK o.K r.K && followC o.C r.C
theorem follow_has {o r : Tri} (h : followB o r = true) : (∀ x ∈ o.K, ∃ y ∈ r.K, y.site = x.site) ∧ (∀ x ∈ o.C, ∃ y ∈ r.C, y.id = x.id) := by
  simp only [followB, followK, followC, Bool.and_eq_true, List.all_eq_true] at h
  constructor
  · intro x hx
    have := h.1 x hx
    split at this
    · rename_i d hd; exact ⟨d, (look_mem Ck.site hd).1, (look_mem Ck.site hd).2⟩
    · cases this
  · intro x hx
    have := h.2 x hx
    split at this
    · rename_i d hd; exact ⟨d, (look_mem Cd.id hd).1, (look_mem Cd.id hd).2⟩
    · cases this
/-- What changed, laid over what it follows, is it. -/
theorem lay_diffS {o r : Tri} (ho : Asc Ck.site o.K ∧ Asc Cd.id o.C) (hr : Asc Ck.site r.K ∧ Asc Cd.id r.C) (h : followB o r = true) : layS o (diffS o r) = r := by
  obtain ⟨h1, h2⟩ := follow_has h
  have a := lay_diff Ck.site (fun c => decide (look Ck.site o.K c.site ≠ some c)) ho.1 hr.1 h1 (fun c _ hc => by simpa using hc)
  have b := lay_diff Cd.id (fun c => decide (look Cd.id o.C c.id ≠ some c)) ho.2 hr.2 h2 (fun c _ hc => by simpa using hc)
  unfold layS diffS
  simp only
  rw [a, b]
theorem mem_fit {r : Tri} (h : Fit r.rep) : (∀ x ∈ r.K, Num x.site ∧ Num x.count) ∧ (∀ x ∈ r.C, Num x.id ∧ Num x.site ∧ Num x.count ∧ x.text.size ≤ 60) ∧ (∀ x ∈ r.E, Num x.id ∧ x.text.size ≤ 60) := by
  refine ⟨fun x hx => ?_, fun x hx => ?_, fun x hx => ?_⟩
  · obtain ⟨i, hi, rfl⟩ := List.mem_iff_getElem.mp hx
    have := h.c1 i hi; simpa [Tri.rep, repOf, hi] using this
  · obtain ⟨i, hi, rfl⟩ := List.mem_iff_getElem.mp hx
    have := h.d1 i hi; simpa [Tri.rep, repOf, hi] using this
  · obtain ⟨i, hi, rfl⟩ := List.mem_iff_getElem.mp hx
    have := h.e1 i hi; simpa [Tri.rep, repOf, hi] using this
theorem diff_fit {o r : Tri} (hr : r.rep.chk = 0) : Fit (diffS o r).rep := by
  have hF := Rep.fit hr
  obtain ⟨m1, m2, m3⟩ := mem_fit hF
  have l1 : (diffS o r).K.length ≤ r.K.length := List.length_filter_le ..
  have l2 : (diffS o r).C.length ≤ r.C.length := List.length_filter_le ..
  refine ⟨Nat.le_trans l1 hF.n1, Nat.le_trans l2 hF.n2, hF.n3, fun i hi => ?_, fun i hi => ?_, fun i hi => ?_⟩
  · exact m1 _ (List.mem_filter.mp (getD_mem (d := ck0) hi)).1
  · exact m2 _ (List.mem_filter.mp (getD_mem (d := cd0) hi)).1
  · exact m3 _ (getD_mem (d := ed0) hi)
theorem diff_rising {o r : Tri} (hr : r.rep.chk = 0) : Rising (diffS o r).rep := by
  obtain ⟨a, b⟩ := Tri.asc hr
  have a2 : Asc Ck.site (diffS o r).K := List.Pairwise.filter _ a
  have b2 : Asc Cd.id (diffS o r).C := List.Pairwise.filter _ b
  exact ⟨fun i hi => asc_next Ck.site ck0 a2 i hi, fun i hi => asc_next Cd.id cd0 b2 i hi⟩
theorem sealR_bound (b : List UInt8) : 0 ≤ sealR b ∧ sealR b ≤ 4294967295 := by
  unfold sealR fourRd
  generalize b.drop (b.length - 4) = s
  have h0 := (s.getD 0 0).toNat_lt
  have h1 := (s.getD 1 0).toNat_lt
  have h2 := (s.getD 2 0).toNat_lt
  have h3 := (s.getD 3 0).toNat_lt
  omega

/-- The bundle of the next link. -/
def nextB (n : Nat) (last : List UInt8) (o r : Tri) : List UInt8 := bundleB (recsOf (n : Int) (sealR last) (diffS o r).rep)
theorem next_read {n : Nat} (h0 : 0 < n) (h16 : n ≤ 16) {last : List UInt8} {o r : Tri} (hr : r.rep.chk = 0) : readRd (nextB n last o r) = ⟨n, sealR last, 0, 0, (diffS o r).K, (diffS o r).C, (diffS o r).E⟩ := by
  have hs := sealR_bound last
  unfold nextB
  rw [readRd_bundle (diff_fit hr) (diff_rising hr) ⟨by omega, by omega⟩ hs.1 hs.2 (fun h => by omega)]
  simp only [Tri.rep, repOf]
  rw [range_getD, range_getD, range_getD]
theorem get_snoc {bs : List (List UInt8)} {b : List UInt8} (i : Nat) (hi : i < bs.length) : (bs ++ [b]).getD i [] = bs.getD i [] := by
  rw [List.getD_eq_getElem?_getD, List.getElem?_append_left hi, ← List.getD_eq_getElem?_getD]
theorem get_last {bs : List (List UInt8)} {b : List UInt8} : (bs ++ [b]).getD bs.length [] = b := by simp
/-- A chain of one. -/
theorem links_one {R : Rep} (h : R.chk = 0) : Links [bundleB (recsOf 0 0 R)] ∧ chainSt [bundleB (recsOf 0 0 R)] 0 = ⟨(List.range R.n1).map R.c, (List.range R.n2).map R.d, (List.range R.n3).map R.e⟩ := by
  have e := readRd_bundle (Rep.fit h) (Rep.rising h) (s := 0) (b := 0) ⟨by decide, by decide⟩ (by decide) (by decide) (fun _ => rfl)
  have hL : Links [bundleB (recsOf 0 0 R)] := by
    refine ⟨by simp, by simp, fun i hi => ?_, fun i hi => ?_, fun i hi => ?_⟩
    · have : i = 0 := by simpa using hi
      subst this; show (readRd (bundleB (recsOf 0 0 R))).err = 0; rw [e]
    · have : i = 0 := by simpa using hi
      subst this; show (readRd (bundleB (recsOf 0 0 R))).seq = 0; rw [e]
    · simp at hi
  refine ⟨hL, ?_⟩
  have h1 := hL.link (List.Perm.refl _) 0 (by simp)
  simp only [chainSt]
  rw [show ((0 : Nat) : Int) = 0 from rfl] at h1
  rw [h1]
  show (readRd (bundleB (recsOf 0 0 R))).st = _
  rw [e]; rfl
/-- A chain with the next link is one, and makes what was handed in. -/
theorem links_next {bs : List (List UInt8)} {r : Tri} (h : Links bs) (hn : bs.length < 16) (ho : (chainSt bs (bs.length - 1)).rep.chk = 0) (hr : r.rep.chk = 0) (hf : followB (chainSt bs (bs.length - 1)) r = true) :
    Links (bs ++ [nextB bs.length (bs.getD (bs.length - 1) []) (chainSt bs (bs.length - 1)) r]) ∧
    chainSt (bs ++ [nextB bs.length (bs.getD (bs.length - 1) []) (chainSt bs (bs.length - 1)) r]) bs.length = r := by
  have pos := h.pos
  generalize ho' : chainSt bs (bs.length - 1) = o at *
  have e := next_read (n := bs.length) pos (by omega) (last := bs.getD (bs.length - 1) []) (o := o) hr
  generalize hb : nextB bs.length (bs.getD (bs.length - 1) []) o r = b at *
  have hlen : (bs ++ [b]).length = bs.length + 1 := by simp
  have hL : Links (bs ++ [b]) := by
    refine ⟨by simp, by simp; omega, fun i hi => ?_, fun i hi => ?_, fun i hi => ?_⟩
    · rw [hlen] at hi
      by_cases hi2 : i < bs.length
      · rw [get_snoc i hi2]; exact h.err i hi2
      · rw [show i = bs.length by omega, get_last, e]
    · rw [hlen] at hi
      by_cases hi2 : i < bs.length
      · rw [get_snoc i hi2]; exact h.seq i hi2
      · rw [show i = bs.length by omega, get_last, e]
    · rw [hlen] at hi
      rw [get_snoc i (by omega)]
      by_cases hi2 : i + 1 < bs.length
      · rw [get_snoc (i + 1) hi2]; exact h.base i hi2
      · rw [show i + 1 = bs.length by omega, get_last, e, show i = bs.length - 1 by omega]
  refine ⟨hL, ?_⟩
  have hold : ∀ n, n < bs.length → chainSt (bs ++ [b]) n = chainSt bs n := by
    intro n
    induction n with
    | zero =>
      intro hn'
      have h1 := hL.link (List.Perm.refl _) 0 (by simp)
      have h2 := h.link (List.Perm.refl _) 0 hn'
      rw [get_snoc 0 hn'] at h1
      rw [show ((0 : Nat) : Int) = 0 from rfl] at h1 h2
      simp only [chainSt]; rw [h1, h2]
    | succ n ih =>
      intro hn'
      have h1 := hL.link (List.Perm.refl _) (n + 1) (by simp; omega)
      have h2 := h.link (List.Perm.refl _) (n + 1) hn'
      rw [get_snoc (n + 1) hn'] at h1
      simp only [chainSt]; rw [ih (by omega), h1, h2]
  obtain ⟨k, hk⟩ : ∃ k, bs.length = k + 1 := ⟨bs.length - 1, by omega⟩
  have h1 := hL.link (List.Perm.refl _) bs.length (by simp)
  rw [get_last] at h1
  have h3 : chainSt (bs ++ [b]) bs.length = layS (chainSt (bs ++ [b]) k) (readRd (linkR (bs ++ [b]) (bs.length : Nat))).st := by rw [hk]; rfl
  rw [h3, h1, hold k (by omega), show k = bs.length - 1 by omega, ho', e]
  exact lay_diffS (Tri.asc ho) (Tri.asc hr) hf

/-- What Extend answers. -/
structure Xt where
  b : List UInt8
  err : Int
  place : Int
def extendRd (l : List (List UInt8)) (r : Tri) : Xt :=
  if (replayRd l).err = 0 then
    if 16 ≤ l.length then ⟨[], 1, 0⟩
    else if r.rep.chk = 0 then
      if followB (replayRd l).st r = true then ⟨nextB l.length (linkR l ((l.length - 1 : Nat) : Int)) (replayRd l).st r, 0, 0⟩ else ⟨[], 18, 0⟩
    else ⟨[], r.rep.chk, 0⟩
  else ⟨[], (replayRd l).err, (replayRd l).place⟩
theorem extend_links {bs l : List (List UInt8)} {r : Tri} (h : Links bs) (hp : l.Perm bs) (hn : bs.length < 16) (ho : (chainSt bs (bs.length - 1)).rep.chk = 0) (hr : r.rep.chk = 0) (hf : followB (chainSt bs (bs.length - 1)) r = true) :
    extendRd l r = ⟨nextB bs.length (bs.getD (bs.length - 1) []) (chainSt bs (bs.length - 1)) r, 0, 0⟩ := by
  have pos := h.pos
  have e := replay_links h hp ho
  have e1 : (replayRd l).err = 0 := by rw [e]
  have e2 : (replayRd l).st = chainSt bs (bs.length - 1) := by rw [e]; rfl
  unfold extendRd
  rw [if_pos e1, e2, hp.length_eq, if_neg (by omega), if_pos hr, if_pos hf, h.link hp _ (by omega)]
end Go.Proofs.Ytdjpkgaicmklmab

/- Replicas that have seen some first writes: merged, and one that has seen more follows: without the program. -/
namespace Go.Proofs.Ytdjpkgaicmklmab
open Go.RowKit

def triS (S : Seen) (i : Nat) (E : List Ed) : Tri := ⟨clocksTo (runS S i).1 8, (runS S i).2, E⟩
def EdOk (E : List Ed) : Prop := ∀ x ∈ E, (1 ≤ x.id ∧ x.id ≤ 4611686018427387904) ∧ x.text.size ≤ 60
theorem triS_chk (S : Seen) (i : Nat) (hi : i ≤ 40) (E : List Ed) (h : E.length ≤ 16) (h2 : EdOk E) : (triS S i E).rep.chk = 0 := state_chk S i hi E h h2

def clashB2 (a b : List Cd) : Bool := a.any fun x => b.any fun y => decide (x.site = y.site ∧ x.count = y.count ∧ x ≠ y)
def mergeRd (a b : Tri) : Ans :=
  if a.rep.chk = 0 then
    if b.rep.chk = 0 then
      if clashB2 a.C b.C = true then ansErr 6 0
      else if 8 < (mergeK a.K b.K).length ∨ 40 < (mergeC a.C b.C).length ∨ 16 < (bothE a.E b.E).length then ansErr 1 0
      else ⟨0, 0, 0, 0, mergeK a.K b.K, mergeC a.C b.C, bothE a.E b.E⟩
    else ansErr b.rep.chk 0
  else ansErr a.rep.chk 0
theorem merge_states {S T M : Seen} (h : Most S T M) (i : Nat) (hi : i ≤ 40) (D E : List Ed) (hD : D.length ≤ 16) (hE : E.length ≤ 16) (hD2 : EdOk D) (hE2 : EdOk E) (hb : (bothE D E).length ≤ 16) :
    mergeRd (triS S i D) (triS T i E) = ⟨0, 0, 0, 0, (triS M i (bothE D E)).K, (triS M i (bothE D E)).C, bothE D E⟩ := by
  have c1 := triS_chk S i hi D hD hD2
  have c2 := triS_chk T i hi E hE hE2
  have hc : mergeC (triS S i D).C (triS T i E).C = (runS M i).2 := most_cards h i
  have hk : mergeK (triS S i D).K (triS T i E).K = clocksTo (runS M i).1 8 := merge_clocks _ _ _ (fun k hk => most_counts h i k hk)
  have hcl : clashB2 (triS S i D).C (triS T i E).C = false := by
    simp only [clashB2, List.any_eq_false, decide_eq_true_eq, Bool.not_eq_true]
    intro x hx y hy e
    have hy := run_isW T h.p2 i y hy
    rw [h.w2] at hy
    exact e.2.2 (isW_sole S.w x y (run_isW S h.p1 i x hx) hy e.1 e.2.1)
  have l1 := clocksTo_length (runS M i).1 8
  have l2 := runS_cards M i
  unfold mergeRd
  rw [if_pos c1, if_pos c2, if_neg (by rw [hcl]; decide), hc, hk, if_neg]
  · rfl
  · show ¬ (_ ∨ _ ∨ 16 < (bothE D E).length); omega

/-- One sees all that another sees. -/
structure Less (S T : Seen) : Prop where
  w : T.w = S.w
  lim : ∀ k, k < 8 → limS S k ≤ limS T k
  p1 : ∀ k, 0 ≤ limS S k
  p2 : ∀ k, 0 ≤ limS T k
theorem Less.most {S T : Seen} (h : Less S T) : Most S T T := ⟨h.w, h.w, fun k hk => by have := h.lim k hk; omega, h.p1, h.p2, h.p2⟩
theorem less_follows {S T : Seen} (h : Less S T) (i : Nat) (D E : List Ed) : followB (triS S i D) (triS T i E) = true := by
  simp only [followB, followK, followC, Bool.and_eq_true, List.all_eq_true]
  constructor
  · intro x hx
    obtain ⟨k, hk, rfl, h0⟩ := clocks_mem hx
    have hm := most_counts h.most i k hk
    have : look Ck.site (triS T i E).K (siteL.getD k 0) = some ⟨siteL.getD k 0, (runS T i).1.getD k 0⟩ := by
      show look Ck.site (clocksTo (runS T i).1 8) _ = _
      rw [clocks_look _ k (by omega) hk, if_pos (by omega)]
    rw [show (⟨siteL.getD k 0, (runS S i).1.getD k 0⟩ : Ck).site = siteL.getD k 0 from rfl, this]
    simp only [decide_eq_true_eq]; omega
  · intro x hx
    have hl := most_look h.most x.id i
    rw [look_some Cd.id (run_asc S i) hx] at hl
    show (match look Cd.id (runS T i).2 x.id with | some d => laterB d x || decide (d = x) | none => false) = true
    cases hd : look Cd.id (runS T i).2 x.id with
    | none => rw [hd] at hl; cases hl
    | some d =>
      rw [hd] at hl
      simp only [over, Option.some.injEq] at hl
      simp only [Bool.or_eq_true, decide_eq_true_eq]
      unfold keepC at hl
      cases hlt : laterB d x with
      | true => exact Or.inl rfl
      | false => rw [hlt] at hl; exact Or.inr hl
/-- One that has seen nothing follows just nothing. -/
theorem nothing_follows {S Z : Seen} (i : Nat) (hz : ∀ k, k < 8 → limS Z k = 0) (p : ∀ k, 0 ≤ limS Z k) (D E : List Ed) : followB (triS S i D) (triS Z i E) = decide ((triS S i D).K.length = 0) := by
  have hZK : clocksTo (runS Z i).1 8 = [] := by
    cases hh : clocksTo (runS Z i).1 8 with
    | nil => rfl
    | cons x l =>
      obtain ⟨k, hk, _, h0⟩ := clocks_mem (show x ∈ clocksTo (runS Z i).1 8 by rw [hh]; simp)
      rw [counts_min Z p k hk, hz k hk] at h0; omega
  by_cases h0 : (triS S i D).K.length = 0
  · rw [decide_eq_true h0]
    have hK : clocksTo (runS S i).1 8 = [] := List.length_eq_zero_iff.mp h0
    have hC : (runS S i).2 = [] := by
      cases hh : (runS S i).2 with
      | nil => rfl
      | cons x l =>
        have hg := (runS_good S i).1 x (by rw [hh]; simp)
        obtain ⟨k, hk, _, h1, h2⟩ := hg.site
        have := clocks_look (runS S i).1 k (n := 8) (by omega) hk
        rw [hK, if_pos (by omega)] at this; cases this
    simp [followB, followK, followC, triS, hK, hC]
  · rw [decide_eq_false h0]
    cases hh : clocksTo (runS S i).1 8 with
    | nil => exact absurd (by simp [triS, hh]) h0
    | cons x l => simp [followB, followK, triS, hh, hZK, look]
end Go.Proofs.Ytdjpkgaicmklmab

/- How the reference merges: clocks over all sites, cards over all numbers: it is the merge of rising lists: without the program. -/
namespace Go.Proofs.Ytdjpkgaicmklmab
open Go.RowKit

/-- The count of a site. -/
def clkOf (K : List Ck) (s : Int) : Int := match look Ck.site K s with
  | some c => c.count
  | none => 0
def mostC (a b : List Ck) (s : Int) : Int := max (clkOf a s) (clkOf b s)
/-- The greater clocks of both, over the sites up to n. -/
def refClk (a b : List Ck) : Nat → List Ck
  | 0 => []
  | n + 1 => if 0 < mostC a b ((n : Int) + 1) then refClk a b n ++ [⟨(n : Int) + 1, mostC a b ((n : Int) + 1)⟩] else refClk a b n
theorem refClk_mem {a b : List Ck} {x : Ck} : ∀ {n : Nat}, x ∈ refClk a b n → 1 ≤ x.site ∧ x.site ≤ n ∧ 0 < x.count ∧ x.count = mostC a b x.site
  | 0, h => by cases h
  | n + 1, h => by
    simp only [refClk] at h
    split at h
    · rename_i hp
      rcases List.mem_append.1 h with h | h
      · have := refClk_mem h; omega
      · simp at h; subst h; exact ⟨by simp; omega, by simp, hp, rfl⟩
    · have := refClk_mem h; omega
theorem refClk_asc (a b : List Ck) : ∀ n, Asc Ck.site (refClk a b n)
  | 0 => List.Pairwise.nil
  | n + 1 => by
    simp only [refClk]
    split
    · refine List.pairwise_append.2 ⟨refClk_asc a b n, List.pairwise_singleton _ _, fun x hx y hy => ?_⟩
      simp at hy; subst hy
      have := refClk_mem hx; simp; omega
    · exact refClk_asc a b n
theorem refClk_has {a b : List Ck} {s : Nat} (hs : 0 < mostC a b ((s : Int) + 1)) : ∀ {n : Nat}, s < n → (⟨(s : Int) + 1, mostC a b ((s : Int) + 1)⟩ : Ck) ∈ refClk a b n
  | 0, h => by omega
  | n + 1, h => by
    by_cases e : s = n
    · subst e; simp [refClk, hs]
    · have := refClk_has hs (n := n) (by omega)
      simp only [refClk]; split
      · exact List.mem_append_left _ this
      · exact this
theorem clkOf_look {K : List Ck} (s : Int) (hp : ∀ x ∈ K, 1 ≤ x.count) : (look Ck.site K s = none ∧ clkOf K s = 0) ∨ ∃ c, look Ck.site K s = some c ∧ c.site = s ∧ clkOf K s = c.count ∧ 1 ≤ c.count := by
  unfold clkOf
  cases h : look Ck.site K s with
  | none => exact Or.inl ⟨rfl, rfl⟩
  | some c => exact Or.inr ⟨c, rfl, (look_mem Ck.site h).2, rfl, hp c (look_mem Ck.site h).1⟩
theorem refClk_eq {a b : List Ck} (ha : Asc Ck.site a) (hb : Asc Ck.site b) (pa : ∀ x ∈ a, 1 ≤ x.site ∧ x.site ≤ 200 ∧ 1 ≤ x.count) (pb : ∀ x ∈ b, 1 ≤ x.site ∧ x.site ≤ 200 ∧ 1 ≤ x.count) : refClk a b 200 = mergeK a b := by
  refine asc_ext Ck.site (refClk_asc a b 200) (layK_asc Ck.site (fun o c h => keepK_site o c h) ha) fun s => ?_
  unfold mergeK
  rw [look_lay Ck.site (fun o c h => keepK_site o c h) ha hb]
  have h1 := clkOf_look (K := a) s (fun x hx => (pa x hx).2.2)
  have h2 := clkOf_look (K := b) s (fun x hx => (pb x hx).2.2)
  have key : ∀ c : Ck, c.site = s → 1 ≤ s → s ≤ 200 → 0 < c.count → c.count = mostC a b s → look Ck.site (refClk a b 200) s = some c := by
    intro c hs h3 h4 h5 h6
    obtain ⟨m, hm⟩ : ∃ m : Nat, s = (m : Int) + 1 := ⟨(s - 1).toNat, by omega⟩
    have := refClk_has (a := a) (b := b) (s := m) (by rw [← hm, ← h6]; exact h5) (n := 200) (by omega)
    rw [← hm, ← h6] at this
    have e : (⟨s, c.count⟩ : Ck) = c := by rw [← hs]
    rw [e] at this
    have := look_some Ck.site (refClk_asc a b 200) this
    rw [hs] at this; exact this
  rcases h1 with ⟨e1, z1⟩ | ⟨c, e1, s1, z1, p1⟩
  · rcases h2 with ⟨e2, z2⟩ | ⟨d, e2, s2, z2, p2⟩
    · rw [e1, e2]
      have : look Ck.site (refClk a b 200) s = none := look_none Ck.site (fun x hx e => by
        have := refClk_mem hx
        rw [e] at this; unfold mostC at this; omega)
      rw [this]; rfl
    · have r := pb d (look_mem Ck.site e2).1
      rw [e1, e2, key d s2 (by omega) (by omega) (by omega) (by unfold mostC; omega)]; rfl
  · have r := pa c (look_mem Ck.site e1).1
    rcases h2 with ⟨e2, z2⟩ | ⟨d, e2, s2, z2, p2⟩
    · rw [e1, e2, key c s1 (by omega) (by omega) (by omega) (by unfold mostC; omega)]; rfl
    · rw [e1, e2]
      simp only [over, keepK]
      split
      · exact key d s2 (by omega) (by omega) (by omega) (by unfold mostC; omega)
      · exact key c s1 (by omega) (by omega) (by omega) (by unfold mostC; omega)

/-- The least number above another among some; 0: none. -/
def lowStep (id n x : Int) : Int := if id < x ∧ (n = 0 ∨ x < n) then x else n
def lowAbove (id : Int) (l : List Int) : Int := l.foldl (lowStep id) 0
theorem low_fold (id : Int) (h0 : 0 ≤ id) : ∀ (l : List Int) (n : Int), (n = 0 ∨ id < n) → (l.foldl (lowStep id) n = 0 ∨ id < l.foldl (lowStep id) n) ∧
    (l.foldl (lowStep id) n = n ∨ l.foldl (lowStep id) n ∈ l) ∧ (∀ x ∈ l, id < x → l.foldl (lowStep id) n ≤ x ∧ l.foldl (lowStep id) n ≠ 0) ∧ (n ≠ 0 → l.foldl (lowStep id) n ≤ n ∧ l.foldl (lowStep id) n ≠ 0)
  | [], n, hn => ⟨hn, Or.inl rfl, fun x hx => (by cases hx), fun h => ⟨Int.le_refl _, h⟩⟩
  | y :: l, n, hn => by
    simp only [List.foldl_cons]
    have hs : lowStep id n y = 0 ∨ id < lowStep id n y := by unfold lowStep; split; (right; omega); exact hn
    obtain ⟨h1, h2, h3, h4⟩ := low_fold id h0 l (lowStep id n y) hs
    refine ⟨h1, ?_, ?_, ?_⟩
    · rcases h2 with h2 | h2
      · rw [h2]; unfold lowStep; split
        · right; simp
        · left; rfl
      · right; simp [h2]
    · intro x hx hlt
      rcases List.mem_cons.1 hx with rfl | hx
      · have hne : lowStep id n x ≠ 0 := by unfold lowStep; split; omega; omega
        have hle : lowStep id n x ≤ x := by unfold lowStep; split; omega; omega
        have := h4 hne; omega
      · exact h3 x hx hlt
    · intro hne
      have hne2 : lowStep id n y ≠ 0 := by unfold lowStep; split <;> omega
      have hle : lowStep id n y ≤ n := by unfold lowStep; split <;> omega
      have := h4 hne2; omega
theorem low_none {id : Int} {l : List Int} (h0 : 0 ≤ id) (h : ∀ x ∈ l, x ≤ id) : lowAbove id l = 0 := by
  obtain ⟨h1, h2, _, _⟩ := low_fold id h0 l 0 (Or.inl rfl)
  rcases h2 with h2 | h2
  · exact h2
  · rcases h1 with h1 | h1
    · exact h1
    · have := h _ h2; unfold lowAbove; omega
theorem low_is {id x : Int} {l : List Int} (h0 : 0 ≤ id) (hx : x ∈ l) (hlt : id < x) (hle : ∀ y ∈ l, id < y → x ≤ y) : lowAbove id l = x := by
  obtain ⟨h1, h2, h3, _⟩ := low_fold id h0 l 0 (Or.inl rfl)
  have := h3 x hx hlt
  unfold lowAbove
  rcases h2 with h2 | h2
  · omega
  · rcases h1 with h1 | h1
    · omega
    · have := hle _ h2 h1; omega

/-- The numbers of the cards of both. -/
def idsOf (a b : List Cd) : List Int := a.map Cd.id ++ b.map Cd.id
/-- The card of a number that the reference takes. -/
def takeC (a b : List Cd) (id : Int) : Cd := match look Cd.id a id, look Cd.id b id with
  | none, some y => y
  | some x, none => x
  | some x, some y => if laterB y x then y else x
  | none, none => ⟨0, 0, 0, false, ⟨#[]⟩⟩
theorem take_look {a b : List Cd} {id : Int} {c : Cd} (h : over keepC (look Cd.id a id) (look Cd.id b id) = some c) : takeC a b id = c := by
  unfold takeC
  cases h1 : look Cd.id a id with
  | none =>
    cases h2 : look Cd.id b id with
    | none => rw [h1, h2] at h; cases h
    | some y => rw [h1, h2] at h; simpa [over] using h
  | some x =>
    cases h2 : look Cd.id b id with
    | none => rw [h1, h2] at h; simpa [over] using h
    | some y => rw [h1, h2] at h; simpa [over, keepC] using h
theorem merge_ids {a b : List Cd} (ha : Asc Cd.id a) (hb : Asc Cd.id b) (id : Int) : (∃ c ∈ mergeC a b, c.id = id) ↔ id ∈ idsOf a b := by
  have hm : Asc Cd.id (mergeC a b) := layK_asc Cd.id (fun o c h => keepC_id o c h) ha
  have hl := look_lay Cd.id (fun o c h => keepC_id o c h) ha hb id
  unfold idsOf
  rw [List.mem_append, List.mem_map, List.mem_map]
  constructor
  · rintro ⟨c, hc, rfl⟩
    have := look_some Cd.id hm hc
    rw [show mergeC a b = layK Cd.id keepC a b from rfl, hl] at this
    cases h1 : look Cd.id a c.id with
    | some x => exact Or.inl ⟨x, (look_mem Cd.id h1).1, (look_mem Cd.id h1).2⟩
    | none =>
      cases h2 : look Cd.id b c.id with
      | some y => exact Or.inr ⟨y, (look_mem Cd.id h2).1, (look_mem Cd.id h2).2⟩
      | none => rw [h1, h2] at this; cases this
  · intro h
    have hs : ∃ c, over keepC (look Cd.id a id) (look Cd.id b id) = some c := by
      rcases h with ⟨x, hx, rfl⟩ | ⟨x, hx, rfl⟩
      · rw [look_some Cd.id ha hx]
        cases look Cd.id b x.id with
        | none => exact ⟨_, rfl⟩
        | some y => exact ⟨_, rfl⟩
      · rw [look_some Cd.id hb hx]
        cases look Cd.id a x.id with
        | none => exact ⟨_, rfl⟩
        | some y => exact ⟨_, rfl⟩
    obtain ⟨c, hc⟩ := hs
    rw [← hl] at hc
    exact ⟨c, (look_mem Cd.id hc).1, (look_mem Cd.id hc).2⟩
/-- The k-th number is the least above the one ahead of it; its card is the merged one. -/
def idAt (M : List Cd) (k : Nat) : Int := match M[k]? with
  | some c => c.id
  | none => 0
theorem low_first {a b : List Cd} (ha : Asc Cd.id a) (hb : Asc Cd.id b) (p : ∀ c ∈ mergeC a b, 0 < c.id) : lowAbove 0 (idsOf a b) = idAt (mergeC a b) 0 := by
  have hm : Asc Cd.id (mergeC a b) := layK_asc Cd.id (fun o c h => keepC_id o c h) ha
  unfold idAt
  cases hM : mergeC a b with
  | nil =>
    show lowAbove 0 (idsOf a b) = 0
    refine low_none (Int.le_refl _) fun x hx => ?_
    obtain ⟨c, hc, _⟩ := (merge_ids ha hb x).2 hx
    rw [hM] at hc; cases hc
  | cons c M =>
    rw [hM] at hm p
    show lowAbove 0 (idsOf a b) = c.id
    refine low_is (Int.le_refl _) ((merge_ids ha hb c.id).1 ⟨c, by rw [hM]; simp, rfl⟩) (p c (by simp)) fun y hy _ => ?_
    obtain ⟨d, hd, rfl⟩ := (merge_ids ha hb y).2 hy
    rw [hM] at hd
    rcases List.mem_cons.1 hd with rfl | hd
    · exact Int.le_refl _
    · have := (List.pairwise_cons.1 hm).1 d hd; omega
theorem low_next {a b : List Cd} (ha : Asc Cd.id a) (hb : Asc Cd.id b) (p : ∀ c ∈ mergeC a b, 0 < c.id) (k : Nat) (hk : k < (mergeC a b).length) :
    lowAbove (idAt (mergeC a b) k) (idsOf a b) = idAt (mergeC a b) (k + 1) ∧ 0 < idAt (mergeC a b) k ∧ takeC a b (idAt (mergeC a b) k) = (mergeC a b)[k] := by
  have hm : Asc Cd.id (mergeC a b) := layK_asc Cd.id (fun o c h => keepC_id o c h) ha
  have hl := look_lay Cd.id (fun o c h => keepC_id o c h) ha hb
  have hp : ∀ i j (hi : i < (mergeC a b).length) (hj : j < (mergeC a b).length), i < j → (mergeC a b)[i].id < (mergeC a b)[j].id := fun i j hi hj hij => List.pairwise_iff_getElem.1 hm i j hi hj hij
  have e0 : idAt (mergeC a b) k = (mergeC a b)[k].id := by unfold idAt; rw [List.getElem?_eq_getElem hk]
  have p0 := p _ (List.getElem_mem hk)
  rw [e0]
  refine ⟨?_, p0, take_look ?_⟩
  · unfold idAt
    by_cases h1 : k + 1 < (mergeC a b).length
    · rw [List.getElem?_eq_getElem h1]
      show lowAbove _ (idsOf a b) = (mergeC a b)[k + 1].id
      refine low_is (by omega) ((merge_ids ha hb _).1 ⟨_, List.getElem_mem h1, rfl⟩) (hp k (k + 1) hk h1 (by omega)) fun y hy hlt => ?_
      obtain ⟨d, hd, rfl⟩ := (merge_ids ha hb y).2 hy
      obtain ⟨j, hj, rfl⟩ := List.mem_iff_getElem.1 hd
      rcases Nat.lt_trichotomy j (k + 1) with h | h | h
      · rcases Nat.lt_or_ge j k with h2 | h2
        · have := hp j k hj hk h2; omega
        · have : j = k := by omega
          subst this; omega
      · subst h; exact Int.le_refl _
      · have := hp (k + 1) j h1 hj h; omega
    · rw [List.getElem?_eq_none (by omega)]
      show lowAbove _ (idsOf a b) = 0
      refine low_none (by omega) fun y hy => ?_
      obtain ⟨d, hd, rfl⟩ := (merge_ids ha hb y).2 hy
      obtain ⟨j, hj, rfl⟩ := List.mem_iff_getElem.1 hd
      rcases Nat.lt_or_ge j k with h2 | h2
      · have := hp j k hj hk h2; omega
      · have : j = k := by omega
        subst this; exact Int.le_refl _
  · rw [← hl]
    exact look_some Cd.id hm (List.getElem_mem hk)
end Go.Proofs.Ytdjpkgaicmklmab

/- How the program merges and extends: what is newer, laid over what is there: without the program. -/
namespace Go.Proofs.Ytdjpkgaicmklmab
open Go.RowKit

section
variable {α : Type} (key : α → Int)
theorem look_filter (p : α → Bool) : ∀ {l : List α}, Asc key l → ∀ k, look key (l.filter p) k = (look key l k).filter p
  | [], _, _ => rfl
  | x :: l, h, k => by
    simp only [Asc, List.pairwise_cons] at h
    have ih := look_filter p (l := l) h.2 k
    by_cases hp : p x = true
    · rw [List.filter_cons_of_pos hp]
      simp only [look]
      by_cases e : key x = k
      · rw [if_pos e, if_pos e]; simp [Option.filter, hp]
      · rw [if_neg e, if_neg e]; exact ih
    · rw [List.filter_cons_of_neg hp, ih]
      simp only [look]
      by_cases e : key x = k
      · rw [if_pos e, look_none key (fun y hy => by have := h.1 y hy; omega)]; simp [Option.filter, hp]
      · rw [if_neg e]
theorem put_app (f : α → α → α) {c : α} {D : List α} : ∀ {L : List α}, (∀ x ∈ L, key x < key c) → putK key f (L ++ D) c = L ++ putK key f D c
  | [], _ => rfl
  | x :: L, h => by
    simp only [List.cons_append, putK]
    rw [if_pos (h x (by simp)), put_app f (fun y hy => h y (by simp [hy]))]
theorem put_eq (f : α → α → α) {c o : α} {D : List α} (h : key o = key c) : putK key f (o :: D) c = f o c :: D := by
  simp only [putK]; rw [if_neg (by omega), if_pos h]
theorem put_lt (f : α → α → α) {c o : α} {D : List α} (h : key c < key o) : putK key f (o :: D) c = c :: o :: D := by
  simp only [putK]; rw [if_neg (by omega), if_neg (by omega)]
theorem lay_snoc (f : α → α → α) (a b : List α) (c : α) : layK key f a (b ++ [c]) = putK key f (layK key f a b) c := by
  unfold layK; rw [List.foldl_append]; rfl
theorem asc_filter {l : List α} (p : α → Bool) (h : Asc key l) : Asc key (l.filter p) := List.Pairwise.filter p h
end

/-- What one list of clocks has newer than another. -/
def newK (old r : List Ck) : List Ck := r.filter fun c => decide (clkOf old c.site < c.count)
def newP (old : List Cd) (c : Cd) : Bool := match look Cd.id old c.id with
  | some o => laterB c o
  | none => true
def newC (old r : List Cd) : List Cd := r.filter (newP old)
theorem newK_snoc (old r : List Ck) (c : Ck) : newK old (r ++ [c]) = if clkOf old c.site < c.count then newK old r ++ [c] else newK old r := by
  unfold newK; rw [List.filter_append]
  by_cases h : clkOf old c.site < c.count <;> simp [h]
theorem newC_snoc (old r : List Cd) (c : Cd) : newC old (r ++ [c]) = if newP old c = true then newC old r ++ [c] else newC old r := by
  unfold newC; rw [List.filter_append]
  by_cases h : newP old c = true <;> simp [h]
theorem newK_len (old r : List Ck) : (newK old r).length ≤ r.length := List.length_filter_le _ _
theorem newC_len (old r : List Cd) : (newC old r).length ≤ r.length := List.length_filter_le _ _
theorem newK_asc {old r : List Ck} (h : Asc Ck.site r) : Asc Ck.site (newK old r) := asc_filter Ck.site _ h
theorem newC_asc {old r : List Cd} (h : Asc Cd.id r) : Asc Cd.id (newC old r) := asc_filter Cd.id _ h
theorem lay_newK {a b : List Ck} (ha : Asc Ck.site a) (hb : Asc Ck.site b) (pb : ∀ x ∈ b, 1 ≤ x.count) : layK Ck.site (fun _ c => c) a (newK a b) = mergeK a b := by
  refine asc_ext Ck.site (layK_asc Ck.site (fun o c h => rfl) ha) (layK_asc Ck.site (fun o c h => keepK_site o c h) ha) fun k => ?_
  unfold mergeK
  rw [look_lay Ck.site (fun o c h => rfl) ha (newK_asc hb), look_lay Ck.site (fun o c h => keepK_site o c h) ha hb]
  unfold newK
  rw [look_filter Ck.site _ hb]
  cases h2 : look Ck.site b k with
  | none => simp [over_none, Option.filter]
  | some y =>
    have m2 := look_mem Ck.site h2
    have p2 := pb y m2.1
    cases h1 : look Ck.site a k with
    | none =>
      have hc : clkOf a y.site = 0 := by unfold clkOf; rw [m2.2, h1]
      have : clkOf a y.site < y.count := by omega
      simp [Option.filter, this, over]
    | some x =>
      have hc : clkOf a y.site = x.count := by unfold clkOf; rw [m2.2, h1]
      by_cases h : x.count < y.count
      · have : clkOf a y.site < y.count := by omega
        simp [Option.filter, this, over, keepK, h]
      · have : ¬ clkOf a y.site < y.count := by omega
        simp [Option.filter, this, over, keepK, h]
theorem lay_newC {a b : List Cd} (ha : Asc Cd.id a) (hb : Asc Cd.id b) : layK Cd.id (fun _ c => c) a (newC a b) = mergeC a b := by
  refine asc_ext Cd.id (layK_asc Cd.id (fun o c h => rfl) ha) (layK_asc Cd.id (fun o c h => keepC_id o c h) ha) fun k => ?_
  unfold mergeC
  rw [look_lay Cd.id (fun o c h => rfl) ha (newC_asc hb), look_lay Cd.id (fun o c h => keepC_id o c h) ha hb]
  unfold newC
  rw [look_filter Cd.id _ hb]
  cases h2 : look Cd.id b k with
  | none => simp [over_none, Option.filter]
  | some y =>
    have m2 := look_mem Cd.id h2
    cases h1 : look Cd.id a k with
    | none =>
      have hc : newP a y = true := by unfold newP; rw [m2.2, h1]
      simp [Option.filter, hc, over]
    | some x =>
      have hc : newP a y = laterB y x := by unfold newP; rw [m2.2, h1]
      by_cases h : laterB y x = true
      · simp [Option.filter, hc, over, keepC, h]
      · simp [Option.filter, hc, over, keepC, h]
/-- Of what follows, what is newer is what is otherwise. -/
theorem laterB_irr (x : Cd) : laterB x x = false := by unfold laterB; simp
theorem diff_new {o r : Tri} (ha : Asc Ck.site r.K ∧ Asc Cd.id r.C) (hp : ∀ x ∈ r.K, 1 ≤ x.count) (h : followB o r = true) : newK o.K r.K = (diffS o r).K ∧ newC o.C r.C = (diffS o r).C := by
  simp only [followB, followK, followC, Bool.and_eq_true, List.all_eq_true] at h
  constructor
  · unfold newK diffS
    apply List.filter_congr
    intro c hc
    have p := hp c hc
    cases hl : look Ck.site o.K c.site with
    | none =>
      have : clkOf o.K c.site = 0 := by unfold clkOf; rw [hl]
      simp; omega
    | some d =>
      have hd := look_mem Ck.site hl
      have hk : clkOf o.K c.site = d.count := by unfold clkOf; rw [hl]
      have := h.1 d hd.1
      rw [hd.2, look_some Ck.site ha.1 hc] at this
      simp only [decide_eq_true_eq] at this
      rw [hk]
      by_cases e : d.count < c.count
      · have : d ≠ c := fun e2 => by subst e2; omega
        simp [e, this]
      · have : d = c := by
          have h1 : d.site = c.site := hd.2
          have h2 : d.count = c.count := by omega
          cases d; cases c; simp at h1 h2; subst h1; subst h2; rfl
        subst this; simp
  · unfold newC diffS
    apply List.filter_congr
    intro c hc
    cases hl : look Cd.id o.C c.id with
    | none => simp [newP, hl]
    | some d =>
      have hd := look_mem Cd.id hl
      have := h.2 d hd.1
      rw [hd.2, look_some Cd.id ha.2 hc] at this
      simp only [Bool.or_eq_true, decide_eq_true_eq] at this
      simp only [newP, hl]
      rcases this with h3 | h3
      · have : d ≠ c := fun e2 => by subst e2; rw [laterB_irr] at h3; cases h3
        simp [h3, this]
      · subst h3; simp [laterB_irr]
end Go.Proofs.Ytdjpkgaicmklmab

/- The reference's Later, find, behind, clocks, joined: walked. -/
namespace Go.Proofs.Ytdjpkgaicmklmab
open Go.RowKit

/-- The place of a card's number, or -1. -/
def findR (R : Rep) (id : Int) : Option Nat := firstOf (fun i => (R.d i).id == id) R.n2
def findI (R : Rep) (id : Int) : Int := match findR R id with
  | some i => (i : Int)
  | none => -1

/-- The numbers of the cards of both, as they are gone over. -/
def idsR (A B : Rep) (i : Nat) : Int := if i < A.n2 then (A.d i).id else (B.d (i - A.n2)).id
def lowTo (A B : Rep) (id : Int) : Nat → Int
  | 0 => 0
  | k + 1 => lowStep id (lowTo A B id k) (idsR A B k)
def lowR (A B : Rep) (id : Int) : Int := lowTo A B id (A.n2 + B.n2)

end Go.Proofs.Ytdjpkgaicmklmab

/- The reference's clocks and joined: walked. -/
namespace Go.Proofs.Ytdjpkgaicmklmab
open Go.RowKit

/-- A replica's lists. -/
def Rep.tri (R : Rep) : Tri := ⟨(List.range R.n1).map R.c, (List.range R.n2).map R.d, (List.range R.n3).map R.e⟩
theorem clockTo_look (c : Nat → Ck) (s : Int) : ∀ n, clockTo c s n = (look Ck.site ((List.range n).map c) s).map (·.count)
  | 0 => rfl
  | n + 1 => by
    simp only [clockTo]
    rw [clockTo_look c s n, List.range_succ, List.map_append, look_append]
    cases look Ck.site ((List.range n).map c) s with
    | some x => rfl
    | none =>
      simp only [Option.map_none, List.map_cons, List.map_nil, look, Option.none_or]
      split <;> rfl
theorem clk_look (R : Rep) (s : Int) : R.clk s = clkOf R.tri.K s := by
  unfold Rep.clk clkOf Rep.tri
  rw [clockTo_look]
  cases look Ck.site ((List.range R.n1).map R.c) s <;> rfl
theorem kcells_app (a b : List Ck) : kcells (a ++ b) = kcells a ++ kcells b := by simp [kcells]

end Go.Proofs.Ytdjpkgaicmklmab

/- What is newer, of the program: later, cardAt, NewerClocks, NewerCards: walked. -/
namespace Go.Proofs.Ytdjpkgaicmklmab
open Go.RowKit

set_option maxRecDepth 100000 in
set_option maxHeartbeats 4000000 in
theorem plater_any (a b : Cd) (w : World) :
    Calls Try.prog 84 #[cdV a, cdV b] w fun e w' => e = .returned (.bool (laterB a b)) ∧ Below w.heap.size w w' := by
  obtain ⟨hA, hB, hs, hb⟩ := two_boxes w 68 68 a.cells.toArray b.cells.toArray
  have a1 := hA.cell 1; have a2 := hA.cell 2
  have b1 := hB.cell 1; have b2 := hB.cell 2
  dsimp only [List.getElem?_cons_zero, List.getElem?_cons_succ] at a1 a2 b1 b2
  have HB : Hid (Below w.heap.size w ((w.alloc (.cells a.cells.toArray 68)).alloc (.cells b.cells.toArray 68))) := hb
  have HL : Hid (laterB a b = (decide (b.count < a.count) || (a.count == b.count && decide (b.site < a.site)))) := by
    show _ = _; unfold laterB; first | rfl | (simp; done)
  clear hA hB hs hb
  by_cases h2 : a.count = b.count
  · have q : (a.count != b.count) = false := by simp [h2]
    have E : Hid (laterB a b = decide (b.site < a.site)) := by show _ = _; rw [HL.out]; simp [h2]
    clear HL h2
    go_enter Try.func84, Try.ntmps84
    go_wp2_with fail
    go_ret
    exact ⟨by rw [E.out]; rfl, HB.out⟩
  · have q : (a.count != b.count) = true := by simp [h2]
    have E : Hid (laterB a b = decide (b.count < a.count)) := by show _ = _; rw [HL.out]; simp [h2]
    clear HL h2
    go_enter Try.func84, Try.ntmps84
    go_wp2_with fail
    go_ret
    exact ⟨by rw [E.out]; rfl, HB.out⟩

/-- The place of a card's number, or the end. -/
def cardIx (L : List Cd) (id : Int) : Nat := L.findIdx fun c => c.id == id
theorem cardIx_hit {L : List Cd} {id : Int} {k : Nat} (hk : k < L.length) (h : ((L.getD k cd0).id == id) = true) (hno : ∀ j, j < k → ((L.getD j cd0).id == id) = false) : cardIx L id = k := by
  unfold cardIx
  rw [List.findIdx_eq hk]
  refine ⟨by simpa [List.getD, hk] using h, fun j hj => ?_⟩
  have := hno j hj
  simpa [List.getD, show j < L.length by omega] using this
theorem cardIx_none {L : List Cd} {id : Int} (hno : ∀ j, j < L.length → ((L.getD j cd0).id == id) = false) : cardIx L id = L.length := by
  unfold cardIx
  apply List.findIdx_eq_length_of_false
  intro c hc
  obtain ⟨j, hj, rfl⟩ := List.mem_iff_getElem.1 hc
  have := hno j hj
  simpa [List.getD, hj] using this
theorem cardIx_le (L : List Cd) (id : Int) : cardIx L id ≤ L.length := List.findIdx_le_length
theorem cardIx_look : ∀ (L : List Cd) (id : Int), look Cd.id L id = if cardIx L id < L.length then some (L.getD (cardIx L id) cd0) else none
  | [], id => rfl
  | c :: L, id => by
    have ih := cardIx_look L id
    unfold cardIx at ih ⊢
    simp only [look, List.findIdx_cons]
    by_cases e : c.id = id
    · simp [e]
    · have : (c.id == id) = false := by rw [beq_eq_false_iff_ne]; exact e
      rw [if_neg e, this, ih]
      simp
theorem newP_end {L : List Cd} {c : Cd} (h : ¬ cardIx L c.id < L.length) : newP L c = true := by
  unfold newP; rw [cardIx_look, if_neg h]
theorem newP_in {L : List Cd} {c : Cd} (h : cardIx L c.id < L.length) : newP L c = laterB c (L.getD (cardIx L c.id) cd0) := by
  unfold newP; rw [cardIx_look, if_pos h]
theorem clk_list {O : List Ck} {n : Nat} (hn : n = O.length) (s : Int) : (clockTo (fun i => O.getD i ck0) s n).getD 0 = clkOf O s := by
  subst hn
  rw [clockTo_look, range_getD]
  unfold clkOf
  cases look Ck.site O s <;> rfl
theorem take_clock (E : List Ck) (i : Nat) (h : i < E.length) : E.take (i + 1) = E.take i ++ [E.getD i ck0] := by
  rw [List.take_succ_eq_append_getElem h, List.getD_eq_getElem?_getD, List.getElem?_eq_getElem h]; rfl
theorem take_card (E : List Cd) (i : Nat) (h : i < E.length) : E.take (i + 1) = E.take i ++ [E.getD i cd0] := by
  rw [List.take_succ_eq_append_getElem h, List.getD_eq_getElem?_getD, List.getElem?_eq_getElem h]; rfl

set_option maxHeartbeats 2000000 in
theorem pcardAt_any (L : List Cd) (a : Option Addr) (n cap : Nat) (id : Int) (w : World) (hn : n = L.length) (hn2 : n ≤ 140737488355328) (hL : Lies w a n 5 (fun i => (L.getD i cd0).cells)) :
    Calls Try.prog 83 #[.slice a n cap, .int .i64 id] w fun e w' => e = .returned (.int .i64 (cardIx L id : Int)) ∧ w' = w := by
  have HL : Hid (n = L.length) := hn
  clear hn
  go_enter Try.func83, Try.ntmps83
  go_wp2
  go_loop [5] (fun i => ∃ k : Nat, k ≤ n ∧ i = .int .i64 k ∧ (∀ j, j < k → ((L.getD j cd0).id == id) = false)) (fun i => n - (intOf i).toNat)
  case atStart => exact ⟨0, Nat.zero_le _, rfl, fun j hj => by omega⟩
  case round =>
    obtain ⟨k, hk, rfl, hno⟩ := hrel
    have HN : Hid (∀ j, j < k → ((L.getD j cd0).id == id) = false) := hno
    clear hno
    by_cases hlt : k < n
    · obtain ⟨b, o, hbl, hix, c0, c1, c2, c3, c4⟩ := Lies.card (c := fun i => L.getD i cd0) hL cap hlt
      have HE : Hid (((L.getD k cd0).id == id) = true → cardIx L id = k) := fun hq => cardIx_hit (by rw [← HL.out]; exact hlt) hq HN.out
      have HQ : Hid (((L.getD k cd0).id == id) = false → ∀ j, j < k + 1 → ((L.getD j cd0).id == id) = false) := fun hq j hj => by rcases Nat.lt_or_ge j k with h | h; (exact HN.out j h); (rw [show j = k by omega]; exact hq)
      generalize L.getD k cd0 = c at *
      cases hq : (c.id == id) with
      | true =>
        have E : Hid (cardIx L id = k) := HE.out hq
        go_wp2
        go_ret
        exact ⟨ret_int (by rw [E.out]), rfl⟩
      | false =>
        have E : Hid (∀ j, j < k + 1 → ((L.getD j cd0).id == id) = false) := HQ.out hq
        go_wp2
        go_round
        case rel => exact ⟨k + 1, by omega, by go_num, E.out⟩
        case measure => simp [intOf]; omega
    · have e1 : k = n := by omega
      have E : Hid (cardIx L id = n) := by
        show _ = _
        rw [HL.out]; exact cardIx_none (fun j hj => HN.out j (by have := HL.out; omega))
      clear e1
      go_wp2
      go_ret
      exact ⟨ret_int (by rw [E.out]), rfl⟩

set_option maxRecDepth 100000 in
set_option maxHeartbeats 4000000 in
theorem newerClocks_any (O R : List Ck) (a b : Option Addr) (n m ca cb : Nat) (w : World) (hO : Lies w a n 2 (fun i => (O.getD i ck0).cells)) (hR : Lies w b m 2 (fun i => (R.getD i ck0).cells)) (hn : n = O.length) (hm : m = R.length) (hn2 : n ≤ 1099511627776) (hm2 : m ≤ 1099511627776) :
    Calls Try.prog 64 #[.slice a n ca, .slice b m cb] w fun e w' => ∃ ad cap N, e = .returned (.slice ad N cap) ∧ N = (newK O R).length ∧ Vec w' w.heap.size 72 2 ad N cap (kcells (newK O R)) ∧ Below w.heap.size w w' := by
  have hV0 : Hid (Vec (w.alloc (.cells #[] 72)) w.heap.size 72 2 (some ⟨w.heap.size, 0, none⟩) 0 0 (kcells [])) := Vec.lit w w.heap.size 72 2 0 [] (Nat.le_refl _) (by omega) rfl
  have HN : Hid (n = O.length) := hn
  have HM : Hid (m = R.length) := hm
  have HO : Hid (Lies w a n 2 (fun i => (O.getD i ck0).cells)) := hO
  have HR : Hid (Lies w b m 2 (fun i => (R.getD i ck0).cells)) := hR
  clear hn hm hO hR
  go_enter Try.func64, Try.ntmps64
  go_wp2_with fail
  go_loopw [5, 6, 7] (fun v u _ wr => ∃ (i : Nat) (ad : Option Addr) (cap N : Nat), i ≤ m ∧ u = .int .i64 i ∧ v = .slice ad N cap ∧ N = (newK O (R.take i)).length ∧ N ≤ i ∧ Vec wr w.heap.size 72 2 ad N cap (kcells (newK O (R.take i))) ∧ Below w.heap.size w wr) (fun _ u _ _ => m - (intOf u).toNat)
  case atStart => exact ⟨0, _, _, 0, by omega, rfl, rfl, rfl, by omega, hV0.out, (Below.refl _ _).alloc (Nat.le_refl _) _⟩
  case round =>
    obtain ⟨i, ad, cap, N, hi, rfl, rfl, hN, hNi, hv, hb⟩ := hrel
    have HNN : Hid (N = (newK O (R.take i)).length) := hN
    clear hN
    by_cases hlt : i < m
    · have hil : i < R.length := by rw [← HM.out]; exact hlt
      obtain ⟨bb, ob, hblb, hixb, e0, e1⟩ := Lies.clock (c := fun i => R.getD i ck0) (HR.out.below hb) cb hlt
      have HT : Hid (newK O (R.take (i + 1)) = if clkOf O (R.getD i ck0).site < (R.getD i ck0).count then newK O (R.take i) ++ [R.getD i ck0] else newK O (R.take i)) := by
        show _ = _; rw [take_clock R i hil, newK_snoc]
      clear hil
      generalize R.getD i ck0 = c at *
      go_wp2_with fail
      refine (countOf_any a n ca (fun i => O.getD i ck0) c.site _ (by omega) (HO.out.below hb)).mono ?_
      rintro e w1 ⟨rfl, rfl⟩
      rw [clk_list HN.out]
      have hz := hb.size
      have HBA : Hid (∀ o : Obj, Below w.heap.size w (w1.alloc o)) := fun o => hb.alloc hb.size o
      by_cases hp : clkOf O c.site < c.count
      · rw [if_pos hp] at HT
        generalize clkOf O c.site = x at *
        go_wp2_with (at_builtin; refine wpList_push (by rfl) _ _ 24 (by rfl) w.heap.size 72 2 16 (.agg #[.int .i64 0, .int .i64 0]) Try.underlying24 (by kernel_rfl) rfl (by decide) ad N cap _ (by rfl) (hv.keep ((Below.refl _ _).alloc (Nat.le_refl _) _)) _ _ c.cells (by rfl) rfl ?_ ?_ ?_ ?_ ?_ ?_; exact new_cells _ _ _; exact ones1 _; (omega); (omega); (simp; omega); intro ad' cap' w' hv' hb' hs')
        go_roundw
        case rel => exact ⟨i + 1, ad', cap', N + 1, by omega, by go_num, rfl, by rw [HT.out, List.length_append, ← HNN.out]; rfl, by omega, by rw [HT.out, kcells_app]; simpa [kcells] using hv', (HBA.out _).trans hb'⟩
        case measure => simp [intOf]; omega
      · rw [if_neg hp] at HT
        generalize clkOf O c.site = x at *
        go_wp2_with fail
        go_roundw
        case rel => exact ⟨i + 1, ad, cap, N, by omega, by go_num, rfl, by rw [HT.out]; exact HNN.out, by omega, by rw [HT.out]; exact hv, hb⟩
        case measure => simp [intOf]; omega
    · obtain rfl : m = i := by omega
      have HE : Hid (newK O (R.take m) = newK O R) := by show _ = _; rw [HM.out, List.take_length]
      go_wp2_with fail
      go_ret
      exact ⟨ad, cap, N, rfl, by rw [← HE.out]; exact HNN.out, by rw [← HE.out]; exact hv, hb⟩

set_option maxRecDepth 100000 in
set_option maxHeartbeats 4000000 in
theorem newerCards_any (O R : List Cd) (a b : Option Addr) (n m ca cb : Nat) (w : World) (hO : Lies w a n 5 (fun i => (O.getD i cd0).cells)) (hR : Lies w b m 5 (fun i => (R.getD i cd0).cells)) (hn : n = O.length) (hm : m = R.length) (hn2 : n ≤ 1099511627776) (hm2 : m ≤ 1099511627776) :
    Calls Try.prog 65 #[.slice a n ca, .slice b m cb] w fun e w' => ∃ ad cap N, e = .returned (.slice ad N cap) ∧ N = (newC O R).length ∧ Vec w' w.heap.size 68 5 ad N cap (ccells (newC O R)) ∧ Below w.heap.size w w' := by
  have hV0 : Hid (Vec (w.alloc (.cells #[] 68)) w.heap.size 68 5 (some ⟨w.heap.size, 0, none⟩) 0 0 (ccells [])) := Vec.lit w w.heap.size 68 5 0 [] (Nat.le_refl _) (by omega) rfl
  have HN : Hid (n = O.length) := hn
  have HM : Hid (m = R.length) := hm
  have HO : Hid (Lies w a n 5 (fun i => (O.getD i cd0).cells)) := hO
  have HR : Hid (Lies w b m 5 (fun i => (R.getD i cd0).cells)) := hR
  clear hn hm hO hR
  go_enter Try.func65, Try.ntmps65
  go_wp2_with fail
  go_loopw [5, 6, 7] (fun v u _ wr => ∃ (i : Nat) (ad : Option Addr) (cap N : Nat), i ≤ m ∧ u = .int .i64 i ∧ v = .slice ad N cap ∧ N = (newC O (R.take i)).length ∧ N ≤ i ∧ Vec wr w.heap.size 68 5 ad N cap (ccells (newC O (R.take i))) ∧ Below w.heap.size w wr) (fun _ u _ _ => m - (intOf u).toNat)
  case atStart => exact ⟨0, _, _, 0, by omega, rfl, rfl, rfl, by omega, hV0.out, (Below.refl _ _).alloc (Nat.le_refl _) _⟩
  case round =>
    obtain ⟨i, ad, cap, N, hi, rfl, rfl, hN, hNi, hv, hb⟩ := hrel
    have HNN : Hid (N = (newC O (R.take i)).length) := hN
    clear hN
    by_cases hlt : i < m
    · have hil : i < R.length := by rw [← HM.out]; exact hlt
      obtain ⟨bb, ob, hblb, hixb, e0, e1, e2, e3, e4⟩ := Lies.card (c := fun i => R.getD i cd0) (HR.out.below hb) cb hlt
      have HT : Hid (newC O (R.take (i + 1)) = if newP O (R.getD i cd0) = true then newC O (R.take i) ++ [R.getD i cd0] else newC O (R.take i)) := by
        show _ = _; rw [take_card R i hil, newC_snoc]
      clear hil
      generalize R.getD i cd0 = c at *
      go_wp2_with fail
      refine (pcardAt_any O a n ca c.id _ HN.out (by omega) (HO.out.below hb)).mono ?_
      rintro e w1 ⟨rfl, rfl⟩
      have hz := hb.size
      have HV : Hid (∀ X, Below w1.heap.size w1 X → Vec X w.heap.size 68 5 ad N cap (ccells (newC O (R.take i))) ∧ Below w.heap.size w X ∧ w.heap.size ≤ X.heap.size) := fun X h => ⟨hv.keep h, hb.trans (h.mono hb.size), Nat.le_trans hb.size h.size⟩
      have HO1 : Hid (Lies w1 a n 5 (fun i => (O.getD i cd0).cells)) := HO.out.below hb
      have HLE : Hid (cardIx O c.id ≤ n) := by show _ ≤ _; rw [HN.out]; exact cardIx_le _ _
      clear hv hb
      by_cases hq : cardIx O c.id < n
      · obtain ⟨bo, oo, hblo, hixo, f0, f1, f2, f3, f4⟩ := Lies.card (c := fun i => O.getD i cd0) HO1.out ca hq
        have HP : Hid (newP O c = laterB c (O.getD (cardIx O c.id) cd0)) := newP_in (by rw [← HN.out]; exact hq)
        generalize O.getD (cardIx O c.id) cd0 = d at *
        generalize cardIx O c.id = q at *
        have hqn : ((q : Int) == (n : Int)) = false := by rw [beq_eq_false_iff_ne]; omega
        go_wp2_with fail
        go_region_held3 (fun w' => w'.cell? ⟨bb, ob, none⟩ = some (.int .i64 c.id) ∧ w'.cell? ⟨bb, ob + 1, none⟩ = some (.int .i64 c.site) ∧ w'.cell? ⟨bb, ob + 2, none⟩ = some (.int .i64 c.count) ∧ w'.cell? ⟨bb, ob + 3, none⟩ = some (.bool c.gone) ∧ w'.cell? ⟨bb, ob + 4, none⟩ = some (.string c.text) ∧
             w'.cell? ⟨bo, oo, none⟩ = some (.int .i64 d.id) ∧ w'.cell? ⟨bo, oo + 1, none⟩ = some (.int .i64 d.site) ∧ w'.cell? ⟨bo, oo + 2, none⟩ = some (.int .i64 d.count) ∧ w'.cell? ⟨bo, oo + 3, none⟩ = some (.bool d.gone) ∧ w'.cell? ⟨bo, oo + 4, none⟩ = some (.string d.text)) (first | (go_keep; done) | (simp only [hcc bb _ hblb, hcc bo _ hblo]; go_keep; done))
             (first | (go_at_call 84; refine (plater_any c d _).mono ?_; rintro e w' ⟨rfl, hb2⟩; obtain ⟨hcc, hff⟩ := bcell hb2))
        have hbw : Below w1.heap.size w1 w' := Below.trans (by (repeat (first | exact Below.refl _ _ | refine Below.drew ?_))) hb2
        obtain ⟨hvX, hbX, hzX⟩ := HV.out w' hbw
        replace e0 := (hbw.cell (p := ⟨bb, ob, none⟩) hblb).trans e0
        replace e1 := (hbw.cell (p := ⟨bb, ob + 1, none⟩) hblb).trans e1
        replace e2 := (hbw.cell (p := ⟨bb, ob + 2, none⟩) hblb).trans e2
        replace e3 := (hbw.cell (p := ⟨bb, ob + 3, none⟩) hblb).trans e3
        replace e4 := (hbw.cell (p := ⟨bb, ob + 4, none⟩) hblb).trans e4
        clear hbw hb2 hcc hff HV
        cases hl : laterB c d with
        | true =>
          rw [HP.out, if_pos hl] at HT
          clear HP hl
          go_wp2_with (at_builtin; refine wpList_push (by rfl) _ _ 25 (by rfl) w.heap.size 68 5 48 (.agg #[.int .i64 0, .int .i64 0, .int .i64 0, .bool false, .string ⟨#[]⟩]) Try.underlying25 (by kernel_rfl) rfl (by decide) ad N cap _ (by rfl) (hvX.keep ((Below.refl _ _).alloc (Nat.le_refl _) _)) _ _ c.cells (by rfl) rfl ?_ ?_ ?_ ?_ ?_ ?_; exact new_cells _ _ _; exact ones2 _; (omega); (omega); (simp; omega); intro ad' cap' w9 hv' hb' hs')
          go_roundw
          case rel => exact ⟨i + 1, ad', cap', N + 1, by omega, by go_num, rfl, by rw [HT.out, List.length_append, ← HNN.out]; rfl, by omega, by rw [HT.out, ccells_app]; simpa [ccells] using hv', (hbX.alloc hzX _).trans hb'⟩
          case measure => simp [intOf]; omega
        | false =>
          rw [HP.out, if_neg (by rw [hl]; decide)] at HT
          clear HP hl
          go_wp2_with fail
          go_roundw
          case rel => exact ⟨i + 1, ad, cap, N, by omega, by go_num, rfl, by rw [HT.out]; exact HNN.out, by omega, by rw [HT.out]; exact hvX, hbX⟩
          case measure => simp [intOf]; omega
      · have HP : Hid (newP O c = true) := newP_end (by rw [← HN.out]; exact hq)
        have hqe : cardIx O c.id = n := by have := HLE.out; omega
        rw [hqe]
        rw [HP.out, if_pos rfl] at HT
        clear hqe hq HLE HP
        have hqn : ((n : Int) == (n : Int)) = true := by simp
        go_wp2_with fail
        go_quiet (fail)
        have hvx := fun (k : Nat) => (HV.out _ (below_drewN (Below.refl w1.heap.size w1) k)).1
        go_wp2_with (at_builtin; refine wpList_push (by rfl) _ _ 25 (by rfl) w.heap.size 68 5 48 (.agg #[.int .i64 0, .int .i64 0, .int .i64 0, .bool false, .string ⟨#[]⟩]) Try.underlying25 (by kernel_rfl) rfl (by decide) ad N cap _ (by rfl) ((hvx _).keep ((Below.refl _ _).alloc (Nat.le_refl _) _)) _ _ c.cells (by rfl) rfl ?_ ?_ ?_ ?_ ?_ ?_; exact new_cells _ _ _; exact ones2 _; (omega); (omega); (simp; omega); intro ad' cap' w' hv' hb' hs')
        go_roundw
        case rel => exact ⟨i + 1, ad', cap', N + 1, by omega, by go_num, rfl, by rw [HT.out, List.length_append, ← HNN.out]; rfl, by omega, by rw [HT.out, ccells_app]; simpa [ccells] using hv', ((HV.out _ (below_drewN (Below.refl _ _) _)).2.1.alloc (HV.out _ (below_drewN (Below.refl _ _) _)).2.2 _).trans hb'⟩
        case measure => simp [intOf]; omega
    · obtain rfl : m = i := by omega
      have HE : Hid (newC O (R.take m) = newC O R) := by show _ = _; rw [HM.out, List.take_length]
      go_wp2_with fail
      go_ret
      exact ⟨ad, cap, N, rfl, by rw [← HE.out]; exact HNN.out, by rw [← HE.out]; exact hv, hb⟩
end Go.Proofs.Ytdjpkgaicmklmab

