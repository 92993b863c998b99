/- Texts of the proof, one behind the other; what each holds is said at its head. -/
import Derived.Test.YtdjpkgaicmklmaaPartReplaysupto6
import Derived.Deep.RegionLaw
import Derived.Test.YtdjpkgaicmklmaaPartReplaysupto7
import Derived.Test.YtdjpkgaicmklmaaPartReplaysupto4
import Derived.Test.YtdjpkgaicmklmaaPartReplaysupto5
import Derived.Test.YtdjpkgaicmklmaaPartReplaysupto1
/- The owner writes over what came out: (*parcellaw.own).replica, walked. -/
namespace Go.Proofs.Ytdjpkgaicmklmaa
open Go.RowKit

/-- The owner's variable and his books of replicas' lists. -/
structure OwnR (w : World) (B go : Nat) (n : Int) (a1 : Option Addr) (c1 : Nat) (L1 : List Bk) (a2 : Option Addr) (c2 : Nat) (L2 : List Bk) (a3 : Option Addr) (c3 : Nat) (L3 : List Bk) : Prop where
  o : Bx w go 41 [.int .i64 n, .slice a1 L1.length c1, .slice a2 L2.length c2, .slice a3 L3.length c3, .slice none 0 0, .slice none 0 0]
  b1 : Books ShCk w B 67 110 2 a1 c1 L1
  b2 : Books ShCd w B 69 146 5 a2 c2 L2
  b3 : Books ShEd w B 71 148 2 a3 c3 L3
theorem OwnR.keep {w w' : World} {B go : Nat} {n : Int} {a1 : Option Addr} {c1 : Nat} {L1 : List Bk} {a2 : Option Addr} {c2 : Nat} {L2 : List Bk} {a3 : Option Addr} {c3 : Nat} {L3 : List Bk} (h : OwnR w B go n a1 c1 L1 a2 c2 L2 a3 c3 L3) (hb : Below w.heap.size w w') : OwnR w' B go n a1 c1 L1 a2 c2 L2 a3 c3 L3 := ⟨h.o.below hb h.o.lt, h.b1.keep hb, h.b2.keep hb, h.b3.keep hb⟩
theorem Books.old {Sh : List Value → Prop} {w : World} {B e eb m : Nat} {ad : Option Addr} {cap : Nat} {L : List Bk} (h : Books Sh w B e eb m ad cap L) : ∀ x, x ∈ L → ∀ b, x.ad = some b → b.block < w.heap.size := by
  intro x hx b hb
  obtain ⟨_, cur, hc⟩ := (h.each x hx).vec.typed b.block (by rw [hb]; rfl)
  exact (Array.getElem?_eq_some_iff.1 hc).1

theorem bx_six {Sh : List Value → Prop} {w0 w X w6 : World} {B B1 go gm tT e eb m f gr tr : Nat} {oc mk row cs : List Value} {ad : Option Addr} {N cap : Nat} {a4 : Option Addr} {c4 : Nat} {L : List Bk} (hk : Kp (a4.map (·.block)) row X w6) (h : St Sh w0 w B B1 go gm tT e eb m f oc mk ad N cap a4 c4 L) (hG : Bx w gr tr cs) (hb : Below w.heap.size w X) (h1 : eb ≠ tr) : Bx w6 gr tr cs :=
  (hG.below hb hG.lt).kp hk ((hG.below hb hG.lt).apart (h.b.keep hb) h1)
theorem Bx.but3 {w w' : World} {k t go e eb : Nat} {cs : List Value} (b : Bx w k t cs) (hb : But3 go e eb w w') (hk : k ≠ go) (h1 : t ≠ e) (h2 : t ≠ eb) : Bx w' k t cs := ⟨hb.block k _ t hk b.h h1 h2⟩

set_option maxRecDepth 100000 in
set_option maxHeartbeats 4000000 in
theorem replica_any (w : World) (B B1 go : Nat) (n : Int) (ad : Option Addr) (N cap : Nat) (xs : List Value) (r2 : Option Addr) (N2 k2 : Nat) (xs2 : List Value) (r3 : Option Addr) (N3 k3 : Nat) (xs3 : List Value) (a4 : Option Addr) (c4 : Nat) (L : List Bk) (a2 : Option Addr) (c2 : Nat) (L2 : List Bk) (a3 : Option Addr) (c3 : Nat) (L3 : List Bk)
    (hOR : OwnR w B go n a4 c4 L a2 c2 L2 a3 c3 L3) (hfr0 : (∀ x, x ∈ L → ∀ b, x.ad = some b → b.block < B1) ∧ (∀ x, x ∈ L2 → ∀ b, x.ad = some b → b.block < B1) ∧ (∀ x, x ∈ L3 → ∀ b, x.ad = some b → b.block < B1))
    (hv0 : Vec w B1 67 2 ad N cap xs) (hv2 : Vec w B1 69 5 r2 N2 k2 xs2) (hv3 : Vec w B1 71 2 r3 N3 k3 xs3) (hN : N ≤ 1099511627776) (hN2 : N2 ≤ 1099511627776) (hN3 : N3 ≤ 1099511627776) (hL : L.length ≤ 1000) (hL2 : L2.length ≤ 1000) (hL3 : L3.length ≤ 1000) (hB : B ≤ go) (hB1 : B ≤ B1) (hn0 : 0 ≤ n) (hn1 : n ≤ 999) (hBw0 : B ≤ w.heap.size) (hB1w0 : B1 ≤ w.heap.size) :
    Calls Try.prog 45 #[.pointer (some ⟨go, 0, none⟩), .agg #[.slice ad N cap, .slice r2 N2 k2, .slice r3 N3 k3]] w fun e w' => (∃ v, e = .returned v) ∧ (∃ a5 c5 L5 a6 c6 L6 a7 c7 L7, (L5.length = L.length + 4 ∧ L6.length = L2.length + 4 ∧ L7.length = L3.length + 4) ∧ OwnR w' B go (n + 1) a5 c5 L5 a6 c6 L6 a7 c7 L7) ∧ Below B w w' ∧ (∀ g cs, Bx w g 75 cs → Bx w' g 75 cs) := by
  have hal : Below w.heap.size w (w.alloc (.cells #[.slice ad N cap, .slice r2 N2 k2, .slice r3 N3 k3] 26)) := (Below.refl _ _).alloc (Nat.le_refl _) _
  have HOR : Hid (OwnR (w.alloc (.cells #[.slice ad N cap, .slice r2 N2 k2, .slice r3 N3 k3] 26)) B go n a4 c4 L a2 c2 L2 a3 c3 L3) := hOR.keep hal
  have HV23 : Hid (Vec (w.alloc (.cells #[.slice ad N cap, .slice r2 N2 k2, .slice r3 N3 k3] 26)) B1 69 5 r2 N2 k2 xs2 ∧ Vec (w.alloc (.cells #[.slice ad N cap, .slice r2 N2 k2, .slice r3 N3 k3] 26)) B1 71 2 r3 N3 k3 xs3) := ⟨hv2.keep hal, hv3.keep hal⟩
  have HF23 : Hid ((∀ x, x ∈ L2 → ∀ b, x.ad = some b → b.block < B1) ∧ (∀ x, x ∈ L3 → ∀ b, x.ad = some b → b.block < B1)) := ⟨hfr0.2.1, hfr0.2.2⟩
  have HAL : Hid (Below B w (w.alloc (.cells #[.slice ad N cap, .slice r2 N2 k2, .slice r3 N3 k3] 26))) := hal.mono hBw0
  have hO := HOR.out.o
  have hK := HOR.out.b1
  have hfr := hfr0.1
  have hv := hv0.keep hal
  have hBw : B ≤ ((w.alloc (.cells #[.slice ad N cap, .slice r2 N2 k2, .slice r3 N3 k3] 26))).heap.size := Nat.le_trans hBw0 hal.size
  have hB1w : B1 ≤ ((w.alloc (.cells #[.slice ad N cap, .slice r2 N2 k2, .slice r3 N3 k3] 26))).heap.size := Nat.le_trans hB1w0 hal.size
  have hG0 := Bx.new w 26 #[.slice ad N cap, .slice r2 N2 k2, .slice r3 N3 k3]
  have HGL : Hid (w.heap.size < ((w.alloc (.cells #[.slice ad N cap, .slice r2 N2 k2, .slice r3 N3 k3] 26))).heap.size) := hG0.lt
  clear hOR hfr0 hv0 hv2 hv3 hal
  have o0 := hO.cell 0
  dsimp only [List.getElem?_cons_zero] at o0
  have hU : Upd go (w.alloc (.cells #[.slice ad N cap, .slice r2 N2 k2, .slice r3 N3 k3] 26)) (w.alloc (.cells #[.slice ad N cap, .slice r2 N2 k2, .slice r3 N3 k3] 26)) := Upd.refl go _
  go_enter Try.func45, Try.ntmps45
  go_wp2_with (refine wpList_bput (by rfl) _ _ 3 (by rfl) go 41 0 (by rfl) _ (.int .i64 _) (by rfl) hO (by kernel_rfl) (by simp) (by rfl) (by rfl) ?_; intro w1 hO1 hU1; replace hU := hU.trans hU1; clear o0; dsimp only [List.set] at hO1; have o0 := hO1.cell 0; dsimp only [List.getElem?_cons_zero] at o0)
  clear hU1
  obtain ⟨hM, hW2, hB2⟩ := one_box w1 67 ([.int .i64 (-(n + 1)), .int .i64 0] : List Value).toArray
  have z1 := hU.size
  have hU0 : Hid (Upd go (w.alloc (.cells #[.slice ad N cap, .slice r2 N2 k2, .slice r3 N3 k3] 26)) w1) := hU
  have HGN : Hid (w.heap.size ≠ go) := fun e => by have := hO.h; rw [← e, hG0.h] at this; simp at this
  have HGA : Hid (ad.map (·.block) ≠ some w.heap.size) := hG0.apart hv (by decide)
  have hG := hG0.upd hU HGN.out
  clear hG0
  go_loopw [5] (fun u wr => ∃ (i : Nat) (ys : List Value), i ≤ N ∧ u = .int .i64 i ∧ Vec wr B1 67 2 ad N cap (rep i [.int .i64 (-(n + 1)), .int .i64 0] ++ ys) ∧ Upo (ad.map (·.block)) (w1.alloc (.cells ([.int .i64 (-(n + 1)), .int .i64 0] : List Value).toArray 67)) wr) (fun u _ => N - (intOf u).toNat)
  case atStart => exact ⟨0, xs, Nat.zero_le _, rfl, by rw [rep_zero, List.nil_append]; exact (hv.updo hU0.out (fun b hb e1 => hO.apart hv (by decide) (by rw [hb]; simp [e1]))).keep ((Below.refl _ _).alloc (Nat.le_refl _) _), Upo.refl _ _⟩
  case round =>
    obtain ⟨i, ys, hi, rfl, hvi, hup⟩ := hrel
    have hGr := (hG.alloc (.cells ([.int .i64 (-(n + 1)), .int .i64 0] : List Value).toArray 67)).upo hup HGA.out
    have g0 := hGr.cell 0
    dsimp only [List.getElem?_cons_zero] at g0
    by_cases hlt : i < N
    · obtain ⟨g, hgd, hgB, hgl⟩ := hvi.form (by omega)
      have HG : Hid (ad = some ⟨g, 0, none⟩) := hgd
      have hgw : g < w1.heap.size := by
        obtain ⟨_, cur, hc⟩ := hv.typed g (by rw [hgd]; rfl)
        rw [z1]; exact (Array.getElem?_eq_some_iff.1 hc).1
      have hMr := hM.upo hup (by rw [hgd]; simp; omega)
      have hix := Own.idx (P := Try.prog) (t := 22) (m := 2) HG N cap (by kernel_rfl) (by kernel_rfl) hlt (i : Int) rfl
      clear hgd
      go_wp2_with (first
        | (refine wpList_bload (by rfl) _ _ (by rfl) w1.heap.size 67 (by rfl) _ hMr _ Try.underlying67 (by rfl) 2 (by rfl) (by kernel_rfl) ?_)
        | (refine wpList_vstore (by rfl) _ _ 67 (by rfl) B1 67 2 (by kernel_rfl) ad N cap [.int .i64 (-(n + 1)), .int .i64 0] ys i g HG hvi hlt (by rfl) (by intro v h; simp at h; rcases h with rfl | rfl <;> rfl) (by rfl) (by rfl) ?_; intro w5 hv5 hu5))
      have hup2 := hup.upd hu5 (by rw [HG.out]; rfl)
      go_roundw
      case rel => first | exact ⟨i + 1, by omega, by go_num, ⟨_, hv5⟩, hup2⟩ | exact ⟨i + 1, _, by omega, by go_num, hv5, hup2⟩
      case measure => simp [intOf]; omega
    · have hiN : i = N := by omega
      subst hiN
      have hy : ys = [] := by
        have := hvi.length
        rw [List.length_append, rep_length] at this
        exact List.eq_nil_of_length_eq_zero (by simp at this ⊢; omega)
      subst hy
      rw [List.append_nil] at hvi
      have hS := St.start (f := 1) hO hO1 hU0.out hK hfr hv hup hvi (by rfl) (by rfl) hB hB1 hBw (by decide) (by decide) (by decide)
      have hwz : B ≤ wr.heap.size := Nat.le_trans hBw hS.old.size
      have HLL : Hid (L.length = L.length) := rfl
      clear hO hO1 hU0 hK hfr hv hup hvi hM hW2 hB2 hU o0 z1 hi hlt hG
      generalize w1.heap.size = gm at *
      generalize hWW : wr = W at *
      clear hWW
      have hG := hGr
      clear hGr
      obtain ⟨L0, hL0⟩ : ∃ L0, L0 = L.length := ⟨_, rfl⟩
      replace HLL : Hid (L.length = L0) := hL0.symm
      have HL0 : Hid (L0 = L.length) := hL0
      have hLb : L0 ≤ 1000 := by omega
      clear hL0
      go_wp2_with fail
      have hR : Reads1 ShCk W B 67 2 ⟨ad, i, cap, [.int .i64 (-(n + 1)), .int .i64 0]⟩ := ⟨rfl, hS.l.mono hB1, by simp only; omega, ⟨⟨-(n + 1), 0⟩, rfl⟩⟩
      apply merge
      · intro KEY
        have cf := hS.o.cell 1
        have g0 := hG.cell 0
        have g0a : ∀ o, (W.alloc o).cell? ⟨w.heap.size, 0, none⟩ = some (.slice ad i cap) := fun o => (hG.alloc o).cell 0
        have cfa : ∀ o, (W.alloc o).cell? ⟨go, 1, none⟩ = some (.slice a4 L.length c4) := fun o => (hS.o.alloc o).cell 1
        have m0 := hS.k.cell 0
        have m1 := hS.k.cell 1
        dsimp only [List.getElem?_cons_zero, List.getElem?_cons_succ] at cf g0 m0 m1
        have HV : Hid (∀ wX, Below W.heap.size W wX → Vec wX B 110 (2 + 1) a4 L.length c4 (bcells L)) := fun wX hX => hS.b.keep hX
        go_region_law (refine step_pushk (by rfl) _ _ 35 (by rfl) B 110 (2 + 1) 40 (.agg #[.slice none 0 0, .int .i64 0, .int .i64 0]) Try.underlying35 (by kernel_rfl) rfl (by decide) a4 L.length c4 _ (by rfl) (HV.out _ ?_) _ _ (Bk.cells (⟨ad, i, cap, [.int .i64 (-(n + 1)), .int .i64 0]⟩ : Bk)) (by rfl) rfl ?_ ?_ ?_ ?_ ?_ ?_; (repeat (first | exact Below.refl _ _ | refine Below.drew ?_ | refine Below.alloc ?_ (by first | omega | (simp; done) | (simp; omega)) _)); (exact newc1 _ _ _); (intro v h; simp at h; rcases h with rfl | rfl | rfl <;> rfl); (omega); (omega); (simp; omega); intro a5 c5 w6 hv6 hk6; obtain ⟨hR6, hX6, hS6, hr6, hf6⟩ := St.six hk6 hS (by repeat (first | exact Below.refl _ _ | refine Below.drew ?_ | refine Below.alloc ?_ (by first | omega | (simp; done) | (simp; omega)) _)) hwz (by decide) hR; have hG6 := bx_six hk6 hS hG (by repeat (first | exact Below.refl _ _ | refine Below.drew ?_ | refine Below.alloc ?_ (by first | omega | (simp; done) | (simp; omega)) _)) (by decide))
        all_goals
          have hS7 := hS6.book hv6 hk6 hR6 rfl (by decide) (by decide) (by decide) (by simp) hX6
          have hz7 : B ≤ (w6.setCell ⟨go, 1, none⟩ (.slice a5 (L.length + 1) c5)).heap.size := by simp; exact Nat.le_trans hX6 hk6.size
          have hG7 := hG6.upd ((Upd.refl go w6).setCell ⟨go, 1, none⟩ rfl (.slice a5 (L.length + 1) c5)) HGN.out
          dsimp only [List.set] at hS7
          have hl7 : (L ++ [(⟨ad, i, cap, [.int .i64 (-(n + 1)), .int .i64 0]⟩ : Bk)]).length = L.length + 1 := by simp
          generalize (w6.setCell ⟨go, 1, none⟩ (.slice a5 (L.length + 1) c5)) = W1 at hS7 hz7 hG7 ⊢
          generalize L ++ [(⟨ad, i, cap, [.int .i64 (-(n + 1)), .int .i64 0]⟩ : Bk)] = L1 at hS7 hl7
          clear hv6 hk6 hr6 hf6 hS6 hR6 hX6 hG6
          revert a5 c5 W1 L1
          exact KEY.out
      intro a5 c5 W1 hz7 hG7 L1 hS7 hl7
      clear hS hwz hR hG g0
      rw [← hl7] at hS7 ⊢
      have hl9 := HLL.out
      replace HLL : Hid (L1.length = L0 + 1) := by show _ = _; omega
      have hL1 : L1.length ≤ 1004 := by have := HLL.out; omega
      clear hl7 hl9 hL
      generalize hLq : L1 = L at *
      clear hLq
      have hL : L.length ≤ 1004 := hL1
      clear hL1
      generalize hWq : W1 = W at *
      clear hWq
      generalize hAq : a5 = a4 at *
      clear hAq
      generalize hCq : c5 = c4 at *
      clear hCq
      have hS := hS7
      have hwz := hz7
      have hG := hG7
      have g0 := hG.cell 0
      dsimp only [List.getElem?_cons_zero] at g0
      clear hS7 hz7 hG7
      go_wp2_with (first
        | (refine wpList_bload (by rfl) _ _ (by rfl) gm 67 (by rfl) _ hS.k _ Try.underlying67 (by rfl) 2 (by rfl) (by kernel_rfl) ?_)
        | (at_builtin; refine wpList_pushk (by rfl) _ _ 22 (by rfl) B1 67 2 16 (.agg #[.int .i64 0, .int .i64 0]) Try.underlying22 (by kernel_rfl) rfl (by decide) ad i cap _ (by rfl) (hS.l.keep ((Below.refl _ _).alloc (Nat.le_refl _) _)) _ 1 1 [.int .i64 (-(n + 1)), .int .i64 0] (by rfl) rfl ?_ ?_ ?_ ?_ ?_ ?_ ?_; exact newc1 _ (rep 1 [.int .i64 (-(n + 1)), .int .i64 0]) _; (intro v h; simp at h; rcases h with rfl | rfl <;> rfl); (omega); (omega); (omega); (have := hS.old.size; simp; omega); intro a6 c6 w7 hv7 hk7))
      rw [← rep_add] at hv7
      have hS8 := (hS.step ((Below.refl _ _).alloc (Nat.le_refl _) _) hwz).push hk7 (by decide) (by decide) (by simp; omega)
      have hR : Reads1 ShCk w7 B 67 2 ⟨a6, i + 1, c6, [.int .i64 (-(n + 1)), .int .i64 0]⟩ := ⟨rfl, hv7.mono hB1, by simp only; omega, ⟨⟨-(n + 1), 0⟩, rfl⟩⟩
      have hz8 : B ≤ w7.heap.size := by have := hk7.size; simp at this; omega
      have hG8 := (hG.alloc (.cells (rep 1 [.int .i64 (-(n + 1)), .int .i64 0]).toArray 67)).kp hk7 HGA.out
      clear hS hwz hv7 hk7 hG g0
      have hS := hS8
      have hwz := hz8
      have hG := hG8
      have g0 := hG.cell 0
      dsimp only [List.getElem?_cons_zero] at g0
      clear hS8 hz8 hG8
      generalize hWq : w7 = W at *
      clear hWq
      apply merge
      · intro KEY
        have cf := hS.o.cell 1
        have g0 := hG.cell 0
        have g0a : ∀ o, (W.alloc o).cell? ⟨w.heap.size, 0, none⟩ = some (.slice ad i cap) := fun o => (hG.alloc o).cell 0
        have cfa : ∀ o, (W.alloc o).cell? ⟨go, 1, none⟩ = some (.slice a4 L.length c4) := fun o => (hS.o.alloc o).cell 1
        have m0 := hS.k.cell 0
        have m1 := hS.k.cell 1
        dsimp only [List.getElem?_cons_zero, List.getElem?_cons_succ] at cf g0 m0 m1
        have HV : Hid (∀ wX, Below W.heap.size W wX → Vec wX B 110 (2 + 1) a4 L.length c4 (bcells L)) := fun wX hX => hS.b.keep hX
        go_region_law (refine step_pushk (by rfl) _ _ 35 (by rfl) B 110 (2 + 1) 40 (.agg #[.slice none 0 0, .int .i64 0, .int .i64 0]) Try.underlying35 (by kernel_rfl) rfl (by decide) a4 L.length c4 _ (by rfl) (HV.out _ ?_) _ _ (Bk.cells (⟨a6, i + 1, c6, [.int .i64 (-(n + 1)), .int .i64 0]⟩ : Bk)) (by rfl) rfl ?_ ?_ ?_ ?_ ?_ ?_; (repeat (first | exact Below.refl _ _ | refine Below.drew ?_ | refine Below.alloc ?_ (by first | omega | (simp; done) | (simp; omega)) _)); (exact newc1 _ _ _); (intro v h; simp at h; rcases h with rfl | rfl | rfl <;> rfl); (omega); (omega); (simp; omega); intro a5 c5 w6 hv6 hk6; obtain ⟨hR6, hX6, hS6, hr6, hf6⟩ := St.six hk6 hS (by repeat (first | exact Below.refl _ _ | refine Below.drew ?_ | refine Below.alloc ?_ (by first | omega | (simp; done) | (simp; omega)) _)) hwz (by decide) hR; have hG6 := bx_six hk6 hS hG (by repeat (first | exact Below.refl _ _ | refine Below.drew ?_ | refine Below.alloc ?_ (by first | omega | (simp; done) | (simp; omega)) _)) (by decide))
        all_goals
          have hS7 := hS6.book hv6 hk6 hR6 rfl (by decide) (by decide) (by decide) (by simp) hX6
          have hz7 : B ≤ (w6.setCell ⟨go, 1, none⟩ (.slice a5 (L.length + 1) c5)).heap.size := by simp; exact Nat.le_trans hX6 hk6.size
          have hG7 := hG6.upd ((Upd.refl go w6).setCell ⟨go, 1, none⟩ rfl (.slice a5 (L.length + 1) c5)) HGN.out
          dsimp only [List.set] at hS7
          have hl7 : (L ++ [(⟨a6, i + 1, c6, [.int .i64 (-(n + 1)), .int .i64 0]⟩ : Bk)]).length = L.length + 1 := by simp
          generalize (w6.setCell ⟨go, 1, none⟩ (.slice a5 (L.length + 1) c5)) = W1 at hS7 hz7 hG7 ⊢
          generalize L ++ [(⟨a6, i + 1, c6, [.int .i64 (-(n + 1)), .int .i64 0]⟩ : Bk)] = L1 at hS7 hl7
          clear hv6 hk6 hr6 hf6 hS6 hR6 hX6 hG6
          revert a5 c5 W1 L1
          exact KEY.out
      intro a5 c5 W1 hz7 hG7 L1 hS7 hl7
      clear hS hwz hR hG g0
      rw [← hl7] at hS7 ⊢
      have hl9 := HLL.out
      replace HLL : Hid (L1.length = L0 + 2) := by show _ = _; omega
      have hL1 : L1.length ≤ 1004 := by have := HLL.out; omega
      clear hl7 hl9 hL
      generalize hLq : L1 = L at *
      clear hLq
      have hL : L.length ≤ 1004 := hL1
      clear hL1
      generalize hWq : W1 = W at *
      clear hWq
      generalize hAq : a5 = a4 at *
      clear hAq
      generalize hCq : c5 = c4 at *
      clear hCq
      have hS := hS7
      have hwz := hz7
      have hG := hG7
      have g0 := hG.cell 0
      dsimp only [List.getElem?_cons_zero] at g0
      clear hS7 hz7 hG7
      go_wp2_with (first
        | (refine wpList_bload (by rfl) _ _ (by rfl) gm 67 (by rfl) _ hS.k _ Try.underlying67 (by rfl) 2 (by rfl) (by kernel_rfl) ?_)
        | (at_builtin; refine wpList_pushk (by rfl) _ _ 22 (by rfl) B1 67 2 16 (.agg #[.int .i64 0, .int .i64 0]) Try.underlying22 (by kernel_rfl) rfl (by decide) ad i cap _ (by rfl) (hS.l.keep ((Below.refl _ _).alloc (Nat.le_refl _) _)) _ 2 2 [.int .i64 (-(n + 1)), .int .i64 0] (by rfl) rfl ?_ ?_ ?_ ?_ ?_ ?_ ?_; exact newc1 _ (rep 2 [.int .i64 (-(n + 1)), .int .i64 0]) _; (intro v h; simp at h; rcases h with rfl | rfl <;> rfl); (omega); (omega); (omega); (have := hS.old.size; simp; omega); intro a6 c6 w7 hv7 hk7))
      rw [← rep_add] at hv7
      have hS8 := (hS.step ((Below.refl _ _).alloc (Nat.le_refl _) _) hwz).push hk7 (by decide) (by decide) (by simp; omega)
      have hR : Reads1 ShCk w7 B 67 2 ⟨a6, i + 2, c6, [.int .i64 (-(n + 1)), .int .i64 0]⟩ := ⟨rfl, hv7.mono hB1, by simp only; omega, ⟨⟨-(n + 1), 0⟩, rfl⟩⟩
      have hz8 : B ≤ w7.heap.size := by have := hk7.size; simp at this; omega
      have hG8 := (hG.alloc (.cells (rep 2 [.int .i64 (-(n + 1)), .int .i64 0]).toArray 67)).kp hk7 HGA.out
      clear hS hwz hv7 hk7 hG g0
      have hS := hS8
      have hwz := hz8
      have hG := hG8
      have g0 := hG.cell 0
      dsimp only [List.getElem?_cons_zero] at g0
      clear hS8 hz8 hG8
      generalize hWq : w7 = W at *
      clear hWq
      apply merge
      · intro KEY
        have cf := hS.o.cell 1
        have g0 := hG.cell 0
        have g0a : ∀ o, (W.alloc o).cell? ⟨w.heap.size, 0, none⟩ = some (.slice ad i cap) := fun o => (hG.alloc o).cell 0
        have cfa : ∀ o, (W.alloc o).cell? ⟨go, 1, none⟩ = some (.slice a4 L.length c4) := fun o => (hS.o.alloc o).cell 1
        have m0 := hS.k.cell 0
        have m1 := hS.k.cell 1
        dsimp only [List.getElem?_cons_zero, List.getElem?_cons_succ] at cf g0 m0 m1
        have HV : Hid (∀ wX, Below W.heap.size W wX → Vec wX B 110 (2 + 1) a4 L.length c4 (bcells L)) := fun wX hX => hS.b.keep hX
        go_region_law (refine step_pushk (by rfl) _ _ 35 (by rfl) B 110 (2 + 1) 40 (.agg #[.slice none 0 0, .int .i64 0, .int .i64 0]) Try.underlying35 (by kernel_rfl) rfl (by decide) a4 L.length c4 _ (by rfl) (HV.out _ ?_) _ _ (Bk.cells (⟨a6, i + 2, c6, [.int .i64 (-(n + 1)), .int .i64 0]⟩ : Bk)) (by rfl) rfl ?_ ?_ ?_ ?_ ?_ ?_; (repeat (first | exact Below.refl _ _ | refine Below.drew ?_ | refine Below.alloc ?_ (by first | omega | (simp; done) | (simp; omega)) _)); (exact newc1 _ _ _); (intro v h; simp at h; rcases h with rfl | rfl | rfl <;> rfl); (omega); (omega); (simp; omega); intro a5 c5 w6 hv6 hk6; obtain ⟨hR6, hX6, hS6, hr6, hf6⟩ := St.six hk6 hS (by repeat (first | exact Below.refl _ _ | refine Below.drew ?_ | refine Below.alloc ?_ (by first | omega | (simp; done) | (simp; omega)) _)) hwz (by decide) hR; have hG6 := bx_six hk6 hS hG (by repeat (first | exact Below.refl _ _ | refine Below.drew ?_ | refine Below.alloc ?_ (by first | omega | (simp; done) | (simp; omega)) _)) (by decide))
        all_goals
          have hS7 := hS6.book hv6 hk6 hR6 rfl (by decide) (by decide) (by decide) (by simp) hX6
          have hz7 : B ≤ (w6.setCell ⟨go, 1, none⟩ (.slice a5 (L.length + 1) c5)).heap.size := by simp; exact Nat.le_trans hX6 hk6.size
          have hG7 := hG6.upd ((Upd.refl go w6).setCell ⟨go, 1, none⟩ rfl (.slice a5 (L.length + 1) c5)) HGN.out
          dsimp only [List.set] at hS7
          have hl7 : (L ++ [(⟨a6, i + 2, c6, [.int .i64 (-(n + 1)), .int .i64 0]⟩ : Bk)]).length = L.length + 1 := by simp
          generalize (w6.setCell ⟨go, 1, none⟩ (.slice a5 (L.length + 1) c5)) = W1 at hS7 hz7 hG7 ⊢
          generalize L ++ [(⟨a6, i + 2, c6, [.int .i64 (-(n + 1)), .int .i64 0]⟩ : Bk)] = L1 at hS7 hl7
          clear hv6 hk6 hr6 hf6 hS6 hR6 hX6 hG6
          revert a5 c5 W1 L1
          exact KEY.out
      intro a5 c5 W1 hz7 hG7 L1 hS7 hl7
      clear hS hwz hR hG g0
      rw [← hl7] at hS7 ⊢
      have hl9 := HLL.out
      replace HLL : Hid (L1.length = L0 + 3) := by show _ = _; omega
      have hL1 : L1.length ≤ 1004 := by have := HLL.out; omega
      clear hl7 hl9 hL
      generalize hLq : L1 = L at *
      clear hLq
      have hL : L.length ≤ 1004 := hL1
      clear hL1
      generalize hWq : W1 = W at *
      clear hWq
      generalize hAq : a5 = a4 at *
      clear hAq
      generalize hCq : c5 = c4 at *
      clear hCq
      have hS := hS7
      have hwz := hz7
      have hG := hG7
      have g0 := hG.cell 0
      dsimp only [List.getElem?_cons_zero] at g0
      clear hS7 hz7 hG7
      go_wp2_with (first
        | (refine wpList_bload (by rfl) _ _ (by rfl) gm 67 (by rfl) _ hS.k _ Try.underlying67 (by rfl) 2 (by rfl) (by kernel_rfl) ?_)
        | (at_builtin; refine wpList_pushk (by rfl) _ _ 22 (by rfl) B1 67 2 16 (.agg #[.int .i64 0, .int .i64 0]) Try.underlying22 (by kernel_rfl) rfl (by decide) ad i cap _ (by rfl) (hS.l.keep ((Below.refl _ _).alloc (Nat.le_refl _) _)) _ 3 3 [.int .i64 (-(n + 1)), .int .i64 0] (by rfl) rfl ?_ ?_ ?_ ?_ ?_ ?_ ?_; exact newc1 _ (rep 3 [.int .i64 (-(n + 1)), .int .i64 0]) _; (intro v h; simp at h; rcases h with rfl | rfl <;> rfl); (omega); (omega); (omega); (have := hS.old.size; simp; omega); intro a6 c6 w7 hv7 hk7))
      rw [← rep_add] at hv7
      have hS8 := (hS.step ((Below.refl _ _).alloc (Nat.le_refl _) _) hwz).push hk7 (by decide) (by decide) (by simp; omega)
      have hR : Reads1 ShCk w7 B 67 2 ⟨a6, i + 3, c6, [.int .i64 (-(n + 1)), .int .i64 0]⟩ := ⟨rfl, hv7.mono hB1, by simp only; omega, ⟨⟨-(n + 1), 0⟩, rfl⟩⟩
      have hz8 : B ≤ w7.heap.size := by have := hk7.size; simp at this; omega
      have hG8 := (hG.alloc (.cells (rep 3 [.int .i64 (-(n + 1)), .int .i64 0]).toArray 67)).kp hk7 HGA.out
      clear hS hwz hv7 hk7 hG g0
      have hS := hS8
      have hwz := hz8
      have hG := hG8
      have g0 := hG.cell 0
      dsimp only [List.getElem?_cons_zero] at g0
      clear hS8 hz8 hG8
      generalize hWq : w7 = W at *
      clear hWq
      apply merge
      · intro KEY
        have cf := hS.o.cell 1
        have g0 := hG.cell 0
        have g0a : ∀ o, (W.alloc o).cell? ⟨w.heap.size, 0, none⟩ = some (.slice ad i cap) := fun o => (hG.alloc o).cell 0
        have cfa : ∀ o, (W.alloc o).cell? ⟨go, 1, none⟩ = some (.slice a4 L.length c4) := fun o => (hS.o.alloc o).cell 1
        have m0 := hS.k.cell 0
        have m1 := hS.k.cell 1
        dsimp only [List.getElem?_cons_zero, List.getElem?_cons_succ] at cf g0 m0 m1
        have HV : Hid (∀ wX, Below W.heap.size W wX → Vec wX B 110 (2 + 1) a4 L.length c4 (bcells L)) := fun wX hX => hS.b.keep hX
        go_region_law (refine step_pushk (by rfl) _ _ 35 (by rfl) B 110 (2 + 1) 40 (.agg #[.slice none 0 0, .int .i64 0, .int .i64 0]) Try.underlying35 (by kernel_rfl) rfl (by decide) a4 L.length c4 _ (by rfl) (HV.out _ ?_) _ _ (Bk.cells (⟨a6, i + 3, c6, [.int .i64 (-(n + 1)), .int .i64 0]⟩ : Bk)) (by rfl) rfl ?_ ?_ ?_ ?_ ?_ ?_; (repeat (first | exact Below.refl _ _ | refine Below.drew ?_ | refine Below.alloc ?_ (by first | omega | (simp; done) | (simp; omega)) _)); (exact newc1 _ _ _); (intro v h; simp at h; rcases h with rfl | rfl | rfl <;> rfl); (omega); (omega); (simp; omega); intro a5 c5 w6 hv6 hk6; obtain ⟨hR6, hX6, hS6, hr6, hf6⟩ := St.six hk6 hS (by repeat (first | exact Below.refl _ _ | refine Below.drew ?_ | refine Below.alloc ?_ (by first | omega | (simp; done) | (simp; omega)) _)) hwz (by decide) hR; have hG6 := bx_six hk6 hS hG (by repeat (first | exact Below.refl _ _ | refine Below.drew ?_ | refine Below.alloc ?_ (by first | omega | (simp; done) | (simp; omega)) _)) (by decide))
        all_goals
          have hS7 := hS6.book hv6 hk6 hR6 rfl (by decide) (by decide) (by decide) (by simp) hX6
          have hz7 : B ≤ (w6.setCell ⟨go, 1, none⟩ (.slice a5 (L.length + 1) c5)).heap.size := by simp; exact Nat.le_trans hX6 hk6.size
          have hG7 := hG6.upd ((Upd.refl go w6).setCell ⟨go, 1, none⟩ rfl (.slice a5 (L.length + 1) c5)) HGN.out
          dsimp only [List.set] at hS7
          have hl7 : (L ++ [(⟨a6, i + 3, c6, [.int .i64 (-(n + 1)), .int .i64 0]⟩ : Bk)]).length = L.length + 1 := by simp
          generalize (w6.setCell ⟨go, 1, none⟩ (.slice a5 (L.length + 1) c5)) = W1 at hS7 hz7 hG7 ⊢
          generalize L ++ [(⟨a6, i + 3, c6, [.int .i64 (-(n + 1)), .int .i64 0]⟩ : Bk)] = L1 at hS7 hl7
          clear hv6 hk6 hr6 hf6 hS6 hR6 hX6 hG6
          revert a5 c5 W1 L1
          exact KEY.out
      intro a5 c5 W1 hz7 hG7 L1 hS7 hl7
      clear hS hwz hR hG g0
      rw [← hl7] at hS7 ⊢
      have hl9 := HLL.out
      replace HLL : Hid (L1.length = L0 + 4) := by show _ = _; omega
      have hL1 : L1.length ≤ 1004 := by have := HLL.out; omega
      clear hl7 hl9 hL
      generalize hLq : L1 = L at *
      clear hLq
      have hL : L.length ≤ 1004 := hL1
      clear hL1
      generalize hWq : W1 = W at *
      clear hWq
      generalize hAq : a5 = a4 at *
      clear hAq
      generalize hCq : c5 = c4 at *
      clear hCq
      have hS := hS7
      have hwz := hz7
      have hG := hG7
      have g0 := hG.cell 0
      dsimp only [List.getElem?_cons_zero] at g0
      clear hS7 hz7 hG7
      have HW : Hid (B1 ≤ W.heap.size) := Nat.le_trans hB1w hS.old.size
      have hk2 := HOR.out.b2.but3 hS.but HOR.out.o (by decide) (by decide) (by decide) (by decide) (by decide) (by decide)
      have hk3 := HOR.out.b3.but3 hS.but HOR.out.o (by decide) (by decide) (by decide) (by decide) (by decide) (by decide)
      have hw2 := HV23.out.1.but3 hS.but (by decide) (by decide) (fun q hq e => HOR.out.o.apart HV23.out.1 (by decide) (by rw [hq, e]))
      have hw3 := HV23.out.2.but3 hS.but (by decide) (by decide) (fun q hq e => HOR.out.o.apart HV23.out.2 (by decide) (by rw [hq, e]))
      have hk1 : Books ShCk W B 67 110 2 a4 c4 L := ⟨hS.b, fun x hx => (hS.each x hx).1⟩
      have ho1 := hS.o
      have HLK1 : Hid (∀ g cs, Bx w g 75 cs → Bx W g 75 cs ∧ g ≠ go) := fun g cs h => by
        have hne : g ≠ go := fun e => by have := HOR.out.o.h; rw [← e, (h.alloc _).h] at this; simp at this
        exact ⟨(h.alloc _).but3 hS.but hne (by decide) (by decide), hne⟩
      have HB1 : Hid (Below B w W) := HAL.out.trans hS.old
      have g1 := hG.cell 1
      dsimp only [List.getElem?_cons_zero, List.getElem?_cons_succ] at g1
      have H1 : Hid (Books ShCk W B 67 110 2 a4 c4 L ∧ Books ShCd W B 69 146 5 a2 c2 L2 ∧ Books ShEd W B 71 148 2 a3 c3 L3 ∧ Vec W B1 69 5 r2 N2 k2 xs2 ∧ Vec W B1 71 2 r3 N3 k3 xs3) := ⟨hk1, hk2, hk3, hw2, hw3⟩
      clear hk1 hk2 hk3 hw2 hw3 hS g0
      go_wp2_with fail
      refine (ofCards_any _ B B1 go (n + 1) _ _ _ _ r2 N2 k2 xs2 a2 c2 L2 ho1 H1.out.2.1 HF23.out.1 H1.out.2.2.2.1 hN2 hL2 hB hB1 (by omega) (by omega) hwz HW.out).mono ?_
      rintro e w7 ⟨⟨v, rfl⟩, ⟨a5, c5, L5, hL5, ho5, hk5⟩, hb5, ht5⟩
      have hG5 := hG.but3 ht5 HGN.out (by decide) (by decide)
      have H2 : Hid (Books ShCk w7 B 67 110 2 a4 c4 L ∧ Books ShCd w7 B 69 146 5 a5 c5 L5 ∧ Books ShEd w7 B 71 148 2 a3 c3 L3 ∧ Vec w7 B1 71 2 r3 N3 k3 xs3) :=
        ⟨H1.out.1.but3 ht5 ho1 (by decide) (by decide) (by decide) (by decide) (by decide) (by decide), hk5, H1.out.2.2.1.but3 ht5 ho1 (by decide) (by decide) (by decide) (by decide) (by decide) (by decide), H1.out.2.2.2.2.but3 ht5 (by decide) (by decide) (fun q hq e => ho1.apart H1.out.2.2.2.2 (by decide) (by rw [hq, e]))⟩
      have HB2 : Hid (Below B w w7 ∧ W.heap.size ≤ w7.heap.size) := ⟨HB1.out.trans hb5, ht5.size⟩
      have HL5 : Hid (L5.length = L2.length + 4) := hL5
      have HLK2 : Hid (∀ g cs, Bx w g 75 cs → Bx w7 g 75 cs ∧ g ≠ go) := fun g cs h => ⟨(HLK1.out g cs h).1.but3 ht5 (HLK1.out g cs h).2 (by decide) (by decide), (HLK1.out g cs h).2⟩
      have g2 := hG5.cell 2
      dsimp only [List.getElem?_cons_zero, List.getElem?_cons_succ] at g2
      clear hG hk5 hb5 ht5 hL5 ho1 g1
      go_wp2_with fail
      refine (ofEdits_any _ B B1 go (n + 1) _ _ _ _ r3 N3 k3 xs3 a3 c3 L3 ho5 H2.out.2.2.1 HF23.out.2 H2.out.2.2.2 hN3 hL3 hB hB1 (by omega) (by omega) (Nat.le_trans hwz HB2.out.2) (Nat.le_trans HW.out HB2.out.2)).mono ?_
      rintro e w8 ⟨⟨v, rfl⟩, ⟨a6, c6, L6, hL6, ho6, hk6⟩, hb6, ht6⟩
      have HF : Hid (OwnR w8 B go (n + 1) a4 c4 L a5 c5 L5 a6 c6 L6 ∧ Below B w w8) := ⟨⟨ho6, H2.out.1.but3 ht6 ho5 (by decide) (by decide) (by decide) (by decide) (by decide) (by decide), H2.out.2.1.but3 ht6 ho5 (by decide) (by decide) (by decide) (by decide) (by decide) (by decide), hk6⟩, HB2.out.1.trans hb6⟩
      have HL6 : Hid (L6.length = L3.length + 4) := hL6
      have HLK3 : Hid (∀ g cs, Bx w g 75 cs → Bx w8 g 75 cs) := fun g cs h => (HLK2.out g cs h).1.but3 ht6 (HLK2.out g cs h).2 (by decide) (by decide)
      clear hk6 hb6 ht6 ho6 ho5 hL6
      go_wp2_with fail
      exact bodyPost_end (results_none rfl _ _ _) rfl ⟨⟨_, rfl⟩, ⟨a4, c4, L, a5, c5, L5, a6, c6, L6, ⟨by rw [HLL.out, HL0.out], HL5.out, HL6.out⟩, HF.out.1⟩, HF.out.2, HLK3.out⟩
end Go.Proofs.Ytdjpkgaicmklmaa

/- own.replicasKept, walked: each book's list reads its mark. -/
namespace Go.Proofs.Ytdjpkgaicmklmaa
open Go.RowKit

set_option maxRecDepth 100000 in
set_option maxHeartbeats 4000000 in
theorem rkept_any (w : World) (B go : Nat) (n : Int) (a1 : Option Addr) (c1 : Nat) (L1 : List Bk) (a2 : Option Addr) (c2 : Nat) (L2 : List Bk) (a3 : Option Addr) (c3 : Nat) (L3 : List Bk) (hO : OwnR w B go n a1 c1 L1 a2 c2 L2 a3 c3 L3) (hL1 : L1.length ≤ 1004) (hL2 : L2.length ≤ 1004) (hL3 : L3.length ≤ 1004) :
    Calls Try.prog 94 #[.pointer (some ⟨go, 0, none⟩)] w fun e w' => e = .returned (.bool true) ∧ Below w.heap.size w w' := by
  go_enter Try.func94, Try.ntmps94
  go_wp2_with fail
  go_loopw [3, 4] (fun u _ wr => ∃ i : Nat, i ≤ L1.length ∧ u = .int .i64 i ∧ Below w.heap.size w wr) (fun u _ _ => L1.length - (intOf u).toNat)
  case atStart => exact ⟨0, Nat.zero_le _, rfl, Below.refl _ _⟩
  case round =>
    obtain ⟨i, hi, rfl, hbr⟩ := hrel
    have hOr := hO.keep hbr
    have cf := hOr.o.cell 1
    have HBR : Hid (Below w.heap.size w wr) := hbr
    dsimp only [List.getElem?_cons_zero, List.getElem?_cons_succ] at cf
    by_cases hlt : i < L1.length
    · have hx := hOr.b1.each L1[i] (List.getElem_mem hlt)
      obtain ⟨b, o, hbl, hix, hc⟩ := (books_lies hOr.b1).at c1 (P := Try.prog) (t := 35) (by kernel_rfl) (by kernel_rfl) hlt
      obtain ⟨f, hf⟩ := hx.shape
      rw [show L1.getD i ⟨none, 0, 0, []⟩ = L1[i] by simp [List.getD, hlt]] at hc
      have s0 : wr.cell? ⟨b, o, none⟩ = some (.slice (L1[i]).ad (L1[i]).n (L1[i]).cap) := hc 0 _ (by omega) rfl
      have hq : Lies wr (L1[i]).ad (L1[i]).n 2 (fun _ => f.cells) := rep_lies (by have := hx.vec; rw [hf] at this; exact this) rfl
      have few : (L1[i]).n ≤ 1099511627780 := hx.few
      have HE : Hid (∀ j v, j < 2 + 1 → (f.cells)[j]? = some v → wr.cell? ⟨b, o + (j + 1), none⟩ = some v) := fun j v hj hv => hc (j + 1) v (by have := (List.getElem?_eq_some_iff.1 hv).1; simp at this; omega) (by rw [Bk.cells, List.getElem?_cons_succ, hf]; exact hv)
      clear hx hc hf
      generalize L1[i] = X at *
      generalize hwr : wr = w5 at *
      clear hwr
      go_wp2_with fail
      go_loopw [4] (fun u wr2 => ∃ k : Nat, k ≤ X.n ∧ u = .int .i64 k ∧ Below w5.heap.size w5 wr2) (fun u _ => X.n - (intOf u).toNat)
      case atStart => exact ⟨0, Nat.zero_le _, rfl, Below.refl _ _⟩
      case round =>
        obtain ⟨k, hk, rfl, hbr2⟩ := hrel
        have cf2 := (hOr.o.below hbr2 hOr.o.lt).cell 1
        dsimp only [List.getElem?_cons_zero, List.getElem?_cons_succ] at cf2
        have s2 : wr.cell? ⟨b, o, none⟩ = some (.slice X.ad X.n X.cap) := (hbr2.cell (p := ⟨b, o, none⟩) hbl).trans s0
        by_cases hlt2 : k < X.n
        · obtain ⟨b', o', hbl', hix', d0, d1⟩ := Lies.clock (c := fun _ => f) (hq.below hbr2) X.cap hlt2
          have e1 : wr.cell? ⟨b, o + 1, none⟩ = some (.int .i64 f.site) := (hbr2.cell (p := ⟨b, o + 1, none⟩) hbl).trans (HE.out 0 _ (by omega) rfl)
          have e2 : wr.cell? ⟨b, o + 2, none⟩ = some (.int .i64 f.count) := (hbr2.cell (p := ⟨b, o + 2, none⟩) hbl).trans (HE.out 1 _ (by omega) rfl)
          go_wp2
          go_quiet (fail)
          go_wp2
          go_roundw
          case rel => exact ⟨k + 1, by omega, by go_num, below_drewN hbr2 _⟩
          case measure => simp [intOf]; omega
        · go_wp2
          go_roundw
          case rel => exact ⟨i + 1, by omega, by go_num, hbr.trans (hbr2.mono hbr.size)⟩
          case measure => simp [intOf]; omega
    · clear hi hbr
      generalize hwr : wr = w5 at *
      clear hwr
      go_wp2_with fail
      go_loopw [5, 6] (fun u _ wr => ∃ i : Nat, i ≤ L2.length ∧ u = .int .i64 i ∧ Below w.heap.size w wr) (fun u _ _ => L2.length - (intOf u).toNat)
      case atStart => exact ⟨0, Nat.zero_le _, rfl, HBR.out⟩
      case round =>
        obtain ⟨i, hi, rfl, hbr⟩ := hrel
        have hOr := hO.keep hbr
        have cf := hOr.o.cell 2
        have HBR : Hid (Below w.heap.size w wr) := hbr
        dsimp only [List.getElem?_cons_zero, List.getElem?_cons_succ] at cf
        by_cases hlt : i < L2.length
        · have hx := hOr.b2.each L2[i] (List.getElem_mem hlt)
          obtain ⟨b, o, hbl, hix, hc⟩ := (books_lies hOr.b2).at c2 (P := Try.prog) (t := 36) (by kernel_rfl) (by kernel_rfl) hlt
          obtain ⟨f, hf⟩ := hx.shape
          rw [show L2.getD i ⟨none, 0, 0, []⟩ = L2[i] by simp [List.getD, hlt]] at hc
          have s0 : wr.cell? ⟨b, o, none⟩ = some (.slice (L2[i]).ad (L2[i]).n (L2[i]).cap) := hc 0 _ (by omega) rfl
          have hq : Lies wr (L2[i]).ad (L2[i]).n 5 (fun _ => f.cells) := rep_lies (by have := hx.vec; rw [hf] at this; exact this) rfl
          have few : (L2[i]).n ≤ 1099511627780 := hx.few
          have HE : Hid (∀ j v, j < 5 + 1 → (f.cells)[j]? = some v → wr.cell? ⟨b, o + (j + 1), none⟩ = some v) := fun j v hj hv => hc (j + 1) v (by have := (List.getElem?_eq_some_iff.1 hv).1; simp at this; omega) (by rw [Bk.cells, List.getElem?_cons_succ, hf]; exact hv)
          clear hx hc hf
          generalize L2[i] = X at *
          generalize hwr : wr = w5 at *
          clear hwr
          go_wp2_with fail
          go_loopw [6] (fun u wr2 => ∃ k : Nat, k ≤ X.n ∧ u = .int .i64 k ∧ Below w5.heap.size w5 wr2) (fun u _ => X.n - (intOf u).toNat)
          case atStart => exact ⟨0, Nat.zero_le _, rfl, Below.refl _ _⟩
          case round =>
            obtain ⟨k, hk, rfl, hbr2⟩ := hrel
            have cf2 := (hOr.o.below hbr2 hOr.o.lt).cell 2
            dsimp only [List.getElem?_cons_zero, List.getElem?_cons_succ] at cf2
            have s2 : wr.cell? ⟨b, o, none⟩ = some (.slice X.ad X.n X.cap) := (hbr2.cell (p := ⟨b, o, none⟩) hbl).trans s0
            by_cases hlt2 : k < X.n
            · obtain ⟨b', o', hbl', hix', d0, d1, d2, d3, d4⟩ := Lies.card (c := fun _ => f) (hq.below hbr2) X.cap hlt2
              have e1 : wr.cell? ⟨b, o + 1, none⟩ = some (.int .i64 f.id) := (hbr2.cell (p := ⟨b, o + 1, none⟩) hbl).trans (HE.out 0 _ (by omega) rfl)
              have e2 : wr.cell? ⟨b, o + 2, none⟩ = some (.int .i64 f.site) := (hbr2.cell (p := ⟨b, o + 2, none⟩) hbl).trans (HE.out 1 _ (by omega) rfl)
              have e3 : wr.cell? ⟨b, o + 3, none⟩ = some (.int .i64 f.count) := (hbr2.cell (p := ⟨b, o + 3, none⟩) hbl).trans (HE.out 2 _ (by omega) rfl)
              have e4 : wr.cell? ⟨b, o + 4, none⟩ = some (.bool f.gone) := (hbr2.cell (p := ⟨b, o + 4, none⟩) hbl).trans (HE.out 3 _ (by omega) rfl)
              have e5 : wr.cell? ⟨b, o + 5, none⟩ = some (.string f.text) := (hbr2.cell (p := ⟨b, o + 5, none⟩) hbl).trans (HE.out 4 _ (by omega) rfl)
              go_wp2
              go_quiet (fail)
              go_wp2
              go_roundw
              case rel => exact ⟨k + 1, by omega, by go_num, below_drewN hbr2 _⟩
              case measure => simp [intOf]; omega
            · go_wp2
              go_roundw
              case rel => exact ⟨i + 1, by omega, by go_num, hbr.trans (hbr2.mono hbr.size)⟩
              case measure => simp [intOf]; omega
        · clear hi hbr
          generalize hwr : wr = w5 at *
          clear hwr
          go_wp2_with fail
          go_loopw [7, 8] (fun u _ wr => ∃ i : Nat, i ≤ L3.length ∧ u = .int .i64 i ∧ Below w.heap.size w wr) (fun u _ _ => L3.length - (intOf u).toNat)
          case atStart => exact ⟨0, Nat.zero_le _, rfl, HBR.out⟩
          case round =>
            obtain ⟨i, hi, rfl, hbr⟩ := hrel
            have hOr := hO.keep hbr
            have cf := hOr.o.cell 3
            have HBR : Hid (Below w.heap.size w wr) := hbr
            dsimp only [List.getElem?_cons_zero, List.getElem?_cons_succ] at cf
            by_cases hlt : i < L3.length
            · have hx := hOr.b3.each L3[i] (List.getElem_mem hlt)
              obtain ⟨b, o, hbl, hix, hc⟩ := (books_lies hOr.b3).at c3 (P := Try.prog) (t := 37) (by kernel_rfl) (by kernel_rfl) hlt
              obtain ⟨f, hf⟩ := hx.shape
              rw [show L3.getD i ⟨none, 0, 0, []⟩ = L3[i] by simp [List.getD, hlt]] at hc
              have s0 : wr.cell? ⟨b, o, none⟩ = some (.slice (L3[i]).ad (L3[i]).n (L3[i]).cap) := hc 0 _ (by omega) rfl
              have hq : Lies wr (L3[i]).ad (L3[i]).n 2 (fun _ => f.cells) := rep_lies (by have := hx.vec; rw [hf] at this; exact this) rfl
              have few : (L3[i]).n ≤ 1099511627780 := hx.few
              have HE : Hid (∀ j v, j < 2 + 1 → (f.cells)[j]? = some v → wr.cell? ⟨b, o + (j + 1), none⟩ = some v) := fun j v hj hv => hc (j + 1) v (by have := (List.getElem?_eq_some_iff.1 hv).1; simp at this; omega) (by rw [Bk.cells, List.getElem?_cons_succ, hf]; exact hv)
              clear hx hc hf
              generalize L3[i] = X at *
              generalize hwr : wr = w5 at *
              clear hwr
              go_wp2_with fail
              go_loopw [8] (fun u wr2 => ∃ k : Nat, k ≤ X.n ∧ u = .int .i64 k ∧ Below w5.heap.size w5 wr2) (fun u _ => X.n - (intOf u).toNat)
              case atStart => exact ⟨0, Nat.zero_le _, rfl, Below.refl _ _⟩
              case round =>
                obtain ⟨k, hk, rfl, hbr2⟩ := hrel
                have cf2 := (hOr.o.below hbr2 hOr.o.lt).cell 3
                dsimp only [List.getElem?_cons_zero, List.getElem?_cons_succ] at cf2
                have s2 : wr.cell? ⟨b, o, none⟩ = some (.slice X.ad X.n X.cap) := (hbr2.cell (p := ⟨b, o, none⟩) hbl).trans s0
                by_cases hlt2 : k < X.n
                · obtain ⟨b', o', hbl', hix', d0, d1⟩ := Lies.edit (c := fun _ => f) (hq.below hbr2) X.cap hlt2
                  have e1 : wr.cell? ⟨b, o + 1, none⟩ = some (.int .i64 f.id) := (hbr2.cell (p := ⟨b, o + 1, none⟩) hbl).trans (HE.out 0 _ (by omega) rfl)
                  have e2 : wr.cell? ⟨b, o + 2, none⟩ = some (.string f.text) := (hbr2.cell (p := ⟨b, o + 2, none⟩) hbl).trans (HE.out 1 _ (by omega) rfl)
                  go_wp2
                  go_quiet (fail)
                  go_wp2
                  go_roundw
                  case rel => exact ⟨k + 1, by omega, by go_num, below_drewN hbr2 _⟩
                  case measure => simp [intOf]; omega
                · go_wp2
                  go_roundw
                  case rel => exact ⟨i + 1, by omega, by go_num, hbr.trans (hbr2.mono hbr.size)⟩
                  case measure => simp [intOf]; omega
            · clear hi hbr
              generalize hwr : wr = w5 at *
              clear hwr
              go_wp2
              go_ret
              exact ⟨rfl, HBR.out⟩



end Go.Proofs.Ytdjpkgaicmklmaa

/- Reads: called with any bytes, up to very many, it answers true. -/
namespace Go.Proofs.Ytdjpkgaicmklmaa
open Go.RowKit

set_option maxRecDepth 100000 in
set_option maxHeartbeats 4000000 in
theorem pread_any (b : List UInt8) (w : World) (hb : b.length ≤ 1099511627776) :
    Calls Try.prog 43 #[.string (str b)] w fun e w' => ReadAns (readRd b) w.heap.size e w' ∧ Below w.heap.size w w' := by
  obtain ⟨hR, hW, hB⟩ := one_box w 75 (lnkC 0 0 none 0 0 none 0 0 none 0 0).toArray
  go_enter Try.func43, Try.ntmps43
  go_wp2_with fail
  refine (bread_any b _ hb).mono ?_
  rintro e w1 ⟨⟨a1, n1, c1, a2, n2, c2, a3, n3, c3, rfl, hL⟩, hb1⟩
  replace hL := hL.mono (Nat.le_of_eq hW.symm : w.heap.size + 1 ≤ _)
  replace hR := hR.below hb1 hR.lt
  replace hB := hB.trans (hb1.mono (Nat.le_trans (Nat.le_succ _) (Nat.le_of_eq hW.symm)))
  clear hb1 hW
  generalize hx : readRd b = x at *
  have HX : Hid (readRd b = x) := hx
  clear hx
  go_wp2_with (refine wpList_bstore (by rfl) _ _ _ (by rfl) w.heap.size 75 (by rfl) _ _ (by rfl) hR 5 (by rfl) (by kernel_rfl) (by rfl) (by intro x hx; simp at hx; rcases hx with rfl | rfl | rfl | rfl | rfl <;> rfl) ?_; intro w9 hR9 hU9; replace hR := hR9; replace hB := hU9.below hB (Nat.le_refl _); replace hL := hL.upd hU9 (by omega); clear hR9 hU9)
  exact bodyPost_ret (v := .tuple #[.agg (lnkC x.seq x.base a1 n1 c1 a2 n2 c2 a3 n3 c3).toArray, .int .i64 x.err, .int .i64 x.place]) (results_box3 (by rfl) _ _ w.heap.size 75 _ _ _ _ (by rfl) hR (by rfl) (by rfl) Try.underlying75 (by rfl) 5 (by rfl) (by kernel_rfl)) rfl ⟨by rw [HX.out]; exact ⟨a1, n1, c1, a2, n2, c2, a3, n3, c3, rfl, hL.mono (Nat.le_succ _)⟩, hB⟩

theorem Lists.has {w : World} {B : Nat} {K : List Ck} {C : List Cd} {E : List Ed} {a1 : Option Addr} {n1 c1 : Nat} {a2 : Option Addr} {n2 c2 : Nat} {a3 : Option Addr} {n3 c3 : Nat} (h : Lists w B K C E a1 n1 c1 a2 n2 c2 a3 n3 c3) (h1 : n1 ≤ 1099511627776) (h2 : n2 ≤ 1099511627776) (h3 : n3 ≤ 1099511627776) :
    Has w (repOf K C E) a1 a2 a3 ∧ repV (repOf K C E) a1 a2 a3 c1 c2 c3 = .agg #[.slice a1 n1 c1, .slice a2 n2 c2, .slice a3 n3 c3] := by
  obtain ⟨v1, v2, v3, rfl, rfl, rfl⟩ := h
  refine ⟨⟨kvec_lies v1 rfl, cvec_lies v2 rfl, evec_lies v3 rfl, ?_, ?_, ?_, ?_, ?_, ?_⟩, rfl⟩ <;> simp only [repOf] <;> omega
theorem readRd_few (b : List UInt8) : (readRd b).K.length ≤ b.length ∧ (readRd b).C.length ≤ b.length ∧ (readRd b).E.length ≤ b.length := by
  have hl : ∀ l : List Fd, l.length ≤ b.length → (ansOk l).K.length ≤ b.length ∧ (ansOk l).C.length ≤ b.length ∧ (ansOk l).E.length ≤ b.length := fun l h => ⟨Nat.le_trans (ckOf_le l) h, Nat.le_trans (cdOf_le l) h, Nat.le_trans (edOf_le l) h⟩
  have he : ∀ e p, (ansErr e p).K.length ≤ b.length ∧ (ansErr e p).C.length ≤ b.length ∧ (ansErr e p).E.length ≤ b.length := fun e p => ⟨by simp [ansErr], by simp [ansErr], by simp [ansErr]⟩
  unfold readRd
  split
  · exact he _ _
  · split
    · split
      · exact he _ _
      · split
        · exact he _ _
        · refine hl _ ?_
          have := frF_length (b.take (b.length - 4)).length 4 ((b.take (b.length - 4)).drop 4)
          unfold framed
          refine Nat.le_trans this ?_
          simp
    · exact he _ _

set_option maxRecDepth 100000 in
set_option maxHeartbeats 4000000 in
theorem read_any (s : List UInt8) (w : World) (B go : Nat) (n : Int) (a4 : Option Addr) (d4 : Nat) (L : List Bk) (a5 : Option Addr) (d5 : Nat) (L2 : List Bk) (a6 : Option Addr) (d6 : Nat) (L3 : List Bk) (hO : OwnR w B go n a4 d4 L a5 d5 L2 a6 d6 L3) (hs : s.length ≤ 1099511627776) (hL : L.length ≤ 900 ∧ L2.length ≤ 900 ∧ L3.length ≤ 900) (hB : B ≤ go) (hn0 : 0 ≤ n) (hn1 : n ≤ 900) (hBw : B ≤ w.heap.size) :
    Calls Try.prog 20 #[.string (str s), .pointer (some ⟨go, 0, none⟩)] w fun e w' => (e = .returned (.bool true) ∧ ∃ a5 c5 L5 a6 c6 L6 a7 c7 L7, (L5.length = L.length + 4 ∧ L6.length = L2.length + 4 ∧ L7.length = L3.length + 4) ∧ OwnR w' B go (n + 1) a5 c5 L5 a6 c6 L6 a7 c7 L7) ∧ Below B w w' := by
  have HO : Hid (OwnR w B go n a4 d4 L a5 d5 L2 a6 d6 L3) := hO
  have HS : Hid (s.length ≤ 1099511627776) := hs
  have HL : Hid (L.length ≤ 900 ∧ L2.length ≤ 900 ∧ L3.length ≤ 900) := hL
  clear hO hs hL
  go_enter Try.func20, Try.ntmps20
  go_wp2_with fail
  refine (pread_any s _ HS.out).mono ?_
  rintro e w1 ⟨⟨a1, n1, c1, a2, n2, c2, a3, n3, c3, rfl, hL1⟩, hb1⟩
  have H1 : Hid (Lists w1 w.heap.size (readRd s).K (readRd s).C (readRd s).E a1 n1 c1 a2 n2 c2 a3 n3 c3 ∧ Below w.heap.size w w1) := ⟨hL1, hb1⟩
  clear hL1 hb1
  have hfew : n1 ≤ 1099511627776 ∧ n2 ≤ 1099511627776 ∧ n3 ≤ 1099511627776 := by
    have := readRd_few s; have := HS.out; have := H1.out.1.e1; have := H1.out.1.e2; have := H1.out.1.e3; omega
  obtain ⟨f1, f2, f3⟩ := hfew
  generalize hx : readRd s = x at *
  have HX : Hid (readRd s = x) := hx
  clear hx
  have hX1 := Bx.new w1 75 (lnkC x.seq x.base a1 n1 c1 a2 n2 c2 a3 n3 c3).toArray
  have hA1 : Below w1.heap.size w1 (w1.alloc (.cells (lnkC x.seq x.base a1 n1 c1 a2 n2 c2 a3 n3 c3).toArray 75)) := (Below.refl _ _).alloc (Nat.le_refl _) _
  have HX1 : Hid (Bx (w1.alloc (.cells (lnkC x.seq x.base a1 n1 c1 a2 n2 c2 a3 n3 c3).toArray 75)) w1.heap.size 75 (lnkC x.seq x.base a1 n1 c1 a2 n2 c2 a3 n3 c3) ∧ Below w1.heap.size w1 (w1.alloc (.cells (lnkC x.seq x.base a1 n1 c1 a2 n2 c2 a3 n3 c3).toArray 75))) := ⟨hX1, hA1⟩
  clear hX1 hA1
  go_wp2_with fail
  refine (rread_any s _ HS.out).mono ?_
  rintro e w2 ⟨⟨b1, m1, d1, b2, m2, d2, b3, m3, d3, he, hL2⟩, hb2⟩
  rw [HX.out] at he hL2
  subst he
  have em1 : m1 = n1 := by rw [hL2.e1, H1.out.1.e1]
  have em2 : m2 = n2 := by rw [hL2.e2, H1.out.1.e2]
  have em3 : m3 = n3 := by rw [hL2.e3, H1.out.1.e3]
  subst em1 em2 em3
  have H2 : Hid (Lists w2 0 x.K x.C x.E b1 m1 d1 b2 m2 d2 b3 m3 d3 ∧ Below w1.heap.size w1 w2) := ⟨hL2.mono (Nat.zero_le _), HX1.out.2.trans (hb2.mono HX1.out.2.size)⟩
  have hX1 := HX1.out.1.below hb2 HX1.out.1.lt
  have HXX : Hid (Bx (w2.alloc (.cells (lnkC x.seq x.base b1 m1 d1 b2 m2 d2 b3 m3 d3).toArray 75)) w2.heap.size 75 (lnkC x.seq x.base b1 m1 d1 b2 m2 d2 b3 m3 d3) ∧ Bx (w2.alloc (.cells (lnkC x.seq x.base b1 m1 d1 b2 m2 d2 b3 m3 d3).toArray 75)) w1.heap.size 75 (lnkC x.seq x.base a1 m1 c1 a2 m2 c2 a3 m3 c3) ∧ Below w2.heap.size w2 (w2.alloc (.cells (lnkC x.seq x.base b1 m1 d1 b2 m2 d2 b3 m3 d3).toArray 75))) := ⟨Bx.new w2 75 (lnkC x.seq x.base b1 m1 d1 b2 m2 d2 b3 m3 d3).toArray, hX1.alloc _, (Below.refl _ _).alloc (Nat.le_refl _) _⟩
  have x0 := HXX.out.2.1.cell 0
  have x1 := HXX.out.2.1.cell 1
  have x2 := HXX.out.2.1.cell 2
  have x3 := HXX.out.2.1.cell 3
  have x4 := HXX.out.2.1.cell 4
  dsimp only [List.getElem?_cons_zero, List.getElem?_cons_succ] at x0 x1 x2 x3 x4
  clear hX1 hb2 hL2
  have HA := H1.out.1.keep H2.out.2 |>.keep HXX.out.2.2 |>.has f1 f2 f3
  have HBb := H2.out.1.keep HXX.out.2.2 |>.has f1 f2 f3
  have HHA : Hid (Has (w2.alloc (.cells (lnkC x.seq x.base b1 m1 d1 b2 m2 d2 b3 m3 d3).toArray 75)) (repOf x.K x.C x.E) a1 a2 a3 ∧ repV (repOf x.K x.C x.E) a1 a2 a3 c1 c2 c3 = .agg #[.slice a1 m1 c1, .slice a2 m2 c2, .slice a3 m3 c3]) := HA
  have HHB : Hid (Has (w2.alloc (.cells (lnkC x.seq x.base b1 m1 d1 b2 m2 d2 b3 m3 d3).toArray 75)) (repOf x.K x.C x.E) b1 b2 b3 ∧ repV (repOf x.K x.C x.E) b1 b2 b3 d1 d2 d3 = .agg #[.slice b1 m1 d1, .slice b2 m2 d2, .slice b3 m3 d3]) := HBb
  clear HA HBb
  go_wp2_with fail
  have hsr := sameReplica_any (repOf x.K x.C x.E) a1 a2 a3 b1 b2 b3 c1 c2 c3 d1 d2 d3 _ HHA.out.1 HHB.out.1
  rw [HHA.out.2, HHB.out.2] at hsr
  refine hsr.mono ?_
  rintro e w3 ⟨rfl, hb3⟩
  clear hsr x0 x1 x2 x3 x4
  have H3 : Hid (Below w2.heap.size w2 w3) := HXX.out.2.2.trans (hb3.mono HXX.out.2.2.size)
  have HX3 : Hid (Bx w3 w2.heap.size 75 (lnkC x.seq x.base b1 m1 d1 b2 m2 d2 b3 m3 d3) ∧ Bx w3 w1.heap.size 75 (lnkC x.seq x.base a1 m1 c1 a2 m2 c2 a3 m3 c3)) := ⟨HXX.out.1.below hb3 HXX.out.1.lt, HXX.out.2.1.below hb3 HXX.out.2.1.lt⟩
  clear hb3
  have H13 : Hid (Below w1.heap.size w1 w3) := H2.out.2.trans (H3.out.mono H2.out.2.size)
  have HW3 : Hid (Below w.heap.size w w3) := H1.out.2.trans (H13.out.mono H1.out.2.size)
  have x0 := HX3.out.2.cell 0
  have x1 := HX3.out.2.cell 1
  have x2 := HX3.out.2.cell 2
  have x3 := HX3.out.2.cell 3
  have x4 := HX3.out.2.cell 4
  dsimp only [List.getElem?_cons_zero, List.getElem?_cons_succ] at x0 x1 x2 x3 x4
  go_wp2_with fail
  refine (replica_any _ B w.heap.size go n a1 m1 c1 _ a2 m2 c2 _ a3 m3 c3 _ a4 d4 L a5 d5 L2 a6 d6 L3 (HO.out.keep HW3.out) ⟨HO.out.b1.old, HO.out.b2.old, HO.out.b3.old⟩ (H1.out.1.v1.keep H13.out) (H1.out.1.v2.keep H13.out) (H1.out.1.v3.keep H13.out) f1 f2 f3 (by have := HL.out; omega) (by have := HL.out; omega) (by have := HL.out; omega) hB hBw hn0 (by omega) (Nat.le_trans hBw HW3.out.size) HW3.out.size).mono ?_
  rintro e w4 ⟨⟨v, rfl⟩, ⟨q1, k1, M1, q2, k2, M2, q3, k3, M3, hM, hO4⟩, hb4, hlk⟩
  clear x0 x1 x2 x3 x4
  have H4 : Hid (OwnR w4 B go (n + 1) q1 k1 M1 q2 k2 M2 q3 k3 M3 ∧ Below B w w4) := ⟨hO4, (HW3.out.mono hBw).trans hb4⟩
  have HM : Hid (M1.length = L.length + 4 ∧ M2.length = L2.length + 4 ∧ M3.length = L3.length + 4) := hM
  have HX4 : Hid (Bx w4 w2.heap.size 75 (lnkC x.seq x.base b1 m1 d1 b2 m2 d2 b3 m3 d3) ∧ Bx w4 w1.heap.size 75 (lnkC x.seq x.base a1 m1 c1 a2 m2 c2 a3 m3 c3)) := ⟨hlk _ _ HX3.out.1, hlk _ _ HX3.out.2⟩
  clear hM hO4 hb4 hlk
  go_wp2_with fail
  refine (kept_any _ B go (n + 1) _ _ _ none 0 [] H4.out.1.o (Books.nil _ _ _ _ _) (by simp) (fun w' hw' => rkept_any w' B go (n + 1) q1 k1 M1 q2 k2 M2 q3 k3 M3 (H4.out.1.keep hw') (by have := HL.out; have := HM.out; omega) (by have := HL.out; have := HM.out; omega) (by have := HL.out; have := HM.out; omega))).mono ?_
  rintro e w6 ⟨rfl, hb6⟩
  have H6 : Hid (Below w4.heap.size w4 w6) := hb6
  clear hb6
  have x0 := (HX4.out.2.below H6.out HX4.out.2.lt).cell 0
  have x1 := (HX4.out.2.below H6.out HX4.out.2.lt).cell 1
  have y0 := (HX4.out.1.below H6.out HX4.out.1.lt).cell 0
  have y1 := (HX4.out.1.below H6.out HX4.out.1.lt).cell 1
  dsimp only [List.getElem?_cons_zero, List.getElem?_cons_succ] at x0 x1 y0 y1
  go_wp2_with fail
  go_ret
  exact ⟨⟨by simp, q1, k1, M1, q2, k2, M2, q3, k3, M3, HM.out, H4.out.1.keep H6.out⟩, H4.out.2.trans (H6.out.mono (Nat.le_trans hBw H4.out.2.size))⟩

set_option maxRecDepth 100000 in
set_option maxHeartbeats 4000000 in
theorem reads_any (s : List UInt8) (w : World) (hs : s.length ≤ 1099511627776) :
    Calls Try.prog 5 #[.string (str s)] w fun e w' => e = .returned (.bool true) ∧ Below w.heap.size w w' := by
  obtain ⟨hO, hW, hB⟩ := one_box w 41 #[.int .i64 0, .slice none 0 0, .slice none 0 0, .slice none 0 0, .slice none 0 0, .slice none 0 0]
  have H0 : Hid (OwnR (w.alloc (.cells #[.int .i64 0, .slice none 0 0, .slice none 0 0, .slice none 0 0, .slice none 0 0, .slice none 0 0] 41)) w.heap.size w.heap.size 0 none 0 [] none 0 [] none 0 []) := ⟨hO, Books.nil _ _ _ _ _, Books.nil _ _ _ _ _, Books.nil _ _ _ _ _⟩
  clear hO
  go_enter Try.func5, Try.ntmps5
  go_wp2_with fail
  refine (read_any s _ w.heap.size w.heap.size 0 none 0 [] none 0 [] none 0 [] H0.out hs ⟨by simp, by simp, by simp⟩ (Nat.le_refl _) (by omega) (by omega) hB.size).mono ?_
  rintro e w1 ⟨⟨rfl, a5, c5, L5, a6, c6, L6, a7, c7, L7, hL, hO5⟩, hb1⟩
  have hb2 := hB.trans hb1
  have hL6 : L5.length ≤ 900 ∧ L6.length ≤ 900 ∧ L7.length ≤ 900 := by simp at hL; omega
  have HO5 : Hid (OwnR w1 w.heap.size w.heap.size (0 + 1) a5 c5 L5 a6 c6 L6 a7 c7 L7) := hO5
  clear hL hO5
  go_wp2_with fail
  refine (read_any s _ w.heap.size w.heap.size (0 + 1) a5 c5 L5 a6 c6 L6 a7 c7 L7 HO5.out hs hL6 (Nat.le_refl _) (by omega) (by omega) hb2.size).mono ?_
  rintro e w2 ⟨⟨rfl, -⟩, hb3⟩
  go_wp2_with fail
  go_ret
  exact ⟨rfl, hb2.trans hb3⟩
end Go.Proofs.Ytdjpkgaicmklmaa

/- Restores: called with any bytes, up to very many, it answers true. -/
namespace Go.Proofs.Ytdjpkgaicmklmaa
open Go.RowKit

/-- What Restore answers, out of what Read does. -/
def restOf (x : Ans) : Ans := if x.err = 0 then (if x.seq = 0 then (if (repOf x.K x.C x.E).chk = 0 then ⟨0, 0, 0, 0, x.K, x.C, x.E⟩ else ansErr (repOf x.K x.C x.E).chk 0) else ansErr 11 0) else ansErr x.err x.place
def restRd (b : List UInt8) : Ans := restOf (readRd b)
def RestAns (x : Ans) (B : Nat) (e : Ending) (w' : World) : Prop := ∃ a1 n1 c1 a2 n2 c2 a3 n3 c3, e = .returned (.tuple #[.agg #[.slice a1 n1 c1, .slice a2 n2 c2, .slice a3 n3 c3], .int .i64 x.err, .int .i64 x.place]) ∧ Lists w' B x.K x.C x.E a1 n1 c1 a2 n2 c2 a3 n3 c3
theorem restRd_few (b : List UInt8) : (restRd b).K.length ≤ b.length ∧ (restRd b).C.length ≤ b.length ∧ (restRd b).E.length ≤ b.length := by
  have he : ∀ e p, (ansErr e p).K.length ≤ b.length ∧ (ansErr e p).C.length ≤ b.length ∧ (ansErr e p).E.length ≤ b.length := fun e p => ⟨by simp [ansErr], by simp [ansErr], by simp [ansErr]⟩
  unfold restRd restOf
  split
  · split
    · split
      · exact readRd_few b
      · exact he _ _
    · exact he _ _
  · exact he _ _

set_option maxRecDepth 100000 in
set_option maxHeartbeats 4000000 in
theorem prestore_any (b : List UInt8) (w : World) (hb : b.length ≤ 1099511627776) :
    Calls Try.prog 47 #[.string (str b)] w fun e w' => RestAns (restRd b) w.heap.size e w' ∧ Below w.heap.size w w' := by
  obtain ⟨hR, hW, hB⟩ := one_box w 26 ([.slice none 0 0, .slice none 0 0, .slice none 0 0] : List Value).toArray
  have hfew := readRd_few b
  go_enter Try.func47, Try.ntmps47
  go_wp2_with fail
  refine (bread_any b _ hb).mono ?_
  rintro e w1 ⟨⟨a1, n1, c1, a2, n2, c2, a3, n3, c3, rfl, hL⟩, hb1⟩
  replace hL := hL.mono (Nat.le_of_eq hW.symm : w.heap.size + 1 ≤ _)
  replace hR := hR.below hb1 hR.lt
  replace hB := hB.trans (hb1.mono (Nat.le_trans (Nat.le_succ _) (Nat.le_of_eq hW.symm)))
  clear hb1 hW
  have f1 : n1 ≤ 1099511627776 := by rw [hL.e1]; omega
  have f2 : n2 ≤ 1099511627776 := by rw [hL.e2]; omega
  have f3 : n3 ≤ 1099511627776 := by rw [hL.e3]; omega
  have hx : restRd b = restOf (readRd b) := rfl
  have HX : Hid (restRd b = restOf (readRd b)) := hx
  clear hx hfew
  generalize readRd b = x at *
  by_cases he : x.err = 0
  · have heb : (x.err != 0) = false := by rw [he]; rfl
    by_cases hq : x.seq = 0
    · have hqb : (x.seq != 0) = false := by rw [hq]; rfl
      have hal : Below w1.heap.size w1 (w1.alloc (.cells (lnkC x.seq x.base a1 n1 c1 a2 n2 c2 a3 n3 c3).toArray 75)) := (Below.refl _ _).alloc (Nat.le_refl _) _
      have HHA : Hid (Has (w1.alloc (.cells (lnkC x.seq x.base a1 n1 c1 a2 n2 c2 a3 n3 c3).toArray 75)) (repOf x.K x.C x.E) a1 a2 a3 ∧ repV (repOf x.K x.C x.E) a1 a2 a3 c1 c2 c3 = .agg #[.slice a1 n1 c1, .slice a2 n2 c2, .slice a3 n3 c3]) := (hL.keep hal).has f1 f2 f3
      have hLb := Bx.new w1 75 (lnkC x.seq x.base a1 n1 c1 a2 n2 c2 a3 n3 c3).toArray
      have HE : Hid (x.err = 0 ∧ x.seq = 0) := ⟨he, hq⟩
      clear he hq
      go_wp2_with fail
      have hck := check_any (repOf x.K x.C x.E) a1 a2 a3 c1 c2 c3 _ HHA.out.1
      rw [HHA.out.2] at hck
      refine hck.mono ?_
      rintro e w2 ⟨rfl, hb2⟩
      clear hck
      replace hLb := hLb.below hb2 hLb.lt
      replace hL := (hL.keep hal).keep hb2
      replace hR := (hR.alloc _).below hb2 (by have := hR.lt; simp; omega)
      replace hB := (hB.alloc hB.size _).trans (hb2.mono (by have := hB.size; simp; omega))
      clear hb2 hal
      by_cases hc : (repOf x.K x.C x.E).chk = 0
      · have hcb : ((repOf x.K x.C x.E).chk != 0) = false := by rw [hc]; rfl
        have HN : Hid (restRd b = ⟨0, 0, 0, 0, x.K, x.C, x.E⟩) := by show _ = _; rw [HX.out]; simp only [restOf]; rw [if_pos HE.out.1, if_pos HE.out.2, if_pos hc]
        have x2 := hLb.cell 2
        have x3 := hLb.cell 3
        have x4 := hLb.cell 4
        dsimp only [List.getElem?_cons_zero, List.getElem?_cons_succ] at x2 x3 x4
        clear hc hLb
        go_wp2_with (refine wpList_bstore (by rfl) _ _ _ (by rfl) w.heap.size 26 (by rfl) _ _ (by rfl) hR 3 (by rfl) (by kernel_rfl) (by rfl) (by intro x hx; simp at hx; rcases hx with rfl | rfl | rfl <;> rfl) ?_; intro w9 hR9 hU9; replace hR := hR9; replace hB := hU9.below hB (Nat.le_refl _); replace hL := hL.upd hU9 (by omega); clear hR9 hU9)
        exact bodyPost_ret (v := .tuple #[.agg #[.slice a1 n1 c1, .slice a2 n2 c2, .slice a3 n3 c3], .int .i64 0, .int .i64 0]) (results_box3 (by rfl) _ _ w.heap.size 26 _ _ _ _ (by rfl) hR (by rfl) (by rfl) Try.underlying26 (by rfl) 3 (by rfl) (by kernel_rfl)) rfl ⟨by rw [HN.out]; exact ⟨a1, n1, c1, a2, n2, c2, a3, n3, c3, rfl, hL.mono (Nat.le_succ _)⟩, hB⟩
      · have hcb : ((repOf x.K x.C x.E).chk != 0) = true := by rw [bne_iff_ne]; exact hc
        have HN : Hid (restRd b = ansErr (repOf x.K x.C x.E).chk 0) := by show _ = _; rw [HX.out]; simp only [restOf]; rw [if_pos HE.out.1, if_pos HE.out.2, if_neg hc]
        clear hc hLb
        generalize (repOf x.K x.C x.E).chk = ck at *
        go_wp2_with (refine wpList_bstore (by rfl) _ _ _ (by rfl) w.heap.size 26 (by rfl) _ _ (by rfl) hR 3 (by rfl) (by kernel_rfl) (by rfl) (by intro x hx; simp at hx; rcases hx with rfl | rfl | rfl <;> rfl) ?_; intro w9 hR9 hU9; replace hR := hR9; replace hB := hU9.below hB (Nat.le_refl _); clear hR9 hU9)
        exact bodyPost_ret (v := .tuple #[.agg ([.slice none 0 0, .slice none 0 0, .slice none 0 0] : List Value).toArray, .int .i64 ck, .int .i64 0]) (results_box3 (by rfl) _ _ w.heap.size 26 _ _ _ _ (by rfl) hR (by rfl) (by rfl) Try.underlying26 (by rfl) 3 (by rfl) (by kernel_rfl)) rfl ⟨by rw [HN.out]; exact ⟨none, 0, 0, none, 0, 0, none, 0, 0, rfl, Lists.nil _ _⟩, hB⟩
    · have hqb : (x.seq != 0) = true := by rw [bne_iff_ne]; exact hq
      have HN : Hid (restRd b = ansErr 11 0) := by show _ = _; rw [HX.out]; simp only [restOf]; rw [if_pos he, if_neg hq]
      clear hq he
      go_wp2_with (refine wpList_bstore (by rfl) _ _ _ (by rfl) w.heap.size 26 (by rfl) _ _ (by rfl) (hR.alloc _) 3 (by rfl) (by kernel_rfl) (by rfl) (by intro x hx; simp at hx; rcases hx with rfl | rfl | rfl <;> rfl) ?_; intro w9 hR9 hU9; replace hR := hR9; replace hB := hU9.below (hB.alloc hB.size _) (Nat.le_refl _); clear hR9 hU9)
      exact bodyPost_ret (v := .tuple #[.agg ([.slice none 0 0, .slice none 0 0, .slice none 0 0] : List Value).toArray, .int .i64 11, .int .i64 0]) (results_box3 (by rfl) _ _ w.heap.size 26 _ _ _ _ (by rfl) hR (by rfl) (by rfl) Try.underlying26 (by rfl) 3 (by rfl) (by kernel_rfl)) rfl ⟨by rw [HN.out]; exact ⟨none, 0, 0, none, 0, 0, none, 0, 0, rfl, Lists.nil _ _⟩, hB⟩
  · have heb : (x.err != 0) = true := by rw [bne_iff_ne]; exact he
    have HN : Hid (restRd b = ansErr x.err x.place) := by show _ = _; rw [HX.out]; simp only [restOf]; rw [if_neg he]
    clear he
    go_wp2_with (refine wpList_bstore (by rfl) _ _ _ (by rfl) w.heap.size 26 (by rfl) _ _ (by rfl) (hR.alloc _) 3 (by rfl) (by kernel_rfl) (by rfl) (by intro x hx; simp at hx; rcases hx with rfl | rfl | rfl <;> rfl) ?_; intro w9 hR9 hU9; replace hR := hR9; replace hB := hU9.below (hB.alloc hB.size _) (Nat.le_refl _); clear hR9 hU9)
    exact bodyPost_ret (v := .tuple #[.agg ([.slice none 0 0, .slice none 0 0, .slice none 0 0] : List Value).toArray, .int .i64 x.err, .int .i64 x.place]) (results_box3 (by rfl) _ _ w.heap.size 26 _ _ _ _ (by rfl) hR (by rfl) (by rfl) Try.underlying26 (by rfl) 3 (by rfl) (by kernel_rfl)) rfl ⟨by rw [HN.out]; exact ⟨none, 0, 0, none, 0, 0, none, 0, 0, rfl, Lists.nil _ _⟩, hB⟩

set_option maxRecDepth 100000 in
set_option maxHeartbeats 4000000 in
theorem rrestore_any (b : List UInt8) (w : World) (hb : b.length ≤ 1099511627776) :
    Calls Try.prog 48 #[.string (str b)] w fun e w' => RestAns (restRd b) w.heap.size e w' ∧ Below w.heap.size w w' := by
  obtain ⟨hR, hW, hB⟩ := one_box w 26 ([.slice none 0 0, .slice none 0 0, .slice none 0 0] : List Value).toArray
  have hfew := readRd_few b
  go_enter Try.func48, Try.ntmps48
  go_wp2_with fail
  refine (rread_any b _ hb).mono ?_
  rintro e w1 ⟨⟨a1, n1, c1, a2, n2, c2, a3, n3, c3, rfl, hL⟩, hb1⟩
  replace hL := hL.mono (Nat.le_of_eq hW.symm : w.heap.size + 1 ≤ _)
  replace hR := hR.below hb1 hR.lt
  replace hB := hB.trans (hb1.mono (Nat.le_trans (Nat.le_succ _) (Nat.le_of_eq hW.symm)))
  clear hb1 hW
  have f1 : n1 ≤ 1099511627776 := by rw [hL.e1]; omega
  have f2 : n2 ≤ 1099511627776 := by rw [hL.e2]; omega
  have f3 : n3 ≤ 1099511627776 := by rw [hL.e3]; omega
  have hx : restRd b = restOf (readRd b) := rfl
  have HX : Hid (restRd b = restOf (readRd b)) := hx
  clear hx hfew
  generalize readRd b = x at *
  by_cases he : x.err = 0
  · have heb : (x.err != 0) = false := by rw [he]; rfl
    by_cases hq : x.seq = 0
    · have hqb : (x.seq != 0) = false := by rw [hq]; rfl
      have hal : Below w1.heap.size w1 (w1.alloc (.cells (lnkC x.seq x.base a1 n1 c1 a2 n2 c2 a3 n3 c3).toArray 75)) := (Below.refl _ _).alloc (Nat.le_refl _) _
      have HHA : Hid (Has (w1.alloc (.cells (lnkC x.seq x.base a1 n1 c1 a2 n2 c2 a3 n3 c3).toArray 75)) (repOf x.K x.C x.E) a1 a2 a3 ∧ repV (repOf x.K x.C x.E) a1 a2 a3 c1 c2 c3 = .agg #[.slice a1 n1 c1, .slice a2 n2 c2, .slice a3 n3 c3]) := (hL.keep hal).has f1 f2 f3
      have hLb := Bx.new w1 75 (lnkC x.seq x.base a1 n1 c1 a2 n2 c2 a3 n3 c3).toArray
      have HE : Hid (x.err = 0 ∧ x.seq = 0) := ⟨he, hq⟩
      clear he hq
      go_wp2_with fail
      have hck := rcheck_any (repOf x.K x.C x.E) a1 a2 a3 c1 c2 c3 _ HHA.out.1
      rw [HHA.out.2] at hck
      refine hck.mono ?_
      rintro e w2 ⟨rfl, hb2⟩
      clear hck
      replace hLb := hLb.below hb2 hLb.lt
      replace hL := (hL.keep hal).keep hb2
      replace hR := (hR.alloc _).below hb2 (by have := hR.lt; simp; omega)
      replace hB := (hB.alloc hB.size _).trans (hb2.mono (by have := hB.size; simp; omega))
      clear hb2 hal
      by_cases hc : (repOf x.K x.C x.E).chk = 0
      · have hcb : ((repOf x.K x.C x.E).chk != 0) = false := by rw [hc]; rfl
        have HN : Hid (restRd b = ⟨0, 0, 0, 0, x.K, x.C, x.E⟩) := by show _ = _; rw [HX.out]; simp only [restOf]; rw [if_pos HE.out.1, if_pos HE.out.2, if_pos hc]
        have x2 := hLb.cell 2
        have x3 := hLb.cell 3
        have x4 := hLb.cell 4
        dsimp only [List.getElem?_cons_zero, List.getElem?_cons_succ] at x2 x3 x4
        clear hc hLb
        go_wp2_with (refine wpList_bstore (by rfl) _ _ _ (by rfl) w.heap.size 26 (by rfl) _ _ (by rfl) hR 3 (by rfl) (by kernel_rfl) (by rfl) (by intro x hx; simp at hx; rcases hx with rfl | rfl | rfl <;> rfl) ?_; intro w9 hR9 hU9; replace hR := hR9; replace hB := hU9.below hB (Nat.le_refl _); replace hL := hL.upd hU9 (by omega); clear hR9 hU9)
        exact bodyPost_ret (v := .tuple #[.agg #[.slice a1 n1 c1, .slice a2 n2 c2, .slice a3 n3 c3], .int .i64 0, .int .i64 0]) (results_box3 (by rfl) _ _ w.heap.size 26 _ _ _ _ (by rfl) hR (by rfl) (by rfl) Try.underlying26 (by rfl) 3 (by rfl) (by kernel_rfl)) rfl ⟨by rw [HN.out]; exact ⟨a1, n1, c1, a2, n2, c2, a3, n3, c3, rfl, hL.mono (Nat.le_succ _)⟩, hB⟩
      · have hcb : ((repOf x.K x.C x.E).chk != 0) = true := by rw [bne_iff_ne]; exact hc
        have HN : Hid (restRd b = ansErr (repOf x.K x.C x.E).chk 0) := by show _ = _; rw [HX.out]; simp only [restOf]; rw [if_pos HE.out.1, if_pos HE.out.2, if_neg hc]
        clear hc hLb
        generalize (repOf x.K x.C x.E).chk = ck at *
        go_wp2_with (refine wpList_bstore (by rfl) _ _ _ (by rfl) w.heap.size 26 (by rfl) _ _ (by rfl) hR 3 (by rfl) (by kernel_rfl) (by rfl) (by intro x hx; simp at hx; rcases hx with rfl | rfl | rfl <;> rfl) ?_; intro w9 hR9 hU9; replace hR := hR9; replace hB := hU9.below hB (Nat.le_refl _); clear hR9 hU9)
        exact bodyPost_ret (v := .tuple #[.agg ([.slice none 0 0, .slice none 0 0, .slice none 0 0] : List Value).toArray, .int .i64 ck, .int .i64 0]) (results_box3 (by rfl) _ _ w.heap.size 26 _ _ _ _ (by rfl) hR (by rfl) (by rfl) Try.underlying26 (by rfl) 3 (by rfl) (by kernel_rfl)) rfl ⟨by rw [HN.out]; exact ⟨none, 0, 0, none, 0, 0, none, 0, 0, rfl, Lists.nil _ _⟩, hB⟩
    · have hqb : (x.seq != 0) = true := by rw [bne_iff_ne]; exact hq
      have HN : Hid (restRd b = ansErr 11 0) := by show _ = _; rw [HX.out]; simp only [restOf]; rw [if_pos he, if_neg hq]
      clear hq he
      go_wp2_with (refine wpList_bstore (by rfl) _ _ _ (by rfl) w.heap.size 26 (by rfl) _ _ (by rfl) (hR.alloc _) 3 (by rfl) (by kernel_rfl) (by rfl) (by intro x hx; simp at hx; rcases hx with rfl | rfl | rfl <;> rfl) ?_; intro w9 hR9 hU9; replace hR := hR9; replace hB := hU9.below (hB.alloc hB.size _) (Nat.le_refl _); clear hR9 hU9)
      exact bodyPost_ret (v := .tuple #[.agg ([.slice none 0 0, .slice none 0 0, .slice none 0 0] : List Value).toArray, .int .i64 11, .int .i64 0]) (results_box3 (by rfl) _ _ w.heap.size 26 _ _ _ _ (by rfl) hR (by rfl) (by rfl) Try.underlying26 (by rfl) 3 (by rfl) (by kernel_rfl)) rfl ⟨by rw [HN.out]; exact ⟨none, 0, 0, none, 0, 0, none, 0, 0, rfl, Lists.nil _ _⟩, hB⟩
  · have heb : (x.err != 0) = true := by rw [bne_iff_ne]; exact he
    have HN : Hid (restRd b = ansErr x.err x.place) := by show _ = _; rw [HX.out]; simp only [restOf]; rw [if_neg he]
    clear he
    go_wp2_with (refine wpList_bstore (by rfl) _ _ _ (by rfl) w.heap.size 26 (by rfl) _ _ (by rfl) (hR.alloc _) 3 (by rfl) (by kernel_rfl) (by rfl) (by intro x hx; simp at hx; rcases hx with rfl | rfl | rfl <;> rfl) ?_; intro w9 hR9 hU9; replace hR := hR9; replace hB := hU9.below (hB.alloc hB.size _) (Nat.le_refl _); clear hR9 hU9)
    exact bodyPost_ret (v := .tuple #[.agg ([.slice none 0 0, .slice none 0 0, .slice none 0 0] : List Value).toArray, .int .i64 x.err, .int .i64 x.place]) (results_box3 (by rfl) _ _ w.heap.size 26 _ _ _ _ (by rfl) hR (by rfl) (by rfl) Try.underlying26 (by rfl) 3 (by rfl) (by kernel_rfl)) rfl ⟨by rw [HN.out]; exact ⟨none, 0, 0, none, 0, 0, none, 0, 0, rfl, Lists.nil _ _⟩, hB⟩

abbrev repC (a1 : Option Addr) (n1 c1 : Nat) (a2 : Option Addr) (n2 c2 : Nat) (a3 : Option Addr) (n3 c3 : Nat) : List Value := [.slice a1 n1 c1, .slice a2 n2 c2, .slice a3 n3 c3]

set_option maxRecDepth 100000 in
set_option maxHeartbeats 4000000 in
theorem restored_any (s : List UInt8) (w : World) (B go : Nat) (n : Int) (a4 : Option Addr) (d4 : Nat) (L : List Bk) (a5 : Option Addr) (d5 : Nat) (L2 : List Bk) (a6 : Option Addr) (d6 : Nat) (L3 : List Bk) (hO : OwnR w B go n a4 d4 L a5 d5 L2 a6 d6 L3) (hs : s.length ≤ 1099511627776) (hL : L.length ≤ 900 ∧ L2.length ≤ 900 ∧ L3.length ≤ 900) (hB : B ≤ go) (hn0 : 0 ≤ n) (hn1 : n ≤ 900) (hBw : B ≤ w.heap.size) :
    Calls Try.prog 21 #[.string (str s), .pointer (some ⟨go, 0, none⟩)] w fun e w' => (e = .returned (.bool true) ∧ ∃ a5 c5 L5 a6 c6 L6 a7 c7 L7, (L5.length = L.length + 4 ∧ L6.length = L2.length + 4 ∧ L7.length = L3.length + 4) ∧ OwnR w' B go (n + 1) a5 c5 L5 a6 c6 L6 a7 c7 L7) ∧ Below B w w' := by
  have HO : Hid (OwnR w B go n a4 d4 L a5 d5 L2 a6 d6 L3) := hO
  have HS : Hid (s.length ≤ 1099511627776) := hs
  have HL : Hid (L.length ≤ 900 ∧ L2.length ≤ 900 ∧ L3.length ≤ 900) := hL
  clear hO hs hL
  go_enter Try.func21, Try.ntmps21
  go_wp2_with fail
  refine (prestore_any s _ HS.out).mono ?_
  rintro e w1 ⟨⟨a1, n1, c1, a2, n2, c2, a3, n3, c3, rfl, hL1⟩, hb1⟩
  have H1 : Hid (Lists w1 w.heap.size (restRd s).K (restRd s).C (restRd s).E a1 n1 c1 a2 n2 c2 a3 n3 c3 ∧ Below w.heap.size w w1) := ⟨hL1, hb1⟩
  clear hL1 hb1
  have hfew : n1 ≤ 1099511627776 ∧ n2 ≤ 1099511627776 ∧ n3 ≤ 1099511627776 := by
    have := restRd_few s; have := HS.out; have := H1.out.1.e1; have := H1.out.1.e2; have := H1.out.1.e3; omega
  obtain ⟨f1, f2, f3⟩ := hfew
  generalize hx : restRd s = x at *
  have HX : Hid (restRd s = x) := hx
  clear hx
  have hX1 := Bx.new w1 26 (repC a1 n1 c1 a2 n2 c2 a3 n3 c3).toArray
  have hA1 : Below w1.heap.size w1 (w1.alloc (.cells (repC a1 n1 c1 a2 n2 c2 a3 n3 c3).toArray 26)) := (Below.refl _ _).alloc (Nat.le_refl _) _
  have HX1 : Hid (Bx (w1.alloc (.cells (repC a1 n1 c1 a2 n2 c2 a3 n3 c3).toArray 26)) w1.heap.size 26 (repC a1 n1 c1 a2 n2 c2 a3 n3 c3) ∧ Below w1.heap.size w1 (w1.alloc (.cells (repC a1 n1 c1 a2 n2 c2 a3 n3 c3).toArray 26))) := ⟨hX1, hA1⟩
  clear hX1 hA1
  go_wp2_with fail
  refine (rrestore_any s _ HS.out).mono ?_
  rintro e w2 ⟨⟨b1, m1, d1, b2, m2, d2, b3, m3, d3, he, hL2⟩, hb2⟩
  rw [HX.out] at he hL2
  subst he
  have em1 : m1 = n1 := by rw [hL2.e1, H1.out.1.e1]
  have em2 : m2 = n2 := by rw [hL2.e2, H1.out.1.e2]
  have em3 : m3 = n3 := by rw [hL2.e3, H1.out.1.e3]
  subst em1 em2 em3
  have H2 : Hid (Lists w2 0 x.K x.C x.E b1 m1 d1 b2 m2 d2 b3 m3 d3 ∧ Below w1.heap.size w1 w2) := ⟨hL2.mono (Nat.zero_le _), HX1.out.2.trans (hb2.mono HX1.out.2.size)⟩
  have hX1 := HX1.out.1.below hb2 HX1.out.1.lt
  have HXX : Hid (Bx (w2.alloc (.cells (repC b1 m1 d1 b2 m2 d2 b3 m3 d3).toArray 26)) w2.heap.size 26 (repC b1 m1 d1 b2 m2 d2 b3 m3 d3) ∧ Bx (w2.alloc (.cells (repC b1 m1 d1 b2 m2 d2 b3 m3 d3).toArray 26)) w1.heap.size 26 (repC a1 m1 c1 a2 m2 c2 a3 m3 c3) ∧ Below w2.heap.size w2 (w2.alloc (.cells (repC b1 m1 d1 b2 m2 d2 b3 m3 d3).toArray 26))) := ⟨Bx.new w2 26 (repC b1 m1 d1 b2 m2 d2 b3 m3 d3).toArray, hX1.alloc _, (Below.refl _ _).alloc (Nat.le_refl _) _⟩
  have x0 := HXX.out.2.1.cell 0
  have x1 := HXX.out.2.1.cell 1
  have x2 := HXX.out.2.1.cell 2
  dsimp only [List.getElem?_cons_zero, List.getElem?_cons_succ] at x0 x1 x2
  clear hX1 hb2 hL2
  have HA := H1.out.1.keep H2.out.2 |>.keep HXX.out.2.2 |>.has f1 f2 f3
  have HBb := H2.out.1.keep HXX.out.2.2 |>.has f1 f2 f3
  have HHA : Hid (Has (w2.alloc (.cells (repC b1 m1 d1 b2 m2 d2 b3 m3 d3).toArray 26)) (repOf x.K x.C x.E) a1 a2 a3 ∧ repV (repOf x.K x.C x.E) a1 a2 a3 c1 c2 c3 = .agg #[.slice a1 m1 c1, .slice a2 m2 c2, .slice a3 m3 c3]) := HA
  have HHB : Hid (Has (w2.alloc (.cells (repC b1 m1 d1 b2 m2 d2 b3 m3 d3).toArray 26)) (repOf x.K x.C x.E) b1 b2 b3 ∧ repV (repOf x.K x.C x.E) b1 b2 b3 d1 d2 d3 = .agg #[.slice b1 m1 d1, .slice b2 m2 d2, .slice b3 m3 d3]) := HBb
  clear HA HBb
  go_wp2_with fail
  have hsr := sameReplica_any (repOf x.K x.C x.E) a1 a2 a3 b1 b2 b3 c1 c2 c3 d1 d2 d3 _ HHA.out.1 HHB.out.1
  rw [HHA.out.2, HHB.out.2] at hsr
  refine hsr.mono ?_
  rintro e w3 ⟨rfl, hb3⟩
  clear hsr x0 x1 x2
  have H3 : Hid (Below w2.heap.size w2 w3) := HXX.out.2.2.trans (hb3.mono HXX.out.2.2.size)
  have HX3 : Hid (Bx w3 w2.heap.size 26 (repC b1 m1 d1 b2 m2 d2 b3 m3 d3) ∧ Bx w3 w1.heap.size 26 (repC a1 m1 c1 a2 m2 c2 a3 m3 c3)) := ⟨HXX.out.1.below hb3 HXX.out.1.lt, HXX.out.2.1.below hb3 HXX.out.2.1.lt⟩
  clear hb3
  have H13 : Hid (Below w1.heap.size w1 w3) := H2.out.2.trans (H3.out.mono H2.out.2.size)
  have HW3 : Hid (Below w.heap.size w w3) := H1.out.2.trans (H13.out.mono H1.out.2.size)
  have x0 := HX3.out.2.cell 0
  have x1 := HX3.out.2.cell 1
  have x2 := HX3.out.2.cell 2
  dsimp only [List.getElem?_cons_zero, List.getElem?_cons_succ] at x0 x1 x2
  go_wp2_with fail
  refine (replica_any _ B w.heap.size go n a1 m1 c1 _ a2 m2 c2 _ a3 m3 c3 _ a4 d4 L a5 d5 L2 a6 d6 L3 (HO.out.keep HW3.out) ⟨HO.out.b1.old, HO.out.b2.old, HO.out.b3.old⟩ (H1.out.1.v1.keep H13.out) (H1.out.1.v2.keep H13.out) (H1.out.1.v3.keep H13.out) f1 f2 f3 (by have := HL.out; omega) (by have := HL.out; omega) (by have := HL.out; omega) hB hBw hn0 (by omega) (Nat.le_trans hBw HW3.out.size) HW3.out.size).mono ?_
  rintro e w4 ⟨⟨v, rfl⟩, ⟨q1, k1, M1, q2, k2, M2, q3, k3, M3, hM, hO4⟩, hb4, hlk⟩
  clear x0 x1 x2
  have H4 : Hid (OwnR w4 B go (n + 1) q1 k1 M1 q2 k2 M2 q3 k3 M3 ∧ Below B w w4) := ⟨hO4, (HW3.out.mono hBw).trans hb4⟩
  have HM : Hid (M1.length = L.length + 4 ∧ M2.length = L2.length + 4 ∧ M3.length = L3.length + 4) := hM
  clear hM hO4 hb4 hlk
  go_wp2_with fail
  refine (kept_any _ B go (n + 1) _ _ _ none 0 [] H4.out.1.o (Books.nil _ _ _ _ _) (by simp) (fun w' hw' => rkept_any w' B go (n + 1) q1 k1 M1 q2 k2 M2 q3 k3 M3 (H4.out.1.keep hw') (by have := HL.out; have := HM.out; omega) (by have := HL.out; have := HM.out; omega) (by have := HL.out; have := HM.out; omega))).mono ?_
  rintro e w6 ⟨rfl, hb6⟩
  have H6 : Hid (Below w4.heap.size w4 w6) := hb6
  clear hb6
  go_wp2_with fail
  go_ret
  exact ⟨⟨by simp, q1, k1, M1, q2, k2, M2, q3, k3, M3, HM.out, H4.out.1.keep H6.out⟩, H4.out.2.trans (H6.out.mono (Nat.le_trans hBw H4.out.2.size))⟩

set_option maxRecDepth 100000 in
set_option maxHeartbeats 4000000 in
theorem restores_any (s : List UInt8) (w : World) (hs : s.length ≤ 1099511627776) :
    Calls Try.prog 6 #[.string (str s)] w fun e w' => e = .returned (.bool true) ∧ Below w.heap.size w w' := by
  obtain ⟨hO, hW, hB⟩ := one_box w 41 #[.int .i64 0, .slice none 0 0, .slice none 0 0, .slice none 0 0, .slice none 0 0, .slice none 0 0]
  have H0 : Hid (OwnR (w.alloc (.cells #[.int .i64 0, .slice none 0 0, .slice none 0 0, .slice none 0 0, .slice none 0 0, .slice none 0 0] 41)) w.heap.size w.heap.size 0 none 0 [] none 0 [] none 0 []) := ⟨hO, Books.nil _ _ _ _ _, Books.nil _ _ _ _ _, Books.nil _ _ _ _ _⟩
  clear hO
  go_enter Try.func6, Try.ntmps6
  go_wp2_with fail
  refine (restored_any s _ w.heap.size w.heap.size 0 none 0 [] none 0 [] none 0 [] H0.out hs ⟨by simp, by simp, by simp⟩ (Nat.le_refl _) (by omega) (by omega) hB.size).mono ?_
  rintro e w1 ⟨⟨rfl, a5, c5, L5, a6, c6, L6, a7, c7, L7, hL, hO5⟩, hb1⟩
  have hb2 := hB.trans hb1
  have hL6 : L5.length ≤ 900 ∧ L6.length ≤ 900 ∧ L7.length ≤ 900 := by simp at hL; omega
  have HO5 : Hid (OwnR w1 w.heap.size w.heap.size (0 + 1) a5 c5 L5 a6 c6 L6 a7 c7 L7) := hO5
  clear hL hO5
  go_wp2_with fail
  refine (restored_any s _ w.heap.size w.heap.size (0 + 1) a5 c5 L5 a6 c6 L6 a7 c7 L7 HO5.out hs hL6 (Nat.le_refl _) (by omega) (by omega) hb2.size).mono ?_
  rintro e w2 ⟨⟨rfl, -⟩, hb3⟩
  go_wp2_with fail
  go_ret
  exact ⟨rfl, hb2.trans hb3⟩
end Go.Proofs.Ytdjpkgaicmklmaa

/- Restore of Export is that replica: without the program. -/
namespace Go.Proofs.Ytdjpkgaicmklmaa
open Go.RowKit

theorem clockTo_congr {c d : Nat → Ck} {site : Int} : ∀ {n : Nat}, (∀ i, i < n → c i = d i) → clockTo c site n = clockTo d site n
  | 0, _ => rfl
  | n + 1, h => by simp only [clockTo]; rw [clockTo_congr (fun i hi => h i (by omega)), h n (by omega)]
/-- The same replicas are alike to Check. -/
theorem Same.chk {R T : Rep} (h : Same R T) : R.chk = T.chk := by
  have e1 : R.manyB = T.manyB := by unfold Rep.manyB; rw [h.n1, h.n2, h.n3]
  have e2 : R.numB = T.numB := by
    unfold Rep.numB
    rw [anyTo_congr (q := T.num1) (fun i hi => by unfold Rep.num1; rw [h.c i hi]), anyTo_congr (p := R.num2) (q := T.num2) (fun i hi => by unfold Rep.num2; rw [h.d i hi]), anyTo_congr (p := R.num3) (q := T.num3) (fun i hi => by unfold Rep.num3; rw [h.e i hi]), h.n1, h.n2, h.n3]
  have e3 : R.txtB = T.txtB := by
    unfold Rep.txtB
    rw [anyTo_congr (q := T.txt2) (fun i hi => by unfold Rep.txt2; rw [h.d i hi]), anyTo_congr (p := R.txt3) (q := T.txt3) (fun i hi => by unfold Rep.txt3; rw [h.e i hi]), h.n2, h.n3]
  have e4 : R.risB = T.risB := by
    unfold Rep.risB
    rw [anyTo_congr (q := T.ris1) (fun i hi => by unfold Rep.ris1; rw [h.c i (by omega), h.c (i + 1) (by omega)]), anyTo_congr (p := R.ris2) (q := T.ris2) (fun i hi => by unfold Rep.ris2; rw [h.d i (by omega), h.d (i + 1) (by omega)]), h.n1, h.n2]
  have e5 : R.uncB = T.uncB := by
    unfold Rep.uncB
    rw [anyTo_congr (q := T.unc) (fun i hi => by unfold Rep.unc Rep.clk; rw [clockTo_congr h.c, h.d i hi, h.n1]), h.n2]
  have e6 : R.clashB = T.clashB := by
    unfold Rep.clashB
    rw [anyTo_congr (q := T.clash) (fun i hi => by unfold Rep.clash; rw [anyTo_congr (q := fun k => stampB (T.d i) (T.d k)) (fun k hk => by rw [h.d i hi, h.d k (by omega)])]), h.n2]
  unfold Rep.chk
  rw [e1, e2, e3, e4, e5, e6]
theorem same_lists (R : Rep) : Same (repOf ((List.range R.n1).map R.c) ((List.range R.n2).map R.d) ((List.range R.n3).map R.e)) R := by
  refine ⟨by simp [repOf], by simp [repOf], by simp [repOf], fun i hi => ?_, fun i hi => ?_, fun i hi => ?_⟩
  · have : i < R.n1 := by simpa [repOf] using hi
    simp [repOf, List.getD, this]
  · have : i < R.n2 := by simpa [repOf] using hi
    simp [repOf, List.getD, this]
  · have : i < R.n3 := by simpa [repOf] using hi
    simp [repOf, List.getD, this]
/-- Restore of a sound replica's bundle is that replica. -/
theorem restRd_bundle {R : Rep} (h : R.chk = 0) : restRd (bundleB (recsOf 0 0 R)) = ⟨0, 0, 0, 0, (List.range R.n1).map R.c, (List.range R.n2).map R.d, (List.range R.n3).map R.e⟩ := by
  unfold restRd
  rw [readRd_bundle (Rep.fit h) (Rep.rising h) ⟨by decide, by decide⟩ (by decide) (by decide) (fun _ => rfl)]
  simp only [restOf]
  rw [if_pos trivial, if_pos trivial, if_pos (by rw [(same_lists R).chk, h])]
end Go.Proofs.Ytdjpkgaicmklmaa

/- Bits of bytes turned over: without the program. -/
namespace Go.Proofs.Ytdjpkgaicmklmaa
open Go.RowKit

theorem allBits_get : ∀ (l : List UInt8) (i : Nat), (allBits l)[i]? = (l[i / 8]?).map fun x => x.toNat.testBit (7 - i % 8)
  | [], i => by simp [allBits]
  | x :: l, i => by
    rw [show allBits (x :: l) = bitsOf x ++ allBits l from by rw [show x :: l = [x] ++ l from rfl, allBits_append, allBits_one]]
    by_cases h : i < 8
    · rw [List.getElem?_append_left (by simpa [bitsOf] using h), show i / 8 = 0 by omega]
      have : i = 0 ∨ i = 1 ∨ i = 2 ∨ i = 3 ∨ i = 4 ∨ i = 5 ∨ i = 6 ∨ i = 7 := by omega
      rcases this with rfl | rfl | rfl | rfl | rfl | rfl | rfl | rfl <;> rfl
    · rw [List.getElem?_append_right (by simp [bitsOf]; omega), show i - (bitsOf x).length = i - 8 by simp [bitsOf], allBits_get l (i - 8)]
      rw [show i / 8 = (i - 8) / 8 + 1 by omega, List.getElem?_cons_succ, show (i - 8) % 8 = i % 8 by omega]
theorem bits_byte {x y : UInt8} (h : bitsOf x = bitsOf y) : x = y := by
  simp only [bitsOf, List.cons.injEq, and_true] at h
  obtain ⟨h7, h6, h5, h4, h3, h2, h1, h0⟩ := h
  apply UInt8.toNat_inj.mp
  apply Nat.eq_of_testBit_eq
  intro i
  by_cases hi : i < 8
  · have : i = 0 ∨ i = 1 ∨ i = 2 ∨ i = 3 ∨ i = 4 ∨ i = 5 ∨ i = 6 ∨ i = 7 := by omega
    rcases this with rfl | rfl | rfl | rfl | rfl | rfl | rfl | rfl <;> assumption
  · have hx := x.toNat_lt
    have hy := y.toNat_lt
    have hp : 2 ^ 8 ≤ 2 ^ i := Nat.pow_le_pow_right (by omega) (by omega)
    rw [Nat.testBit_lt_two_pow (by omega), Nat.testBit_lt_two_pow (by omega)]
theorem allBits_inj : ∀ {s t : List UInt8}, allBits s = allBits t → s = t
  | [], [], _ => rfl
  | [], _ :: _, h => by have := congrArg List.length h; rw [allBits_length, allBits_length] at this; simp at this
  | _ :: _, [], h => by have := congrArg List.length h; rw [allBits_length, allBits_length] at this; simp at this
  | x :: s, y :: t, h => by
    rw [show x :: s = [x] ++ s from rfl, show y :: t = [y] ++ t from rfl, allBits_append, allBits_append, allBits_one, allBits_one] at h
    have := List.append_inj h (by simp [bitsOf])
    rw [bits_byte this.1, allBits_inj this.2]

/-- A bit turned over. -/
def flipB (x : UInt8) (r : Nat) : UInt8 := x ^^^ UInt8.ofNat (2 ^ (7 - r))
def flipAt (l : List UInt8) (i : Nat) : List UInt8 := l.set (i / 8) (flipB (l.getD (i / 8) 0) (i % 8))
/-- The first k of the bits that are asked for, from bit a on. -/
def turnB (bit : Nat → Bool) (a : Nat) (s : List UInt8) : Nat → List UInt8
  | 0 => s
  | k + 1 => if bit k = true ∧ (a + k) / 8 < s.length then flipAt (turnB bit a s k) (a + k) else turnB bit a s k
theorem turn_len (bit : Nat → Bool) (a : Nat) (s : List UInt8) : ∀ k, (turnB bit a s k).length = s.length
  | 0 => rfl
  | k + 1 => by
    simp only [turnB]; split
    · simp [flipAt, turn_len bit a s k]
    · exact turn_len bit a s k

theorem flip_bit (x : UInt8) (r q : Nat) (hr : r < 8) (hq : q < 8) : (flipB x r).toNat.testBit (7 - q) = (x.toNat.testBit (7 - q) != decide (q = r)) := by
  unfold flipB
  rw [UInt8.toNat_xor, Nat.testBit_xor]
  have e : (UInt8.ofNat (2 ^ (7 - r))).toNat = 2 ^ (7 - r) := by
    rw [UInt8.toNat_ofNat']
    apply Nat.mod_eq_of_lt
    calc 2 ^ (7 - r) ≤ 2 ^ 7 := Nat.pow_le_pow_right (by omega) (by omega)
      _ < 2 ^ 8 := by decide
  rw [e, Nat.testBit_two_pow]
  congr 1
  exact decide_eq_decide.mpr (by omega)
/-- Turning over one bit leaves the others. -/
theorem flip_bits (l : List UInt8) (i j : Nat) (hi : i / 8 < l.length) : (allBits (flipAt l i))[j]? = ((allBits l)[j]?).map fun x => x != decide (j = i) := by
  rw [allBits_get, allBits_get]
  unfold flipAt
  by_cases hj : j / 8 = i / 8
  · rw [hj, List.getElem?_set_self hi, List.getElem?_eq_getElem hi]
    simp only [Option.map_some, List.getD_eq_getElem?_getD, List.getElem?_eq_getElem hi, Option.getD_some]
    rw [flip_bit _ _ _ (by omega) (by omega)]
    congr 2
    exact decide_eq_decide.mpr (by omega)
  · rw [List.getElem?_set_ne (by omega)]
    have : j ≠ i := fun e => hj (by rw [e])
    simp only [Option.map_map]
    congr 1
    funext x
    simp [this]
theorem turn_bits (bit : Nat → Bool) (a : Nat) (s : List UInt8) (j : Nat) : ∀ k, (allBits (turnB bit a s k))[j]? = ((allBits s)[j]?).map fun x => x != (decide (a ≤ j ∧ j < a + k) && bit (j - a))
  | 0 => by
    have : decide (a ≤ j ∧ j < a + 0) = false := decide_eq_false (by omega)
    rw [this]; simp [turnB]
  | k + 1 => by
    simp only [turnB]
    by_cases hb : bit k = true ∧ (a + k) / 8 < s.length
    · rw [if_pos hb, flip_bits _ _ _ (by rw [turn_len]; exact hb.2), turn_bits bit a s j k, Option.map_map]
      congr 1
      funext x
      simp only [Function.comp_apply]
      by_cases hj : j = a + k
      · rw [hj, show a + k - a = k by omega, hb.1]; simp
      · rw [decide_eq_false hj, show decide (a ≤ j ∧ j < a + (k + 1)) = decide (a ≤ j ∧ j < a + k) from decide_eq_decide.mpr (by omega)]; simp
    · rw [if_neg hb, turn_bits bit a s j k]
      by_cases hj : j = a + k
      · by_cases hb1 : bit k = true
        · have : s.length ≤ (a + k) / 8 := by
            rcases Nat.lt_or_ge ((a + k) / 8) s.length with h | h
            · exact absurd ⟨hb1, h⟩ hb
            · exact h
          rw [List.getElem?_eq_none (by rw [allBits_length]; omega)]; rfl
        · congr 1; funext x
          rw [hj, show a + k - a = k by omega, eq_false_of_ne_true hb1]; simp
      · rw [show decide (a ≤ j ∧ j < a + (k + 1)) = decide (a ≤ j ∧ j < a + k) from decide_eq_decide.mpr (by omega)]
/-- All of it that is turned lies within k bits. -/
theorem turn_parts (bit : Nat → Bool) (a : Nat) (s : List UInt8) (k : Nat) :
    ∃ x e e' c, allBits s = x ++ e ++ c ∧ allBits (turnB bit a s k) = x ++ e' ++ c ∧ e.length = e'.length ∧ e.length ≤ k := by
  have split3 : ∀ l : List Bool, l = l.take a ++ (l.drop a).take k ++ l.drop (a + k) := by
    intro l; rw [List.append_assoc, ← List.drop_drop, List.take_append_drop, List.take_append_drop]
  have hlen : (allBits (turnB bit a s k)).length = (allBits s).length := by rw [allBits_length, allBits_length, turn_len]
  refine ⟨(allBits s).take a, ((allBits s).drop a).take k, ((allBits (turnB bit a s k)).drop a).take k, (allBits s).drop (a + k), split3 _, ?_, by simp [hlen], by simp; omega⟩
  conv => lhs; rw [split3 (allBits (turnB bit a s k))]
  congr 1
  · congr 1
    apply List.ext_getElem?; intro j
    by_cases hj : j < a
    · rw [List.getElem?_take_of_lt hj, List.getElem?_take_of_lt hj, turn_bits, show decide (a ≤ j ∧ j < a + k) = false from decide_eq_false (by omega)]; simp
    · rw [List.getElem?_eq_none (by simp; omega), List.getElem?_eq_none (by simp; omega)]
  · apply List.ext_getElem?; intro j
    rw [List.getElem?_drop, List.getElem?_drop, turn_bits, show decide (a ≤ a + k + j ∧ a + k + j < a + k) = false from decide_eq_false (by omega)]; simp
/-- One bit that is turned over within the bytes: they are others. -/
theorem turn_one (bit : Nat → Bool) (a : Nat) (s : List UInt8) (k i : Nat) (hi : i < k) (hb : bit i = true) (ha : a + i < 8 * s.length) : turnB bit a s k ≠ s := by
  intro h
  have e := turn_bits bit a s (a + i) k
  rw [h, List.getElem?_eq_getElem (by rw [allBits_length]; exact ha), show decide (a ≤ a + i ∧ a + i < a + k) = true from decide_eq_true (by omega), show a + i - a = i by omega, hb] at e
  simp at e

/-- The sum of bytes in which bits within 32 are turned is another. -/
theorem crc_turned {p : Nat} (hp : p < 4294967296) (ho : p % 2 = 1) (bit : Nat → Bool) (a : Nat) (s : List UInt8) (h : turnB bit a s 32 ≠ s) : crc p (turnB bit a s 32) ≠ crc p s := by
  obtain ⟨x, e, e', c, h1, h2, h3, h4⟩ := turn_parts bit a s 32
  intro hc
  have := crc_turn hp ho _ _ x e e' c h1 h2 h3 h4 hc.symm
  rw [this] at h1
  exact h (allBits_inj (h2.trans h1.symm))
/-- What ends in its own sum, with such bits turned, does not. -/
theorem seal_turned {p : Nat} (hp : p < 4294967296) (ho : p % 2 = 1) (bit : Nat → Bool) (a : Nat) (s t : List UInt8) (h : turnB bit a (s ++ fourI (crc p s)) 32 = t ++ fourI (crc p t)) : turnB bit a (s ++ fourI (crc p s)) 32 = s ++ fourI (crc p s) := by
  obtain ⟨x, e, e', c, h1, h2, h3, h4⟩ := turn_parts bit a (s ++ fourI (crc p s)) 32
  have := torn hp ho s t x e e' c h1 (by rw [← h]; exact h2) h3 h4
  rw [this] at h1
  exact allBits_inj (h2.trans h1.symm)
theorem vol_turned {i n : Nat} {s : Nat} {p : List UInt8} (bit : Nat → Bool) (a : Nat) (h : turnB bit a (volB i n s p) 32 ≠ volB i n s p) : volOk (turnB bit a (volB i n s p) 32) = false := by
  obtain ⟨x, e, e', c, h1, h2, h3, h4⟩ := turn_parts bit a (volB i n s p) 32
  refine vol_torn x e e' c h1 h2 h3 h4 ?_
  intro he
  rw [he] at h1
  exact h (allBits_inj (h2.trans h1.symm))
end Go.Proofs.Ytdjpkgaicmklmaa

/- A bundle with turned bits is refused; how long a sound replica's bundle is: without the program. -/
namespace Go.Proofs.Ytdjpkgaicmklmaa
open Go.RowKit

theorem sum_le (f : Nat → Nat) (c : Nat) : ∀ (l : List Nat), (∀ x ∈ l, f x ≤ c) → (l.map f).sum ≤ l.length * c
  | [], _ => by simp
  | x :: l, h => by
    have := sum_le f c l (fun y hy => h y (by simp [hy]))
    have := h x (by simp)
    simp only [List.map_cons, List.sum_cons, List.length_cons, Nat.add_mul, Nat.one_mul]; omega
theorem Rep.many {R : Rep} (h : R.chk = 0) : R.n1 ≤ 8 ∧ R.n2 ≤ 40 ∧ R.n3 ≤ 16 := by
  have g1 : R.manyB = false := by
    cases hh : R.manyB
    · rfl
    · simp [Rep.chk, hh] at h
  unfold Rep.manyB at g1; simp at g1; omega
/-- A sound replica's bundle can be split. -/
theorem bundle_small {R : Rep} (h : R.chk = 0) : (bundleB (recsOf 0 0 R)).length ≤ 6000 := by
  obtain ⟨m1, m2, m3⟩ := Rep.many h
  have hF := Rep.fit h
  have h1 : ((List.range R.n1).map (fun i => lenF (fdClock (R.c i)))).sum ≤ R.n1 * 28 := by
    have := sum_le (fun i => lenF (fdClock (R.c i))) 28 (List.range R.n1) (fun i _ => by
      have := bytesI_le 9 (R.c i).site; have := bytesI_le 9 (R.c i).count
      show lenF _ ≤ _; rw [lenF_clock]; omega)
    simpa using this
  have h2 : ((List.range R.n2).map (fun i => lenF (fdCard (R.d i)))).sum ≤ R.n2 * 99 := by
    have := sum_le (fun i => lenF (fdCard (R.d i))) 99 (List.range R.n2) (fun i hi => by
      have := bytesI_le 9 (R.d i).site; have := bytesI_le 9 (R.d i).count; have := bytesI_le 9 (R.d i).id; have := (hF.d1 i (List.mem_range.mp hi)).2.2.2
      show lenF _ ≤ _; rw [lenF_card]; omega)
    simpa using this
  have h3 : ((List.range R.n3).map (fun i => lenF (fdEdit (R.e i)))).sum ≤ R.n3 * 78 := by
    have := sum_le (fun i => lenF (fdEdit (R.e i))) 78 (List.range R.n3) (fun i hi => by
      have := bytesI_le 9 (R.e i).id; have := (hF.e1 i (List.mem_range.mp hi)).2
      show lenF _ ≤ _; rw [lenF_edit]; omega)
    simpa using this
  have h0 := lenF_head
  rw [bundleB_length]
  have e : lenL (recsOf 0 0 R) = lenF (fdHead 0 0) + ((List.range R.n1).map (fun i => lenF (fdClock (R.c i)))).sum + ((List.range R.n2).map (fun i => lenF (fdCard (R.d i)))).sum + ((List.range R.n3).map (fun i => lenF (fdEdit (R.e i)))).sum := by
    simp only [lenL, recsOf, recs3, recs2, recs1, List.map_append, List.map_cons, List.map_map, List.sum_append, List.sum_cons, Function.comp_def]
  rw [e]; omega

theorem readRd_sealed {b : List UInt8} (h : (readRd b).err = 0) : b = b.take (b.length - 4) ++ fourI (crc pSeal (b.take (b.length - 4))) := by
  unfold readRd at h
  split at h
  · simp [ansErr] at h
  · split at h
    · rename_i hs
      simp only [sealedB, Bool.and_eq_true, decide_eq_true_eq, beq_iff_eq] at hs
      rw [← hs.2, List.take_append_drop]
    · simp [ansErr] at h
theorem restRd_read {b : List UInt8} (h : (restRd b).err = 0) : (readRd b).err = 0 := by
  unfold restRd restOf at h
  split at h
  · assumption
  · exact h
theorem pSeal_lt : pSeal < 4294967296 := by decide
theorem pSeal_odd : pSeal % 2 = 1 := by decide
/-- A bundle with bits turned over within 32 consecutive ones is refused. -/
theorem read_turned (bit : Nat → Bool) (a : Nat) (l : List Fd) (h : turnB bit a (bundleB l) 32 ≠ bundleB l) : (readRd (turnB bit a (bundleB l) 32)).err ≠ 0 ∧ (restRd (turnB bit a (bundleB l) 32)).err ≠ 0 := by
  have k : (readRd (turnB bit a (bundleB l) 32)).err ≠ 0 := fun h0 => h (seal_turned pSeal_lt pSeal_odd bit a (bodyB l) _ (readRd_sealed h0))
  exact ⟨k, fun h0 => k (restRd_read h0)⟩
end Go.Proofs.Ytdjpkgaicmklmaa

/- What Read lets by rises; Replay, Extend and chains: without the program. -/
namespace Go.Proofs.Ytdjpkgaicmklmaa
open Go.RowKit

theorem ord_asc : ∀ (l : List Fd) (p : Fd), ordF p l = none → Asc Ck.site (ckOf l) ∧ Asc Cd.id (cdOf l) ∧ (p.kind = 1 → ∀ x ∈ ckOf l, p.site < x.site) ∧
    (p.kind = 2 → ckOf l = [] ∧ ∀ x ∈ cdOf l, p.id < x.id) ∧ (p.kind = 3 → ckOf l = [] ∧ cdOf l = [])
  | [], p, _ => by simp [ckOf, cdOf, Asc]
  | f :: l, p, h => by
    simp only [ordF] at h
    split at h
    · rename_i hf
      obtain ⟨a, b, h1, h2, h3⟩ := ord_asc l f h
      by_cases k1 : f.kind = 1
      · have e1 : ckOf (f :: l) = ⟨f.site, f.count⟩ :: ckOf l := by simp [ckOf, k1]
        have e2 : cdOf (f :: l) = cdOf l := by simp [cdOf, k1]
        have h1 := h1 k1
        simp only [fitB, if_pos k1, Bool.or_eq_true, Bool.and_eq_true, beq_iff_eq, decide_eq_true_eq] at hf
        rw [e1, e2]
        refine ⟨List.pairwise_cons.mpr ⟨fun x hx => h1 x hx, a⟩, b, fun hp x hx => ?_, fun hp => by omega, fun hp => by omega⟩
        rcases List.mem_cons.mp hx with rfl | hx
        · simp only; omega
        · have := h1 x hx; omega
      · by_cases k2 : f.kind = 2
        · have e1 : ckOf (f :: l) = ckOf l := by simp [ckOf, k2]
          have e2 : cdOf (f :: l) = ⟨f.id, f.site, f.count, f.gone, f.text⟩ :: cdOf l := by simp [cdOf, k2]
          obtain ⟨z, h2⟩ := h2 k2
          simp only [fitB, if_neg k1, if_pos k2, Bool.or_eq_true, Bool.and_eq_true, beq_iff_eq, decide_eq_true_eq] at hf
          rw [e1, e2]
          refine ⟨a, List.pairwise_cons.mpr ⟨fun x hx => h2 x hx, b⟩, fun hp x hx => by rw [z] at hx; simp at hx, fun hp => ⟨z, fun x hx => ?_⟩, fun hp => by omega⟩
          rcases List.mem_cons.mp hx with rfl | hx
          · simp only; omega
          · have := h2 x hx; omega
        · by_cases k3 : f.kind = 3
          · have e1 : ckOf (f :: l) = ckOf l := by simp [ckOf, k3]
            have e2 : cdOf (f :: l) = cdOf l := by simp [cdOf, k3]
            obtain ⟨z1, z2⟩ := h3 k3
            rw [e1, e2, z1, z2]; simp [Asc]
          · simp [fitB, k1, k2, k3] at hf
    · cases h
theorem read_asc (b : List UInt8) : Asc Ck.site (readRd b).K ∧ Asc Cd.id (readRd b).C := by
  have he : ∀ e p, Asc Ck.site (ansErr e p).K ∧ Asc Cd.id (ansErr e p).C := fun e p => by simp [ansErr, Asc]
  unfold readRd
  split
  · exact he _ _
  · split
    · split
      · exact he _ _
      · split
        · exact he _ _
        · rename_i hn
          generalize (framed (b.take (b.length - 4))).1 = l at *
          cases l with
          | nil => simp [ordRd] at hn
          | cons f l =>
            simp only [ordRd] at hn
            split at hn
            · rename_i k4
              have h := ord_asc l f hn
              have e1 : ckOf (f :: l) = ckOf l := by simp [ckOf, k4]
              have e2 : cdOf (f :: l) = cdOf l := by simp [cdOf, k4]
              simp only [ansOk]; rw [e1, e2]; exact ⟨h.1, h.2.1⟩
            · cases hn
    · exact he _ _

/-- Lists of a replica. -/
structure Tri where
  K : List Ck
  C : List Cd
  E : List Ed
def Ans.st (x : Ans) : Tri := ⟨x.K, x.C, x.E⟩
def Tri.rep (x : Tri) : Rep := repOf x.K x.C x.E
def layS (a b : Tri) : Tri := ⟨layK Ck.site (fun _ c => c) a.K b.K, layK Cd.id (fun _ c => c) a.C b.C, b.E⟩
def sealR (b : List UInt8) : Int := fourRd (b.drop (b.length - 4))
def seqIx (l : List (List UInt8)) (n : Int) : Nat := l.findIdx (fun b => (readRd b).seq == n)
def linkR (l : List (List UInt8)) (n : Int) : List UInt8 := l.getD (seqIx l n) []
def chainSt (l : List (List UInt8)) : Nat → Tri
  | 0 => (readRd (linkR l 0)).st
  | n + 1 => layS (chainSt l n) (readRd (linkR l ((n + 1 : Nat) : Int))).st
def bad4 (l : List (List UInt8)) (i : Nat) : Bool := (readRd (l.getD i [])).err != 0
def bad5 (l : List (List UInt8)) (i : Nat) : Bool := (l.take i).any fun b => (readRd b).seq == (readRd (l.getD i [])).seq
def bad6 (l : List (List UInt8)) (n : Nat) : Bool := !(l.any fun b => (readRd b).seq == (n : Int))
def bad7 (l : List (List UInt8)) (i : Nat) : Bool := decide (0 < (readRd (l.getD i [])).seq) && sealR (linkR l ((readRd (l.getD i [])).seq - 1)) != (readRd (l.getD i [])).base
def replayRd (l : List (List UInt8)) : Ans :=
  if 16 < l.length then ansErr 1 0 else
  match firstOf (bad4 l) l.length with
  | some i => ansErr (readRd (l.getD i [])).err i
  | none => match firstOf (bad5 l) l.length with
    | some i => ansErr 15 i
    | none => if l.length = 0 ∨ (firstOf (bad6 l) l.length).isSome = true then ansErr 16 0 else
      match firstOf (bad7 l) l.length with
      | some i => ansErr 17 i
      | none => if (chainSt l (l.length - 1)).rep.chk = 0 then ⟨0, 0, 0, 0, (chainSt l (l.length - 1)).K, (chainSt l (l.length - 1)).C, (chainSt l (l.length - 1)).E⟩ else ansErr (chainSt l (l.length - 1)).rep.chk 0

/-- Bundles of a chain, in their order. -/
structure Links (bs : List (List UInt8)) : Prop where
  pos : 0 < bs.length
  few : bs.length ≤ 16
  err : ∀ i, i < bs.length → (readRd (bs.getD i [])).err = 0
  seq : ∀ i, i < bs.length → (readRd (bs.getD i [])).seq = (i : Int)
  base : ∀ i, i + 1 < bs.length → (readRd (bs.getD (i + 1) [])).base = sealR (bs.getD i [])
theorem links_mem {bs : List (List UInt8)} {b : List UInt8} (h : b ∈ bs) : ∃ i, i < bs.length ∧ b = bs.getD i [] := by
  obtain ⟨i, hi, rfl⟩ := List.mem_iff_getElem.mp h
  exact ⟨i, hi, by simp [hi]⟩
theorem Links.link {bs l : List (List UInt8)} (h : Links bs) (hp : l.Perm bs) (n : Nat) (hn : n < bs.length) : linkR l (n : Int) = bs.getD n [] := by
  have hm : bs.getD n [] ∈ l := hp.mem_iff.mpr (volAt_mem hn)
  have ha : seqIx l (n : Int) < l.length := by
    unfold seqIx; rw [List.findIdx_lt_length]; exact ⟨_, hm, by simp only [beq_iff_eq]; exact h.seq n hn⟩
  have hq : (readRd (linkR l (n : Int))).seq = (n : Int) := by
    have := List.findIdx_getElem (w := ha) (p := fun b => (readRd b).seq == (n : Int))
    unfold linkR
    rw [List.getD_eq_getElem?_getD, List.getElem?_eq_getElem ha]
    have e2 := of_decide_eq_true (p := (readRd (l[l.findIdx (fun b => (readRd b).seq == (n : Int))]'ha)).seq = (n : Int)) (by simpa using this)
    exact e2
  have hin : linkR l (n : Int) ∈ l := volAt_mem ha
  obtain ⟨i, hi, e⟩ := links_mem (hp.mem_iff.mp hin)
  have := h.seq i hi
  rw [e, this] at hq
  rw [e, show i = n by omega]
theorem Links.chain {bs l : List (List UInt8)} (h : Links bs) (hp : l.Perm bs) : ∀ n, n < bs.length → chainSt l n = chainSt bs n
  | 0, hn => by
    have h1 := h.link hp 0 hn
    have h2 := h.link (List.Perm.refl bs) 0 hn
    simp only [chainSt]
    rw [show ((0 : Nat) : Int) = 0 from rfl] at h1 h2
    rw [h1, h2]
  | n + 1, hn => by simp only [chainSt]; rw [h.chain hp n (by omega), h.link hp (n + 1) hn, h.link (List.Perm.refl bs) (n + 1) hn]
theorem links_seqs {bs : List (List UInt8)} (h : Links bs) : bs.map (fun b => (readRd b).seq) = (List.range bs.length).map (fun (i : Nat) => (i : Int)) := by
  apply List.ext_getElem?; intro i
  by_cases hi : i < bs.length
  · have := h.seq i hi
    rw [List.getD_eq_getElem?_getD, List.getElem?_eq_getElem hi] at this
    simp [hi]; exact this
  · simp [Nat.le_of_not_lt hi]
/-- A chain, in any order, is replayed to what its states make one over the other. -/
theorem replay_links {bs l : List (List UInt8)} (h : Links bs) (hp : l.Perm bs) (hc : (chainSt bs (bs.length - 1)).rep.chk = 0) :
    replayRd l = ⟨0, 0, 0, 0, (chainSt bs (bs.length - 1)).K, (chainSt bs (bs.length - 1)).C, (chainSt bs (bs.length - 1)).E⟩ := by
  have hl := hp.length_eq
  have pos := h.pos
  have few := h.few
  have hof : ∀ i, i < l.length → ∃ j, j < bs.length ∧ l.getD i [] = bs.getD j [] := fun i hi => links_mem (hp.mem_iff.mp (volAt_mem hi))
  have n4 : ∀ i, i < l.length → bad4 l i = false := by
    intro i hi
    obtain ⟨j, hj, e⟩ := hof i hi
    simp only [bad4]; rw [e, h.err j hj]; rfl
  have hnd : (l.map (fun b => (readRd b).seq)).Nodup := by
    refine (hp.map _).nodup_iff.mpr ?_
    rw [links_seqs h, List.nodup_iff_pairwise_ne, List.pairwise_map]
    refine List.Pairwise.imp ?_ (List.nodup_iff_pairwise_ne.mp (List.nodup_range (n := bs.length)))
    intro a b hab e; omega
  have n5 : ∀ i, i < l.length → bad5 l i = false := by
    intro i hi
    rw [List.nodup_iff_pairwise_ne, List.pairwise_iff_getElem] at hnd
    simp only [bad5, List.any_eq_false, beq_iff_eq]
    intro v hv he
    rw [List.mem_take_iff_getElem] at hv
    obtain ⟨j, hj, rfl⟩ := hv
    refine hnd j i (by simp; omega) (by simpa using hi) (by omega) ?_
    simp only [List.getElem_map]
    rw [he, List.getD_eq_getElem?_getD, List.getElem?_eq_getElem hi]; rfl
  have n6 : ∀ n, n < l.length → bad6 l n = false := by
    intro n hn
    simp only [bad6, Bool.not_eq_false', List.any_eq_true, beq_iff_eq]
    exact ⟨bs.getD n [], hp.mem_iff.mpr (volAt_mem (by omega)), h.seq n (by omega)⟩
  have n7 : ∀ i, i < l.length → bad7 l i = false := by
    intro i hi
    obtain ⟨j, hj, e⟩ := hof i hi
    simp only [bad7]
    rw [e, h.seq j hj]
    cases j with
    | zero => rfl
    | succ j =>
      rw [show ((j + 1 : Nat) : Int) - 1 = (j : Int) by omega, h.link hp j (by omega), h.base j hj]
      simp
  unfold replayRd
  rw [if_neg (by omega), firstOf_none.mpr n4, firstOf_none.mpr n5]
  simp only
  rw [if_neg (by
    rw [firstOf_none.mpr n6]
    rintro (q | q)
    · omega
    · cases q), firstOf_none.mpr n7]
  simp only
  rw [hl, h.chain hp _ (by omega), if_pos hc]
end Go.Proofs.Ytdjpkgaicmklmaa

