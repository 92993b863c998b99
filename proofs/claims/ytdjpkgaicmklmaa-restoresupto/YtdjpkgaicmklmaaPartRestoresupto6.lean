/- Texts of the proof, one behind the other; what each holds is said at its head. -/
import Derived.Test.YtdjpkgaicmklmaaPartRestoresupto4
import Derived.Deep.RegionLaw
import Derived.Test.YtdjpkgaicmklmaaPartRestoresupto5
import Derived.Test.YtdjpkgaicmklmaaPartRestoresupto0
import Derived.Deep.RegionHeld3
import Derived.Test.YtdjpkgaicmklmaaPartRestoresupto1
/- The owner writes over what came out: (*parcellaw.own).replica, walked. -/
namespace Go.Proofs.Ytdjpkgaicmklmaa
open Go.RowKit

/-- The owner's variable and his books of replicas' lists. -/
structure OwnR (w : World) (B go : Nat) (n : Int) (a1 : Option Addr) (c1 : Nat) (L1 : List Bk) (a2 : Option Addr) (c2 : Nat) (L2 : List Bk) (a3 : Option Addr) (c3 : Nat) (L3 : List Bk) : Prop where
  o : Bx w go 41 [.int .i64 n, .slice a1 L1.length c1, .slice a2 L2.length c2, .slice a3 L3.length c3, .slice none 0 0, .slice none 0 0]
  b1 : Books ShCk w B 67 110 2 a1 c1 L1
  b2 : Books ShCd w B 69 146 5 a2 c2 L2
  b3 : Books ShEd w B 71 148 2 a3 c3 L3
theorem OwnR.keep {w w' : World} {B go : Nat} {n : Int} {a1 : Option Addr} {c1 : Nat} {L1 : List Bk} {a2 : Option Addr} {c2 : Nat} {L2 : List Bk} {a3 : Option Addr} {c3 : Nat} {L3 : List Bk} (h : OwnR w B go n a1 c1 L1 a2 c2 L2 a3 c3 L3) (hb : Below w.heap.size w w') : OwnR w' B go n a1 c1 L1 a2 c2 L2 a3 c3 L3 := ⟨h.o.below hb h.o.lt, h.b1.keep hb, h.b2.keep hb, h.b3.keep hb⟩
theorem Books.old {Sh : List Value → Prop} {w : World} {B e eb m : Nat} {ad : Option Addr} {cap : Nat} {L : List Bk} (h : Books Sh w B e eb m ad cap L) : ∀ x, x ∈ L → ∀ b, x.ad = some b → b.block < w.heap.size := by
  intro x hx b hb
  obtain ⟨_, cur, hc⟩ := (h.each x hx).vec.typed b.block (by rw [hb]; rfl)
  exact (Array.getElem?_eq_some_iff.1 hc).1

theorem bx_six {Sh : List Value → Prop} {w0 w X w6 : World} {B B1 go gm tT e eb m f gr tr : Nat} {oc mk row cs : List Value} {ad : Option Addr} {N cap : Nat} {a4 : Option Addr} {c4 : Nat} {L : List Bk} (hk : Kp (a4.map (·.block)) row X w6) (h : St Sh w0 w B B1 go gm tT e eb m f oc mk ad N cap a4 c4 L) (hG : Bx w gr tr cs) (hb : Below w.heap.size w X) (h1 : eb ≠ tr) : Bx w6 gr tr cs :=
  (hG.below hb hG.lt).kp hk ((hG.below hb hG.lt).apart (h.b.keep hb) h1)
theorem Bx.but3 {w w' : World} {k t go e eb : Nat} {cs : List Value} (b : Bx w k t cs) (hb : But3 go e eb w w') (hk : k ≠ go) (h1 : t ≠ e) (h2 : t ≠ eb) : Bx w' k t cs := ⟨hb.block k _ t hk b.h h1 h2⟩

set_option maxRecDepth 100000 in
set_option maxHeartbeats 4000000 in
theorem replica_any (w : World) (B B1 go : Nat) (n : Int) (ad : Option Addr) (N cap : Nat) (xs : List Value) (r2 : Option Addr) (N2 k2 : Nat) (xs2 : List Value) (r3 : Option Addr) (N3 k3 : Nat) (xs3 : List Value) (a4 : Option Addr) (c4 : Nat) (L : List Bk) (a2 : Option Addr) (c2 : Nat) (L2 : List Bk) (a3 : Option Addr) (c3 : Nat) (L3 : List Bk)
    (hOR : OwnR w B go n a4 c4 L a2 c2 L2 a3 c3 L3) (hfr0 : (∀ x, x ∈ L → ∀ b, x.ad = some b → b.block < B1) ∧ (∀ x, x ∈ L2 → ∀ b, x.ad = some b → b.block < B1) ∧ (∀ x, x ∈ L3 → ∀ b, x.ad = some b → b.block < B1))
    (hv0 : Vec w B1 67 2 ad N cap xs) (hv2 : Vec w B1 69 5 r2 N2 k2 xs2) (hv3 : Vec w B1 71 2 r3 N3 k3 xs3) (hN : N ≤ 1099511627776) (hN2 : N2 ≤ 1099511627776) (hN3 : N3 ≤ 1099511627776) (hL : L.length ≤ 1000) (hL2 : L2.length ≤ 1000) (hL3 : L3.length ≤ 1000) (hB : B ≤ go) (hB1 : B ≤ B1) (hn0 : 0 ≤ n) (hn1 : n ≤ 999) (hBw0 : B ≤ w.heap.size) (hB1w0 : B1 ≤ w.heap.size) :
    Calls Try.prog 45 #[.pointer (some ⟨go, 0, none⟩), .agg #[.slice ad N cap, .slice r2 N2 k2, .slice r3 N3 k3]] w fun e w' => (∃ v, e = .returned v) ∧ (∃ a5 c5 L5 a6 c6 L6 a7 c7 L7, (L5.length = L.length + 4 ∧ L6.length = L2.length + 4 ∧ L7.length = L3.length + 4) ∧ OwnR w' B go (n + 1) a5 c5 L5 a6 c6 L6 a7 c7 L7) ∧ Below B w w' ∧ (∀ g cs, Bx w g 75 cs → Bx w' g 75 cs) := by
  have hal : Below w.heap.size w (w.alloc (.cells #[.slice ad N cap, .slice r2 N2 k2, .slice r3 N3 k3] 26)) := (Below.refl _ _).alloc (Nat.le_refl _) _
  have HOR : Hid (OwnR (w.alloc (.cells #[.slice ad N cap, .slice r2 N2 k2, .slice r3 N3 k3] 26)) B go n a4 c4 L a2 c2 L2 a3 c3 L3) := hOR.keep hal
  have HV23 : Hid (Vec (w.alloc (.cells #[.slice ad N cap, .slice r2 N2 k2, .slice r3 N3 k3] 26)) B1 69 5 r2 N2 k2 xs2 ∧ Vec (w.alloc (.cells #[.slice ad N cap, .slice r2 N2 k2, .slice r3 N3 k3] 26)) B1 71 2 r3 N3 k3 xs3) := ⟨hv2.keep hal, hv3.keep hal⟩
  have HF23 : Hid ((∀ x, x ∈ L2 → ∀ b, x.ad = some b → b.block < B1) ∧ (∀ x, x ∈ L3 → ∀ b, x.ad = some b → b.block < B1)) := ⟨hfr0.2.1, hfr0.2.2⟩
  have HAL : Hid (Below B w (w.alloc (.cells #[.slice ad N cap, .slice r2 N2 k2, .slice r3 N3 k3] 26))) := hal.mono hBw0
  have hO := HOR.out.o
  have hK := HOR.out.b1
  have hfr := hfr0.1
  have hv := hv0.keep hal
  have hBw : B ≤ ((w.alloc (.cells #[.slice ad N cap, .slice r2 N2 k2, .slice r3 N3 k3] 26))).heap.size := Nat.le_trans hBw0 hal.size
  have hB1w : B1 ≤ ((w.alloc (.cells #[.slice ad N cap, .slice r2 N2 k2, .slice r3 N3 k3] 26))).heap.size := Nat.le_trans hB1w0 hal.size
  have hG0 := Bx.new w 26 #[.slice ad N cap, .slice r2 N2 k2, .slice r3 N3 k3]
  have HGL : Hid (w.heap.size < ((w.alloc (.cells #[.slice ad N cap, .slice r2 N2 k2, .slice r3 N3 k3] 26))).heap.size) := hG0.lt
  clear hOR hfr0 hv0 hv2 hv3 hal
  have o0 := hO.cell 0
  dsimp only [List.getElem?_cons_zero] at o0
  have hU : Upd go (w.alloc (.cells #[.slice ad N cap, .slice r2 N2 k2, .slice r3 N3 k3] 26)) (w.alloc (.cells #[.slice ad N cap, .slice r2 N2 k2, .slice r3 N3 k3] 26)) := Upd.refl go _
  go_enter Try.func45, Try.ntmps45
  go_wp2_with (refine wpList_bput (by rfl) _ _ 3 (by rfl) go 41 0 (by rfl) _ (.int .i64 _) (by rfl) hO (by kernel_rfl) (by simp) (by rfl) (by rfl) ?_; intro w1 hO1 hU1; replace hU := hU.trans hU1; clear o0; dsimp only [List.set] at hO1; have o0 := hO1.cell 0; dsimp only [List.getElem?_cons_zero] at o0)
  clear hU1
  obtain ⟨hM, hW2, hB2⟩ := one_box w1 67 ([.int .i64 (-(n + 1)), .int .i64 0] : List Value).toArray
  have z1 := hU.size
  have hU0 : Hid (Upd go (w.alloc (.cells #[.slice ad N cap, .slice r2 N2 k2, .slice r3 N3 k3] 26)) w1) := hU
  have HGN : Hid (w.heap.size ≠ go) := fun e => by have := hO.h; rw [← e, hG0.h] at this; simp at this
  have HGA : Hid (ad.map (·.block) ≠ some w.heap.size) := hG0.apart hv (by decide)
  have hG := hG0.upd hU HGN.out
  clear hG0
  go_loopw [5] (fun u wr => ∃ (i : Nat) (ys : List Value), i ≤ N ∧ u = .int .i64 i ∧ Vec wr B1 67 2 ad N cap (rep i [.int .i64 (-(n + 1)), .int .i64 0] ++ ys) ∧ Upo (ad.map (·.block)) (w1.alloc (.cells ([.int .i64 (-(n + 1)), .int .i64 0] : List Value).toArray 67)) wr) (fun u _ => N - (intOf u).toNat)
  case atStart => exact ⟨0, xs, Nat.zero_le _, rfl, by rw [rep_zero, List.nil_append]; exact (hv.updo hU0.out (fun b hb e1 => hO.apart hv (by decide) (by rw [hb]; simp [e1]))).keep ((Below.refl _ _).alloc (Nat.le_refl _) _), Upo.refl _ _⟩
  case round =>
    obtain ⟨i, ys, hi, rfl, hvi, hup⟩ := hrel
    have hGr := (hG.alloc (.cells ([.int .i64 (-(n + 1)), .int .i64 0] : List Value).toArray 67)).upo hup HGA.out
    have g0 := hGr.cell 0
    dsimp only [List.getElem?_cons_zero] at g0
    by_cases hlt : i < N
    · obtain ⟨g, hgd, hgB, hgl⟩ := hvi.form (by omega)
      have HG : Hid (ad = some ⟨g, 0, none⟩) := hgd
      have hgw : g < w1.heap.size := by
        obtain ⟨_, cur, hc⟩ := hv.typed g (by rw [hgd]; rfl)
        rw [z1]; exact (Array.getElem?_eq_some_iff.1 hc).1
      have hMr := hM.upo hup (by rw [hgd]; simp; omega)
      have hix := Own.idx (P := Try.prog) (t := 22) (m := 2) HG N cap (by kernel_rfl) (by kernel_rfl) hlt (i : Int) rfl
      clear hgd
      go_wp2_with (first
        | (refine wpList_bload (by rfl) _ _ (by rfl) w1.heap.size 67 (by rfl) _ hMr _ Try.underlying67 (by rfl) 2 (by rfl) (by kernel_rfl) ?_)
        | (refine wpList_vstore (by rfl) _ _ 67 (by rfl) B1 67 2 (by kernel_rfl) ad N cap [.int .i64 (-(n + 1)), .int .i64 0] ys i g HG hvi hlt (by rfl) (by intro v h; simp at h; rcases h with rfl | rfl <;> rfl) (by rfl) (by rfl) ?_; intro w5 hv5 hu5))
      have hup2 := hup.upd hu5 (by rw [HG.out]; rfl)
      go_roundw
      case rel => first | exact ⟨i + 1, by omega, by go_num, ⟨_, hv5⟩, hup2⟩ | exact ⟨i + 1, _, by omega, by go_num, hv5, hup2⟩
      case measure => simp [intOf]; omega
    · have hiN : i = N := by omega
      subst hiN
      have hy : ys = [] := by
        have := hvi.length
        rw [List.length_append, rep_length] at this
        exact List.eq_nil_of_length_eq_zero (by simp at this ⊢; omega)
      subst hy
      rw [List.append_nil] at hvi
      have hS := St.start (f := 1) hO hO1 hU0.out hK hfr hv hup hvi (by rfl) (by rfl) hB hB1 hBw (by decide) (by decide) (by decide)
      have hwz : B ≤ wr.heap.size := Nat.le_trans hBw hS.old.size
      have HLL : Hid (L.length = L.length) := rfl
      clear hO hO1 hU0 hK hfr hv hup hvi hM hW2 hB2 hU o0 z1 hi hlt hG
      generalize w1.heap.size = gm at *
      generalize hWW : wr = W at *
      clear hWW
      have hG := hGr
      clear hGr
      obtain ⟨L0, hL0⟩ : ∃ L0, L0 = L.length := ⟨_, rfl⟩
      replace HLL : Hid (L.length = L0) := hL0.symm
      have HL0 : Hid (L0 = L.length) := hL0
      have hLb : L0 ≤ 1000 := by omega
      clear hL0
      go_wp2_with fail
      have hR : Reads1 ShCk W B 67 2 ⟨ad, i, cap, [.int .i64 (-(n + 1)), .int .i64 0]⟩ := ⟨rfl, hS.l.mono hB1, by simp only; omega, ⟨⟨-(n + 1), 0⟩, rfl⟩⟩
      apply merge
      · intro KEY
        have cf := hS.o.cell 1
        have g0 := hG.cell 0
        have g0a : ∀ o, (W.alloc o).cell? ⟨w.heap.size, 0, none⟩ = some (.slice ad i cap) := fun o => (hG.alloc o).cell 0
        have cfa : ∀ o, (W.alloc o).cell? ⟨go, 1, none⟩ = some (.slice a4 L.length c4) := fun o => (hS.o.alloc o).cell 1
        have m0 := hS.k.cell 0
        have m1 := hS.k.cell 1
        dsimp only [List.getElem?_cons_zero, List.getElem?_cons_succ] at cf g0 m0 m1
        have HV : Hid (∀ wX, Below W.heap.size W wX → Vec wX B 110 (2 + 1) a4 L.length c4 (bcells L)) := fun wX hX => hS.b.keep hX
        go_region_law (refine step_pushk (by rfl) _ _ 35 (by rfl) B 110 (2 + 1) 40 (.agg #[.slice none 0 0, .int .i64 0, .int .i64 0]) Try.underlying35 (by kernel_rfl) rfl (by decide) a4 L.length c4 _ (by rfl) (HV.out _ ?_) _ _ (Bk.cells (⟨ad, i, cap, [.int .i64 (-(n + 1)), .int .i64 0]⟩ : Bk)) (by rfl) rfl ?_ ?_ ?_ ?_ ?_ ?_; (repeat (first | exact Below.refl _ _ | refine Below.drew ?_ | refine Below.alloc ?_ (by first | omega | (simp; done) | (simp; omega)) _)); (exact newc1 _ _ _); (intro v h; simp at h; rcases h with rfl | rfl | rfl <;> rfl); (omega); (omega); (simp; omega); intro a5 c5 w6 hv6 hk6; obtain ⟨hR6, hX6, hS6, hr6, hf6⟩ := St.six hk6 hS (by repeat (first | exact Below.refl _ _ | refine Below.drew ?_ | refine Below.alloc ?_ (by first | omega | (simp; done) | (simp; omega)) _)) hwz (by decide) hR; have hG6 := bx_six hk6 hS hG (by repeat (first | exact Below.refl _ _ | refine Below.drew ?_ | refine Below.alloc ?_ (by first | omega | (simp; done) | (simp; omega)) _)) (by decide))
        all_goals
          have hS7 := hS6.book hv6 hk6 hR6 rfl (by decide) (by decide) (by decide) (by simp) hX6
          have hz7 : B ≤ (w6.setCell ⟨go, 1, none⟩ (.slice a5 (L.length + 1) c5)).heap.size := by simp; exact Nat.le_trans hX6 hk6.size
          have hG7 := hG6.upd ((Upd.refl go w6).setCell ⟨go, 1, none⟩ rfl (.slice a5 (L.length + 1) c5)) HGN.out
          dsimp only [List.set] at hS7
          have hl7 : (L ++ [(⟨ad, i, cap, [.int .i64 (-(n + 1)), .int .i64 0]⟩ : Bk)]).length = L.length + 1 := by simp
          generalize (w6.setCell ⟨go, 1, none⟩ (.slice a5 (L.length + 1) c5)) = W1 at hS7 hz7 hG7 ⊢
          generalize L ++ [(⟨ad, i, cap, [.int .i64 (-(n + 1)), .int .i64 0]⟩ : Bk)] = L1 at hS7 hl7
          clear hv6 hk6 hr6 hf6 hS6 hR6 hX6 hG6
          revert a5 c5 W1 L1
          exact KEY.out
      intro a5 c5 W1 hz7 hG7 L1 hS7 hl7
      clear hS hwz hR hG g0
      rw [← hl7] at hS7 ⊢
      have hl9 := HLL.out
      replace HLL : Hid (L1.length = L0 + 1) := by show _ = _; omega
      have hL1 : L1.length ≤ 1004 := by have := HLL.out; omega
      clear hl7 hl9 hL
      generalize hLq : L1 = L at *
      clear hLq
      have hL : L.length ≤ 1004 := hL1
      clear hL1
      generalize hWq : W1 = W at *
      clear hWq
      generalize hAq : a5 = a4 at *
      clear hAq
      generalize hCq : c5 = c4 at *
      clear hCq
      have hS := hS7
      have hwz := hz7
      have hG := hG7
      have g0 := hG.cell 0
      dsimp only [List.getElem?_cons_zero] at g0
      clear hS7 hz7 hG7
      go_wp2_with (first
        | (refine wpList_bload (by rfl) _ _ (by rfl) gm 67 (by rfl) _ hS.k _ Try.underlying67 (by rfl) 2 (by rfl) (by kernel_rfl) ?_)
        | (at_builtin; refine wpList_pushk (by rfl) _ _ 22 (by rfl) B1 67 2 16 (.agg #[.int .i64 0, .int .i64 0]) Try.underlying22 (by kernel_rfl) rfl (by decide) ad i cap _ (by rfl) (hS.l.keep ((Below.refl _ _).alloc (Nat.le_refl _) _)) _ 1 1 [.int .i64 (-(n + 1)), .int .i64 0] (by rfl) rfl ?_ ?_ ?_ ?_ ?_ ?_ ?_; exact newc1 _ (rep 1 [.int .i64 (-(n + 1)), .int .i64 0]) _; (intro v h; simp at h; rcases h with rfl | rfl <;> rfl); (omega); (omega); (omega); (have := hS.old.size; simp; omega); intro a6 c6 w7 hv7 hk7))
      rw [← rep_add] at hv7
      have hS8 := (hS.step ((Below.refl _ _).alloc (Nat.le_refl _) _) hwz).push hk7 (by decide) (by decide) (by simp; omega)
      have hR : Reads1 ShCk w7 B 67 2 ⟨a6, i + 1, c6, [.int .i64 (-(n + 1)), .int .i64 0]⟩ := ⟨rfl, hv7.mono hB1, by simp only; omega, ⟨⟨-(n + 1), 0⟩, rfl⟩⟩
      have hz8 : B ≤ w7.heap.size := by have := hk7.size; simp at this; omega
      have hG8 := (hG.alloc (.cells (rep 1 [.int .i64 (-(n + 1)), .int .i64 0]).toArray 67)).kp hk7 HGA.out
      clear hS hwz hv7 hk7 hG g0
      have hS := hS8
      have hwz := hz8
      have hG := hG8
      have g0 := hG.cell 0
      dsimp only [List.getElem?_cons_zero] at g0
      clear hS8 hz8 hG8
      generalize hWq : w7 = W at *
      clear hWq
      apply merge
      · intro KEY
        have cf := hS.o.cell 1
        have g0 := hG.cell 0
        have g0a : ∀ o, (W.alloc o).cell? ⟨w.heap.size, 0, none⟩ = some (.slice ad i cap) := fun o => (hG.alloc o).cell 0
        have cfa : ∀ o, (W.alloc o).cell? ⟨go, 1, none⟩ = some (.slice a4 L.length c4) := fun o => (hS.o.alloc o).cell 1
        have m0 := hS.k.cell 0
        have m1 := hS.k.cell 1
        dsimp only [List.getElem?_cons_zero, List.getElem?_cons_succ] at cf g0 m0 m1
        have HV : Hid (∀ wX, Below W.heap.size W wX → Vec wX B 110 (2 + 1) a4 L.length c4 (bcells L)) := fun wX hX => hS.b.keep hX
        go_region_law (refine step_pushk (by rfl) _ _ 35 (by rfl) B 110 (2 + 1) 40 (.agg #[.slice none 0 0, .int .i64 0, .int .i64 0]) Try.underlying35 (by kernel_rfl) rfl (by decide) a4 L.length c4 _ (by rfl) (HV.out _ ?_) _ _ (Bk.cells (⟨a6, i + 1, c6, [.int .i64 (-(n + 1)), .int .i64 0]⟩ : Bk)) (by rfl) rfl ?_ ?_ ?_ ?_ ?_ ?_; (repeat (first | exact Below.refl _ _ | refine Below.drew ?_ | refine Below.alloc ?_ (by first | omega | (simp; done) | (simp; omega)) _)); (exact newc1 _ _ _); (intro v h; simp at h; rcases h with rfl | rfl | rfl <;> rfl); (omega); (omega); (simp; omega); intro a5 c5 w6 hv6 hk6; obtain ⟨hR6, hX6, hS6, hr6, hf6⟩ := St.six hk6 hS (by repeat (first | exact Below.refl _ _ | refine Below.drew ?_ | refine Below.alloc ?_ (by first | omega | (simp; done) | (simp; omega)) _)) hwz (by decide) hR; have hG6 := bx_six hk6 hS hG (by repeat (first | exact Below.refl _ _ | refine Below.drew ?_ | refine Below.alloc ?_ (by first | omega | (simp; done) | (simp; omega)) _)) (by decide))
        all_goals
          have hS7 := hS6.book hv6 hk6 hR6 rfl (by decide) (by decide) (by decide) (by simp) hX6
          have hz7 : B ≤ (w6.setCell ⟨go, 1, none⟩ (.slice a5 (L.length + 1) c5)).heap.size := by simp; exact Nat.le_trans hX6 hk6.size
          have hG7 := hG6.upd ((Upd.refl go w6).setCell ⟨go, 1, none⟩ rfl (.slice a5 (L.length + 1) c5)) HGN.out
          dsimp only [List.set] at hS7
          have hl7 : (L ++ [(⟨a6, i + 1, c6, [.int .i64 (-(n + 1)), .int .i64 0]⟩ : Bk)]).length = L.length + 1 := by simp
          generalize (w6.setCell ⟨go, 1, none⟩ (.slice a5 (L.length + 1) c5)) = W1 at hS7 hz7 hG7 ⊢
          generalize L ++ [(⟨a6, i + 1, c6, [.int .i64 (-(n + 1)), .int .i64 0]⟩ : Bk)] = L1 at hS7 hl7
          clear hv6 hk6 hr6 hf6 hS6 hR6 hX6 hG6
          revert a5 c5 W1 L1
          exact KEY.out
      intro a5 c5 W1 hz7 hG7 L1 hS7 hl7
      clear hS hwz hR hG g0
      rw [← hl7] at hS7 ⊢
      have hl9 := HLL.out
      replace HLL : Hid (L1.length = L0 + 2) := by show _ = _; omega
      have hL1 : L1.length ≤ 1004 := by have := HLL.out; omega
      clear hl7 hl9 hL
      generalize hLq : L1 = L at *
      clear hLq
      have hL : L.length ≤ 1004 := hL1
      clear hL1
      generalize hWq : W1 = W at *
      clear hWq
      generalize hAq : a5 = a4 at *
      clear hAq
      generalize hCq : c5 = c4 at *
      clear hCq
      have hS := hS7
      have hwz := hz7
      have hG := hG7
      have g0 := hG.cell 0
      dsimp only [List.getElem?_cons_zero] at g0
      clear hS7 hz7 hG7
      go_wp2_with (first
        | (refine wpList_bload (by rfl) _ _ (by rfl) gm 67 (by rfl) _ hS.k _ Try.underlying67 (by rfl) 2 (by rfl) (by kernel_rfl) ?_)
        | (at_builtin; refine wpList_pushk (by rfl) _ _ 22 (by rfl) B1 67 2 16 (.agg #[.int .i64 0, .int .i64 0]) Try.underlying22 (by kernel_rfl) rfl (by decide) ad i cap _ (by rfl) (hS.l.keep ((Below.refl _ _).alloc (Nat.le_refl _) _)) _ 2 2 [.int .i64 (-(n + 1)), .int .i64 0] (by rfl) rfl ?_ ?_ ?_ ?_ ?_ ?_ ?_; exact newc1 _ (rep 2 [.int .i64 (-(n + 1)), .int .i64 0]) _; (intro v h; simp at h; rcases h with rfl | rfl <;> rfl); (omega); (omega); (omega); (have := hS.old.size; simp; omega); intro a6 c6 w7 hv7 hk7))
      rw [← rep_add] at hv7
      have hS8 := (hS.step ((Below.refl _ _).alloc (Nat.le_refl _) _) hwz).push hk7 (by decide) (by decide) (by simp; omega)
      have hR : Reads1 ShCk w7 B 67 2 ⟨a6, i + 2, c6, [.int .i64 (-(n + 1)), .int .i64 0]⟩ := ⟨rfl, hv7.mono hB1, by simp only; omega, ⟨⟨-(n + 1), 0⟩, rfl⟩⟩
      have hz8 : B ≤ w7.heap.size := by have := hk7.size; simp at this; omega
      have hG8 := (hG.alloc (.cells (rep 2 [.int .i64 (-(n + 1)), .int .i64 0]).toArray 67)).kp hk7 HGA.out
      clear hS hwz hv7 hk7 hG g0
      have hS := hS8
      have hwz := hz8
      have hG := hG8
      have g0 := hG.cell 0
      dsimp only [List.getElem?_cons_zero] at g0
      clear hS8 hz8 hG8
      generalize hWq : w7 = W at *
      clear hWq
      apply merge
      · intro KEY
        have cf := hS.o.cell 1
        have g0 := hG.cell 0
        have g0a : ∀ o, (W.alloc o).cell? ⟨w.heap.size, 0, none⟩ = some (.slice ad i cap) := fun o => (hG.alloc o).cell 0
        have cfa : ∀ o, (W.alloc o).cell? ⟨go, 1, none⟩ = some (.slice a4 L.length c4) := fun o => (hS.o.alloc o).cell 1
        have m0 := hS.k.cell 0
        have m1 := hS.k.cell 1
        dsimp only [List.getElem?_cons_zero, List.getElem?_cons_succ] at cf g0 m0 m1
        have HV : Hid (∀ wX, Below W.heap.size W wX → Vec wX B 110 (2 + 1) a4 L.length c4 (bcells L)) := fun wX hX => hS.b.keep hX
        go_region_law (refine step_pushk (by rfl) _ _ 35 (by rfl) B 110 (2 + 1) 40 (.agg #[.slice none 0 0, .int .i64 0, .int .i64 0]) Try.underlying35 (by kernel_rfl) rfl (by decide) a4 L.length c4 _ (by rfl) (HV.out _ ?_) _ _ (Bk.cells (⟨a6, i + 2, c6, [.int .i64 (-(n + 1)), .int .i64 0]⟩ : Bk)) (by rfl) rfl ?_ ?_ ?_ ?_ ?_ ?_; (repeat (first | exact Below.refl _ _ | refine Below.drew ?_ | refine Below.alloc ?_ (by first | omega | (simp; done) | (simp; omega)) _)); (exact newc1 _ _ _); (intro v h; simp at h; rcases h with rfl | rfl | rfl <;> rfl); (omega); (omega); (simp; omega); intro a5 c5 w6 hv6 hk6; obtain ⟨hR6, hX6, hS6, hr6, hf6⟩ := St.six hk6 hS (by repeat (first | exact Below.refl _ _ | refine Below.drew ?_ | refine Below.alloc ?_ (by first | omega | (simp; done) | (simp; omega)) _)) hwz (by decide) hR; have hG6 := bx_six hk6 hS hG (by repeat (first | exact Below.refl _ _ | refine Below.drew ?_ | refine Below.alloc ?_ (by first | omega | (simp; done) | (simp; omega)) _)) (by decide))
        all_goals
          have hS7 := hS6.book hv6 hk6 hR6 rfl (by decide) (by decide) (by decide) (by simp) hX6
          have hz7 : B ≤ (w6.setCell ⟨go, 1, none⟩ (.slice a5 (L.length + 1) c5)).heap.size := by simp; exact Nat.le_trans hX6 hk6.size
          have hG7 := hG6.upd ((Upd.refl go w6).setCell ⟨go, 1, none⟩ rfl (.slice a5 (L.length + 1) c5)) HGN.out
          dsimp only [List.set] at hS7
          have hl7 : (L ++ [(⟨a6, i + 2, c6, [.int .i64 (-(n + 1)), .int .i64 0]⟩ : Bk)]).length = L.length + 1 := by simp
          generalize (w6.setCell ⟨go, 1, none⟩ (.slice a5 (L.length + 1) c5)) = W1 at hS7 hz7 hG7 ⊢
          generalize L ++ [(⟨a6, i + 2, c6, [.int .i64 (-(n + 1)), .int .i64 0]⟩ : Bk)] = L1 at hS7 hl7
          clear hv6 hk6 hr6 hf6 hS6 hR6 hX6 hG6
          revert a5 c5 W1 L1
          exact KEY.out
      intro a5 c5 W1 hz7 hG7 L1 hS7 hl7
      clear hS hwz hR hG g0
      rw [← hl7] at hS7 ⊢
      have hl9 := HLL.out
      replace HLL : Hid (L1.length = L0 + 3) := by show _ = _; omega
      have hL1 : L1.length ≤ 1004 := by have := HLL.out; omega
      clear hl7 hl9 hL
      generalize hLq : L1 = L at *
      clear hLq
      have hL : L.length ≤ 1004 := hL1
      clear hL1
      generalize hWq : W1 = W at *
      clear hWq
      generalize hAq : a5 = a4 at *
      clear hAq
      generalize hCq : c5 = c4 at *
      clear hCq
      have hS := hS7
      have hwz := hz7
      have hG := hG7
      have g0 := hG.cell 0
      dsimp only [List.getElem?_cons_zero] at g0
      clear hS7 hz7 hG7
      go_wp2_with (first
        | (refine wpList_bload (by rfl) _ _ (by rfl) gm 67 (by rfl) _ hS.k _ Try.underlying67 (by rfl) 2 (by rfl) (by kernel_rfl) ?_)
        | (at_builtin; refine wpList_pushk (by rfl) _ _ 22 (by rfl) B1 67 2 16 (.agg #[.int .i64 0, .int .i64 0]) Try.underlying22 (by kernel_rfl) rfl (by decide) ad i cap _ (by rfl) (hS.l.keep ((Below.refl _ _).alloc (Nat.le_refl _) _)) _ 3 3 [.int .i64 (-(n + 1)), .int .i64 0] (by rfl) rfl ?_ ?_ ?_ ?_ ?_ ?_ ?_; exact newc1 _ (rep 3 [.int .i64 (-(n + 1)), .int .i64 0]) _; (intro v h; simp at h; rcases h with rfl | rfl <;> rfl); (omega); (omega); (omega); (have := hS.old.size; simp; omega); intro a6 c6 w7 hv7 hk7))
      rw [← rep_add] at hv7
      have hS8 := (hS.step ((Below.refl _ _).alloc (Nat.le_refl _) _) hwz).push hk7 (by decide) (by decide) (by simp; omega)
      have hR : Reads1 ShCk w7 B 67 2 ⟨a6, i + 3, c6, [.int .i64 (-(n + 1)), .int .i64 0]⟩ := ⟨rfl, hv7.mono hB1, by simp only; omega, ⟨⟨-(n + 1), 0⟩, rfl⟩⟩
      have hz8 : B ≤ w7.heap.size := by have := hk7.size; simp at this; omega
      have hG8 := (hG.alloc (.cells (rep 3 [.int .i64 (-(n + 1)), .int .i64 0]).toArray 67)).kp hk7 HGA.out
      clear hS hwz hv7 hk7 hG g0
      have hS := hS8
      have hwz := hz8
      have hG := hG8
      have g0 := hG.cell 0
      dsimp only [List.getElem?_cons_zero] at g0
      clear hS8 hz8 hG8
      generalize hWq : w7 = W at *
      clear hWq
      apply merge
      · intro KEY
        have cf := hS.o.cell 1
        have g0 := hG.cell 0
        have g0a : ∀ o, (W.alloc o).cell? ⟨w.heap.size, 0, none⟩ = some (.slice ad i cap) := fun o => (hG.alloc o).cell 0
        have cfa : ∀ o, (W.alloc o).cell? ⟨go, 1, none⟩ = some (.slice a4 L.length c4) := fun o => (hS.o.alloc o).cell 1
        have m0 := hS.k.cell 0
        have m1 := hS.k.cell 1
        dsimp only [List.getElem?_cons_zero, List.getElem?_cons_succ] at cf g0 m0 m1
        have HV : Hid (∀ wX, Below W.heap.size W wX → Vec wX B 110 (2 + 1) a4 L.length c4 (bcells L)) := fun wX hX => hS.b.keep hX
        go_region_law (refine step_pushk (by rfl) _ _ 35 (by rfl) B 110 (2 + 1) 40 (.agg #[.slice none 0 0, .int .i64 0, .int .i64 0]) Try.underlying35 (by kernel_rfl) rfl (by decide) a4 L.length c4 _ (by rfl) (HV.out _ ?_) _ _ (Bk.cells (⟨a6, i + 3, c6, [.int .i64 (-(n + 1)), .int .i64 0]⟩ : Bk)) (by rfl) rfl ?_ ?_ ?_ ?_ ?_ ?_; (repeat (first | exact Below.refl _ _ | refine Below.drew ?_ | refine Below.alloc ?_ (by first | omega | (simp; done) | (simp; omega)) _)); (exact newc1 _ _ _); (intro v h; simp at h; rcases h with rfl | rfl | rfl <;> rfl); (omega); (omega); (simp; omega); intro a5 c5 w6 hv6 hk6; obtain ⟨hR6, hX6, hS6, hr6, hf6⟩ := St.six hk6 hS (by repeat (first | exact Below.refl _ _ | refine Below.drew ?_ | refine Below.alloc ?_ (by first | omega | (simp; done) | (simp; omega)) _)) hwz (by decide) hR; have hG6 := bx_six hk6 hS hG (by repeat (first | exact Below.refl _ _ | refine Below.drew ?_ | refine Below.alloc ?_ (by first | omega | (simp; done) | (simp; omega)) _)) (by decide))
        all_goals
          have hS7 := hS6.book hv6 hk6 hR6 rfl (by decide) (by decide) (by decide) (by simp) hX6
          have hz7 : B ≤ (w6.setCell ⟨go, 1, none⟩ (.slice a5 (L.length + 1) c5)).heap.size := by simp; exact Nat.le_trans hX6 hk6.size
          have hG7 := hG6.upd ((Upd.refl go w6).setCell ⟨go, 1, none⟩ rfl (.slice a5 (L.length + 1) c5)) HGN.out
          dsimp only [List.set] at hS7
          have hl7 : (L ++ [(⟨a6, i + 3, c6, [.int .i64 (-(n + 1)), .int .i64 0]⟩ : Bk)]).length = L.length + 1 := by simp
          generalize (w6.setCell ⟨go, 1, none⟩ (.slice a5 (L.length + 1) c5)) = W1 at hS7 hz7 hG7 ⊢
          generalize L ++ [(⟨a6, i + 3, c6, [.int .i64 (-(n + 1)), .int .i64 0]⟩ : Bk)] = L1 at hS7 hl7
          clear hv6 hk6 hr6 hf6 hS6 hR6 hX6 hG6
          revert a5 c5 W1 L1
          exact KEY.out
      intro a5 c5 W1 hz7 hG7 L1 hS7 hl7
      clear hS hwz hR hG g0
      rw [← hl7] at hS7 ⊢
      have hl9 := HLL.out
      replace HLL : Hid (L1.length = L0 + 4) := by show _ = _; omega
      have hL1 : L1.length ≤ 1004 := by have := HLL.out; omega
      clear hl7 hl9 hL
      generalize hLq : L1 = L at *
      clear hLq
      have hL : L.length ≤ 1004 := hL1
      clear hL1
      generalize hWq : W1 = W at *
      clear hWq
      generalize hAq : a5 = a4 at *
      clear hAq
      generalize hCq : c5 = c4 at *
      clear hCq
      have hS := hS7
      have hwz := hz7
      have hG := hG7
      have g0 := hG.cell 0
      dsimp only [List.getElem?_cons_zero] at g0
      clear hS7 hz7 hG7
      have HW : Hid (B1 ≤ W.heap.size) := Nat.le_trans hB1w hS.old.size
      have hk2 := HOR.out.b2.but3 hS.but HOR.out.o (by decide) (by decide) (by decide) (by decide) (by decide) (by decide)
      have hk3 := HOR.out.b3.but3 hS.but HOR.out.o (by decide) (by decide) (by decide) (by decide) (by decide) (by decide)
      have hw2 := HV23.out.1.but3 hS.but (by decide) (by decide) (fun q hq e => HOR.out.o.apart HV23.out.1 (by decide) (by rw [hq, e]))
      have hw3 := HV23.out.2.but3 hS.but (by decide) (by decide) (fun q hq e => HOR.out.o.apart HV23.out.2 (by decide) (by rw [hq, e]))
      have hk1 : Books ShCk W B 67 110 2 a4 c4 L := ⟨hS.b, fun x hx => (hS.each x hx).1⟩
      have ho1 := hS.o
      have HLK1 : Hid (∀ g cs, Bx w g 75 cs → Bx W g 75 cs ∧ g ≠ go) := fun g cs h => by
        have hne : g ≠ go := fun e => by have := HOR.out.o.h; rw [← e, (h.alloc _).h] at this; simp at this
        exact ⟨(h.alloc _).but3 hS.but hne (by decide) (by decide), hne⟩
      have HB1 : Hid (Below B w W) := HAL.out.trans hS.old
      have g1 := hG.cell 1
      dsimp only [List.getElem?_cons_zero, List.getElem?_cons_succ] at g1
      have H1 : Hid (Books ShCk W B 67 110 2 a4 c4 L ∧ Books ShCd W B 69 146 5 a2 c2 L2 ∧ Books ShEd W B 71 148 2 a3 c3 L3 ∧ Vec W B1 69 5 r2 N2 k2 xs2 ∧ Vec W B1 71 2 r3 N3 k3 xs3) := ⟨hk1, hk2, hk3, hw2, hw3⟩
      clear hk1 hk2 hk3 hw2 hw3 hS g0
      go_wp2_with fail
      refine (ofCards_any _ B B1 go (n + 1) _ _ _ _ r2 N2 k2 xs2 a2 c2 L2 ho1 H1.out.2.1 HF23.out.1 H1.out.2.2.2.1 hN2 hL2 hB hB1 (by omega) (by omega) hwz HW.out).mono ?_
      rintro e w7 ⟨⟨v, rfl⟩, ⟨a5, c5, L5, hL5, ho5, hk5⟩, hb5, ht5⟩
      have hG5 := hG.but3 ht5 HGN.out (by decide) (by decide)
      have H2 : Hid (Books ShCk w7 B 67 110 2 a4 c4 L ∧ Books ShCd w7 B 69 146 5 a5 c5 L5 ∧ Books ShEd w7 B 71 148 2 a3 c3 L3 ∧ Vec w7 B1 71 2 r3 N3 k3 xs3) :=
        ⟨H1.out.1.but3 ht5 ho1 (by decide) (by decide) (by decide) (by decide) (by decide) (by decide), hk5, H1.out.2.2.1.but3 ht5 ho1 (by decide) (by decide) (by decide) (by decide) (by decide) (by decide), H1.out.2.2.2.2.but3 ht5 (by decide) (by decide) (fun q hq e => ho1.apart H1.out.2.2.2.2 (by decide) (by rw [hq, e]))⟩
      have HB2 : Hid (Below B w w7 ∧ W.heap.size ≤ w7.heap.size) := ⟨HB1.out.trans hb5, ht5.size⟩
      have HL5 : Hid (L5.length = L2.length + 4) := hL5
      have HLK2 : Hid (∀ g cs, Bx w g 75 cs → Bx w7 g 75 cs ∧ g ≠ go) := fun g cs h => ⟨(HLK1.out g cs h).1.but3 ht5 (HLK1.out g cs h).2 (by decide) (by decide), (HLK1.out g cs h).2⟩
      have g2 := hG5.cell 2
      dsimp only [List.getElem?_cons_zero, List.getElem?_cons_succ] at g2
      clear hG hk5 hb5 ht5 hL5 ho1 g1
      go_wp2_with fail
      refine (ofEdits_any _ B B1 go (n + 1) _ _ _ _ r3 N3 k3 xs3 a3 c3 L3 ho5 H2.out.2.2.1 HF23.out.2 H2.out.2.2.2 hN3 hL3 hB hB1 (by omega) (by omega) (Nat.le_trans hwz HB2.out.2) (Nat.le_trans HW.out HB2.out.2)).mono ?_
      rintro e w8 ⟨⟨v, rfl⟩, ⟨a6, c6, L6, hL6, ho6, hk6⟩, hb6, ht6⟩
      have HF : Hid (OwnR w8 B go (n + 1) a4 c4 L a5 c5 L5 a6 c6 L6 ∧ Below B w w8) := ⟨⟨ho6, H2.out.1.but3 ht6 ho5 (by decide) (by decide) (by decide) (by decide) (by decide) (by decide), H2.out.2.1.but3 ht6 ho5 (by decide) (by decide) (by decide) (by decide) (by decide) (by decide), hk6⟩, HB2.out.1.trans hb6⟩
      have HL6 : Hid (L6.length = L3.length + 4) := hL6
      have HLK3 : Hid (∀ g cs, Bx w g 75 cs → Bx w8 g 75 cs) := fun g cs h => (HLK2.out g cs h).1.but3 ht6 (HLK2.out g cs h).2 (by decide) (by decide)
      clear hk6 hb6 ht6 ho6 ho5 hL6
      go_wp2_with fail
      exact bodyPost_end (results_none rfl _ _ _) rfl ⟨⟨_, rfl⟩, ⟨a4, c4, L, a5, c5, L5, a6, c6, L6, ⟨by rw [HLL.out, HL0.out], HL5.out, HL6.out⟩, HF.out.1⟩, HF.out.2, HLK3.out⟩
end Go.Proofs.Ytdjpkgaicmklmaa

/- own.replicasKept, walked: each book's list reads its mark. -/
namespace Go.Proofs.Ytdjpkgaicmklmaa
open Go.RowKit

set_option maxRecDepth 100000 in
set_option maxHeartbeats 4000000 in
theorem rkept_any (w : World) (B go : Nat) (n : Int) (a1 : Option Addr) (c1 : Nat) (L1 : List Bk) (a2 : Option Addr) (c2 : Nat) (L2 : List Bk) (a3 : Option Addr) (c3 : Nat) (L3 : List Bk) (hO : OwnR w B go n a1 c1 L1 a2 c2 L2 a3 c3 L3) (hL1 : L1.length ≤ 1004) (hL2 : L2.length ≤ 1004) (hL3 : L3.length ≤ 1004) :
    Calls Try.prog 94 #[.pointer (some ⟨go, 0, none⟩)] w fun e w' => e = .returned (.bool true) ∧ Below w.heap.size w w' := by
  go_enter Try.func94, Try.ntmps94
  go_wp2_with fail
  go_loopw [3, 4] (fun u _ wr => ∃ i : Nat, i ≤ L1.length ∧ u = .int .i64 i ∧ Below w.heap.size w wr) (fun u _ _ => L1.length - (intOf u).toNat)
  case atStart => exact ⟨0, Nat.zero_le _, rfl, Below.refl _ _⟩
  case round =>
    obtain ⟨i, hi, rfl, hbr⟩ := hrel
    have hOr := hO.keep hbr
    have cf := hOr.o.cell 1
    have HBR : Hid (Below w.heap.size w wr) := hbr
    dsimp only [List.getElem?_cons_zero, List.getElem?_cons_succ] at cf
    by_cases hlt : i < L1.length
    · have hx := hOr.b1.each L1[i] (List.getElem_mem hlt)
      obtain ⟨b, o, hbl, hix, hc⟩ := (books_lies hOr.b1).at c1 (P := Try.prog) (t := 35) (by kernel_rfl) (by kernel_rfl) hlt
      obtain ⟨f, hf⟩ := hx.shape
      rw [show L1.getD i ⟨none, 0, 0, []⟩ = L1[i] by simp [List.getD, hlt]] at hc
      have s0 : wr.cell? ⟨b, o, none⟩ = some (.slice (L1[i]).ad (L1[i]).n (L1[i]).cap) := hc 0 _ (by omega) rfl
      have hq : Lies wr (L1[i]).ad (L1[i]).n 2 (fun _ => f.cells) := rep_lies (by have := hx.vec; rw [hf] at this; exact this) rfl
      have few : (L1[i]).n ≤ 1099511627780 := hx.few
      have HE : Hid (∀ j v, j < 2 + 1 → (f.cells)[j]? = some v → wr.cell? ⟨b, o + (j + 1), none⟩ = some v) := fun j v hj hv => hc (j + 1) v (by have := (List.getElem?_eq_some_iff.1 hv).1; simp at this; omega) (by rw [Bk.cells, List.getElem?_cons_succ, hf]; exact hv)
      clear hx hc hf
      generalize L1[i] = X at *
      generalize hwr : wr = w5 at *
      clear hwr
      go_wp2_with fail
      go_loopw [4] (fun u wr2 => ∃ k : Nat, k ≤ X.n ∧ u = .int .i64 k ∧ Below w5.heap.size w5 wr2) (fun u _ => X.n - (intOf u).toNat)
      case atStart => exact ⟨0, Nat.zero_le _, rfl, Below.refl _ _⟩
      case round =>
        obtain ⟨k, hk, rfl, hbr2⟩ := hrel
        have cf2 := (hOr.o.below hbr2 hOr.o.lt).cell 1
        dsimp only [List.getElem?_cons_zero, List.getElem?_cons_succ] at cf2
        have s2 : wr.cell? ⟨b, o, none⟩ = some (.slice X.ad X.n X.cap) := (hbr2.cell (p := ⟨b, o, none⟩) hbl).trans s0
        by_cases hlt2 : k < X.n
        · obtain ⟨b', o', hbl', hix', d0, d1⟩ := Lies.clock (c := fun _ => f) (hq.below hbr2) X.cap hlt2
          have e1 : wr.cell? ⟨b, o + 1, none⟩ = some (.int .i64 f.site) := (hbr2.cell (p := ⟨b, o + 1, none⟩) hbl).trans (HE.out 0 _ (by omega) rfl)
          have e2 : wr.cell? ⟨b, o + 2, none⟩ = some (.int .i64 f.count) := (hbr2.cell (p := ⟨b, o + 2, none⟩) hbl).trans (HE.out 1 _ (by omega) rfl)
          go_wp2
          go_quiet (fail)
          go_wp2
          go_roundw
          case rel => exact ⟨k + 1, by omega, by go_num, below_drewN hbr2 _⟩
          case measure => simp [intOf]; omega
        · go_wp2
          go_roundw
          case rel => exact ⟨i + 1, by omega, by go_num, hbr.trans (hbr2.mono hbr.size)⟩
          case measure => simp [intOf]; omega
    · clear hi hbr
      generalize hwr : wr = w5 at *
      clear hwr
      go_wp2_with fail
      go_loopw [5, 6] (fun u _ wr => ∃ i : Nat, i ≤ L2.length ∧ u = .int .i64 i ∧ Below w.heap.size w wr) (fun u _ _ => L2.length - (intOf u).toNat)
      case atStart => exact ⟨0, Nat.zero_le _, rfl, HBR.out⟩
      case round =>
        obtain ⟨i, hi, rfl, hbr⟩ := hrel
        have hOr := hO.keep hbr
        have cf := hOr.o.cell 2
        have HBR : Hid (Below w.heap.size w wr) := hbr
        dsimp only [List.getElem?_cons_zero, List.getElem?_cons_succ] at cf
        by_cases hlt : i < L2.length
        · have hx := hOr.b2.each L2[i] (List.getElem_mem hlt)
          obtain ⟨b, o, hbl, hix, hc⟩ := (books_lies hOr.b2).at c2 (P := Try.prog) (t := 36) (by kernel_rfl) (by kernel_rfl) hlt
          obtain ⟨f, hf⟩ := hx.shape
          rw [show L2.getD i ⟨none, 0, 0, []⟩ = L2[i] by simp [List.getD, hlt]] at hc
          have s0 : wr.cell? ⟨b, o, none⟩ = some (.slice (L2[i]).ad (L2[i]).n (L2[i]).cap) := hc 0 _ (by omega) rfl
          have hq : Lies wr (L2[i]).ad (L2[i]).n 5 (fun _ => f.cells) := rep_lies (by have := hx.vec; rw [hf] at this; exact this) rfl
          have few : (L2[i]).n ≤ 1099511627780 := hx.few
          have HE : Hid (∀ j v, j < 5 + 1 → (f.cells)[j]? = some v → wr.cell? ⟨b, o + (j + 1), none⟩ = some v) := fun j v hj hv => hc (j + 1) v (by have := (List.getElem?_eq_some_iff.1 hv).1; simp at this; omega) (by rw [Bk.cells, List.getElem?_cons_succ, hf]; exact hv)
          clear hx hc hf
          generalize L2[i] = X at *
          generalize hwr : wr = w5 at *
          clear hwr
          go_wp2_with fail
          go_loopw [6] (fun u wr2 => ∃ k : Nat, k ≤ X.n ∧ u = .int .i64 k ∧ Below w5.heap.size w5 wr2) (fun u _ => X.n - (intOf u).toNat)
          case atStart => exact ⟨0, Nat.zero_le _, rfl, Below.refl _ _⟩
          case round =>
            obtain ⟨k, hk, rfl, hbr2⟩ := hrel
            have cf2 := (hOr.o.below hbr2 hOr.o.lt).cell 2
            dsimp only [List.getElem?_cons_zero, List.getElem?_cons_succ] at cf2
            have s2 : wr.cell? ⟨b, o, none⟩ = some (.slice X.ad X.n X.cap) := (hbr2.cell (p := ⟨b, o, none⟩) hbl).trans s0
            by_cases hlt2 : k < X.n
            · obtain ⟨b', o', hbl', hix', d0, d1, d2, d3, d4⟩ := Lies.card (c := fun _ => f) (hq.below hbr2) X.cap hlt2
              have e1 : wr.cell? ⟨b, o + 1, none⟩ = some (.int .i64 f.id) := (hbr2.cell (p := ⟨b, o + 1, none⟩) hbl).trans (HE.out 0 _ (by omega) rfl)
              have e2 : wr.cell? ⟨b, o + 2, none⟩ = some (.int .i64 f.site) := (hbr2.cell (p := ⟨b, o + 2, none⟩) hbl).trans (HE.out 1 _ (by omega) rfl)
              have e3 : wr.cell? ⟨b, o + 3, none⟩ = some (.int .i64 f.count) := (hbr2.cell (p := ⟨b, o + 3, none⟩) hbl).trans (HE.out 2 _ (by omega) rfl)
              have e4 : wr.cell? ⟨b, o + 4, none⟩ = some (.bool f.gone) := (hbr2.cell (p := ⟨b, o + 4, none⟩) hbl).trans (HE.out 3 _ (by omega) rfl)
              have e5 : wr.cell? ⟨b, o + 5, none⟩ = some (.string f.text) := (hbr2.cell (p := ⟨b, o + 5, none⟩) hbl).trans (HE.out 4 _ (by omega) rfl)
              go_wp2
              go_quiet (fail)
              go_wp2
              go_roundw
              case rel => exact ⟨k + 1, by omega, by go_num, below_drewN hbr2 _⟩
              case measure => simp [intOf]; omega
            · go_wp2
              go_roundw
              case rel => exact ⟨i + 1, by omega, by go_num, hbr.trans (hbr2.mono hbr.size)⟩
              case measure => simp [intOf]; omega
        · clear hi hbr
          generalize hwr : wr = w5 at *
          clear hwr
          go_wp2_with fail
          go_loopw [7, 8] (fun u _ wr => ∃ i : Nat, i ≤ L3.length ∧ u = .int .i64 i ∧ Below w.heap.size w wr) (fun u _ _ => L3.length - (intOf u).toNat)
          case atStart => exact ⟨0, Nat.zero_le _, rfl, HBR.out⟩
          case round =>
            obtain ⟨i, hi, rfl, hbr⟩ := hrel
            have hOr := hO.keep hbr
            have cf := hOr.o.cell 3
            have HBR : Hid (Below w.heap.size w wr) := hbr
            dsimp only [List.getElem?_cons_zero, List.getElem?_cons_succ] at cf
            by_cases hlt : i < L3.length
            · have hx := hOr.b3.each L3[i] (List.getElem_mem hlt)
              obtain ⟨b, o, hbl, hix, hc⟩ := (books_lies hOr.b3).at c3 (P := Try.prog) (t := 37) (by kernel_rfl) (by kernel_rfl) hlt
              obtain ⟨f, hf⟩ := hx.shape
              rw [show L3.getD i ⟨none, 0, 0, []⟩ = L3[i] by simp [List.getD, hlt]] at hc
              have s0 : wr.cell? ⟨b, o, none⟩ = some (.slice (L3[i]).ad (L3[i]).n (L3[i]).cap) := hc 0 _ (by omega) rfl
              have hq : Lies wr (L3[i]).ad (L3[i]).n 2 (fun _ => f.cells) := rep_lies (by have := hx.vec; rw [hf] at this; exact this) rfl
              have few : (L3[i]).n ≤ 1099511627780 := hx.few
              have HE : Hid (∀ j v, j < 2 + 1 → (f.cells)[j]? = some v → wr.cell? ⟨b, o + (j + 1), none⟩ = some v) := fun j v hj hv => hc (j + 1) v (by have := (List.getElem?_eq_some_iff.1 hv).1; simp at this; omega) (by rw [Bk.cells, List.getElem?_cons_succ, hf]; exact hv)
              clear hx hc hf
              generalize L3[i] = X at *
              generalize hwr : wr = w5 at *
              clear hwr
              go_wp2_with fail
              go_loopw [8] (fun u wr2 => ∃ k : Nat, k ≤ X.n ∧ u = .int .i64 k ∧ Below w5.heap.size w5 wr2) (fun u _ => X.n - (intOf u).toNat)
              case atStart => exact ⟨0, Nat.zero_le _, rfl, Below.refl _ _⟩
              case round =>
                obtain ⟨k, hk, rfl, hbr2⟩ := hrel
                have cf2 := (hOr.o.below hbr2 hOr.o.lt).cell 3
                dsimp only [List.getElem?_cons_zero, List.getElem?_cons_succ] at cf2
                have s2 : wr.cell? ⟨b, o, none⟩ = some (.slice X.ad X.n X.cap) := (hbr2.cell (p := ⟨b, o, none⟩) hbl).trans s0
                by_cases hlt2 : k < X.n
                · obtain ⟨b', o', hbl', hix', d0, d1⟩ := Lies.edit (c := fun _ => f) (hq.below hbr2) X.cap hlt2
                  have e1 : wr.cell? ⟨b, o + 1, none⟩ = some (.int .i64 f.id) := (hbr2.cell (p := ⟨b, o + 1, none⟩) hbl).trans (HE.out 0 _ (by omega) rfl)
                  have e2 : wr.cell? ⟨b, o + 2, none⟩ = some (.string f.text) := (hbr2.cell (p := ⟨b, o + 2, none⟩) hbl).trans (HE.out 1 _ (by omega) rfl)
                  go_wp2
                  go_quiet (fail)
                  go_wp2
                  go_roundw
                  case rel => exact ⟨k + 1, by omega, by go_num, below_drewN hbr2 _⟩
                  case measure => simp [intOf]; omega
                · go_wp2
                  go_roundw
                  case rel => exact ⟨i + 1, by omega, by go_num, hbr.trans (hbr2.mono hbr.size)⟩
                  case measure => simp [intOf]; omega
            · clear hi hbr
              generalize hwr : wr = w5 at *
              clear hwr
              go_wp2
              go_ret
              exact ⟨rfl, HBR.out⟩



end Go.Proofs.Ytdjpkgaicmklmaa

/- parcellaw.handed: a copy of a replica with spare room, walked. -/
namespace Go.Proofs.Ytdjpkgaicmklmaa
open Go.RowKit

abbrev mk1 : List Value := [.int .i64 (-7), .int .i64 0]
abbrev mk2 : List Value := [.int .i64 (-7), .int .i64 0, .int .i64 0, .bool false, .string ⟨#[]⟩]
abbrev mk3 : List Value := [.int .i64 (-7), .string ⟨#[]⟩]
abbrev z1 : List Value := [.int .i64 0, .int .i64 0]
abbrev z2 : List Value := [.int .i64 0, .int .i64 0, .int .i64 0, .bool false, .string ⟨#[]⟩]
abbrev z3 : List Value := [.int .i64 0, .string ⟨#[]⟩]

/-- A copy of a replica, with two marks behind each row. -/
structure Handed (w : World) (R : Rep) (b1 b2 b3 : Option Addr) (g1 g2 g3 : Nat) : Prop where
  e1 : b1 = some ⟨g1, 0, none⟩
  e2 : b2 = some ⟨g2, 0, none⟩
  e3 : b3 = some ⟨g3, 0, none⟩
  o1 : Own w g1 67 2 ((List.range R.n1).map (fun i => (R.c i).cells) ++ [mk1, mk1])
  o2 : Own w g2 69 5 ((List.range R.n2).map (fun i => (R.d i).cells) ++ [mk2, mk2])
  o3 : Own w g3 71 2 ((List.range R.n3).map (fun i => (R.e i).cells) ++ [mk3, mk3])
  d12 : g1 < g2
  d23 : g2 < g3

/-- Two places behind a row, the first i of them marked. -/
def mrk (i : Nat) (m z : List Value) : List (List Value) := if i = 0 then [z, z] else if i = 1 then [m, z] else [m, m]
theorem mrk_start (n : Nat) (f : Nat → List Value) (m z : List Value) : (List.range n).map f ++ (List.replicate (n + 2) z).drop n = (List.range n).map f ++ mrk 0 m z := by
  congr 1
  rw [List.drop_replicate, show n + 2 - n = 2 by omega]; rfl
theorem mrk_length (n i : Nat) (f : Nat → List Value) (m z : List Value) : ((List.range n).map f ++ mrk i m z).length = n + 2 := by
  unfold mrk; split; (simp); split <;> simp
theorem mrk_step (n i : Nat) (f : Nat → List Value) (m z : List Value) (hi : i < 2) : ((List.range n).map f ++ mrk i m z).set (n + i) m = (List.range n).map f ++ mrk (i + 1) m z := by
  rw [List.set_append]
  simp only [List.length_map, List.length_range]
  rw [if_neg (by omega), show n + i - n = i by omega]
  congr 1
  rcases (by omega : i = 0 ∨ i = 1) with rfl | rfl <;> rfl
theorem mrk_end (m z : List Value) : mrk 2 m z = [m, m] := rfl

/-- The world behind the parameter's box and the result's cell. -/
abbrev W2 (w : World) (R : Rep) (a1 a2 a3 : Option Addr) (k1 k2 k3 : Nat) : World :=
  (w.alloc (.cells #[.slice a1 R.n1 k1, .slice a2 R.n2 k2, .slice a3 R.n3 k3] 26)).alloc (.cells #[.slice none 0 0, .slice none 0 0, .slice none 0 0] 26)
abbrev Box2 (w : World) (R : Rep) (a1 a2 a3 : Option Addr) (k1 k2 k3 : Nat) (wr : World) : Prop := Below (w.heap.size + 2) (W2 w R a1 a2 a3 k1 k2 k3) wr

theorem Box2.cells {w : World} {R : Rep} {a1 a2 a3 : Option Addr} {k1 k2 k3 : Nat} {wr : World} (hb : Box2 w R a1 a2 a3 k1 k2 k3 wr) :
    wr.cell? ⟨w.heap.size, 0, none⟩ = some (.slice a1 R.n1 k1) ∧ wr.cell? ⟨w.heap.size, 1, none⟩ = some (.slice a2 R.n2 k2) ∧ wr.cell? ⟨w.heap.size, 2, none⟩ = some (.slice a3 R.n3 k3) := by
  refine ⟨?_, ?_, ?_⟩
  · rw [hb.cell (p := ⟨w.heap.size, 0, none⟩) (by simp)]; simp
  · rw [hb.cell (p := ⟨w.heap.size, 1, none⟩) (by simp)]; simp
  · rw [hb.cell (p := ⟨w.heap.size, 2, none⟩) (by simp)]; simp
theorem Box2.size {w : World} {R : Rep} {a1 a2 a3 : Option Addr} {k1 k2 k3 : Nat} {wr : World} (hb : Box2 w R a1 a2 a3 k1 k2 k3 wr) : w.heap.size + 2 ≤ wr.heap.size := by
  have := Below.size hb; simpa using this
theorem Box2.res {w : World} {R : Rep} {a1 a2 a3 : Option Addr} {k1 k2 k3 : Nat} {wr : World} (hb : Box2 w R a1 a2 a3 k1 k2 k3 wr) :
    (wr.cell? ⟨w.heap.size + 1, 0, none⟩ = some (.slice none 0 0) ∧ wr.cell? ⟨w.heap.size + 1, 1, none⟩ = some (.slice none 0 0) ∧ wr.cell? ⟨w.heap.size + 1, 2, none⟩ = some (.slice none 0 0)) ∧
    (∀ j, wr.frozen? ⟨w.heap.size + 1, j, none⟩ = false) := by
  refine ⟨⟨?_, ?_, ?_⟩, fun j => ?_⟩
  · rw [hb.cell (p := ⟨w.heap.size + 1, 0, none⟩) (by simp)]; simp
  · rw [hb.cell (p := ⟨w.heap.size + 1, 1, none⟩) (by simp)]; simp
  · rw [hb.cell (p := ⟨w.heap.size + 1, 2, none⟩) (by simp)]; simp
  · rw [hb.frozen (p := ⟨w.heap.size + 1, j, none⟩) (by simp)]; simp
theorem Box2.old {w : World} {R : Rep} {a1 a2 a3 : Option Addr} {k1 k2 k3 : Nat} {wr : World} (hb : Box2 w R a1 a2 a3 k1 k2 k3 wr) : Below w.heap.size w wr :=
  (((Below.refl _ w).alloc (Nat.le_refl _) _).alloc (by simp) _).trans (hb.mono (by omega))
theorem Box2.step {w : World} {R : Rep} {a1 a2 a3 : Option Addr} {k1 k2 k3 : Nat} {wr w' : World} (hb : Box2 w R a1 a2 a3 k1 k2 k3 wr) (h : Below wr.heap.size wr w') : Box2 w R a1 a2 a3 k1 k2 k3 w' :=
  Below.trans hb (h.mono hb.size)

theorem set3 (wr : World) (b : Nat) (x y z u0 u1 u2 : Value) (h0 : wr.cell? ⟨b, 0, none⟩ = some u0) (h1 : wr.cell? ⟨b, 1, none⟩ = some u1) (h2 : wr.cell? ⟨b, 2, none⟩ = some u2) :
    ∃ X, X = (((wr.setCell ⟨b, 0, none⟩ x).setCell ⟨b, 1, none⟩ y).setCell ⟨b, 2, none⟩ z).drew ∧ X.cell? ⟨b, 0, none⟩ = some x ∧ X.cell? ⟨b, 1, none⟩ = some y ∧ X.cell? ⟨b, 2, none⟩ = some z ∧ Upd b wr X := by
  refine ⟨_, rfl, ?_, ?_, ?_, ((((Upd.refl b wr).setCell ⟨b, 0, none⟩ rfl x).setCell ⟨b, 1, none⟩ rfl y).setCell ⟨b, 2, none⟩ rfl z).drew⟩ <;> simp [go_sem, h0, h1, h2]
theorem cells_len1 (x : Ck) : x.cells.length = 2 := rfl
theorem ones1 (x : Ck) : ∀ v, v ∈ x.cells → v.oneCell' = true := by intro v h; simp at h; rcases h with rfl | rfl <;> rfl
theorem ones2 (x : Cd) : ∀ v, v ∈ x.cells → v.oneCell' = true := by intro v h; simp at h; rcases h with rfl | rfl | rfl | rfl | rfl <;> rfl
theorem ones3 (x : Ed) : ∀ v, v ∈ x.cells → v.oneCell' = true := by intro v h; simp at h; rcases h with rfl | rfl <;> rfl

set_option maxRecDepth 100000 in
set_option maxHeartbeats 4000000 in
theorem handed_any (R : Rep) (a1 a2 a3 : Option Addr) (k1 k2 k3 : Nat) (w : World) (hR : Has w R a1 a2 a3) :
    Calls Try.prog 14 #[repV R a1 a2 a3 k1 k2 k3] w fun e w' => ∃ b1 b2 b3 g1 g2 g3, e = .returned (repV R b1 b2 b3 (R.n1 + 2) (R.n2 + 2) (R.n3 + 2)) ∧ Handed w' R b1 b2 b3 g1 g2 g3 ∧ w.heap.size ≤ g1 ∧ Below w.heap.size w w' := by
  have b1 := hR.b1; have b2 := hR.b2; have b3 := hR.b3; have y1 := hR.y1; have y2 := hR.y2; have y3 := hR.y3
  go_enter Try.func14, Try.ntmps14
  go_wp2_with (first
    | (at_make; refine wpList_make_rows (by rfl) _ _ 22 (by rfl) 67 z1 2 16 Try.underlying22 (by kernel_rfl) rfl (by decide) (R.n1 + 2) _ ?_ (by rfl) (by rfl) ?_ ?_ ?_; (omega); (omega); (omega); intro g1 ad1 w1 e1 hg1 hl1 o1 hb1; have q1 : Box2 w R a1 a2 a3 k1 k2 k3 w1 := hb1.mono (by simp); clear hb1; obtain ⟨c11, c12, c13⟩ := q1.cells; have hL1 := (hR.below q1.old).l1; simp only [World.size_alloc] at hg1)
    | (at_make; refine wpList_make_rows (by rfl) _ _ 23 (by rfl) 69 z2 5 48 Try.underlying23 (by kernel_rfl) rfl (by decide) (R.n2 + 2) _ ?_ (by rfl) (by rfl) ?_ ?_ ?_; (omega); (omega); (omega); intro g2 ad2 w3 e2 hg2 hl3 o2 hb3; have q3 : Box2 w R a1 a2 a3 k1 k2 k3 w3 := q2.step hb3; have o13 := o1'.below hb3 hl2; obtain ⟨c31, c32, c33⟩ := q3.cells; have hL3 := (hR.below q3.old).l2; have hg12 : g1 < g2 := (by omega); clear q2 c21 c22 c23 hL2 o1' hb3 hl2 hg2)
    | (at_make; refine wpList_make_rows (by rfl) _ _ 24 (by rfl) 71 z3 2 24 Try.underlying24 (by kernel_rfl) rfl (by decide) (R.n3 + 2) _ ?_ (by rfl) (by rfl) ?_ ?_ ?_; (omega); (omega); (omega); intro g3 ad3 w5 e3 hg3 hl5 o3 hb5; have q5 : Box2 w R a1 a2 a3 k1 k2 k3 w5 := q4.step hb5; have o15 := o14.below hb5 (by omega); have o25 := o2'.below hb5 hl4; obtain ⟨c51, c52, c53⟩ := q5.cells; have hL5 := (hR.below q5.old).l3; have hg23 : g2 < g3 := (by omega); clear q4 c41 c42 c43 o14 o2' hb5 hl4 hg3)
    | (refine wpList_copy_rows (by rfl) _ _ 22 22 (by rfl) 67 2 Try.underlying22 (by kernel_rfl) g1 ad1 e1 (R.n1 + 2) _ R.n1 _ _ (by rfl) (by rfl) (fun i => (R.c i).cells) _ o1 ?_ ?_ hL1 ?_ ?_ ?_; (simp); (omega); (intro i _; rfl); (intro i _; exact ones1 _); intro w2 o1' u2; have q2 : Box2 w R a1 a2 a3 k1 k2 k3 w2 := u2.below q1 (by omega); obtain ⟨c21, c22, c23⟩ := q2.cells; have hl2 : g1 < w2.heap.size := o1'.lt; have hL2 := (hR.below q2.old).l2; clear q1 c11 c12 c13 hL1 o1 u2 hl1)
    | (refine wpList_copy_rows (by rfl) _ _ 23 23 (by rfl) 69 5 Try.underlying23 (by kernel_rfl) g2 ad2 e2 (R.n2 + 2) _ R.n2 _ _ (by rfl) (by rfl) (fun i => (R.d i).cells) _ o2 ?_ ?_ hL3 ?_ ?_ ?_; (simp); (omega); (intro i _; rfl); (intro i _; exact ones2 _); intro w4 o2' u4; have q4 : Box2 w R a1 a2 a3 k1 k2 k3 w4 := u4.below q3 (by omega); obtain ⟨c41, c42, c43⟩ := q4.cells; have hl4 : g2 < w4.heap.size := o2'.lt; have o14 := o13.upd u4 (by omega); clear q3 c31 c32 c33 hL3 o2 u4 o13 hl3)
    | (refine wpList_copy_rows (by rfl) _ _ 24 24 (by rfl) 71 2 Try.underlying24 (by kernel_rfl) g3 ad3 e3 (R.n3 + 2) _ R.n3 _ _ (by rfl) (by rfl) (fun i => (R.e i).cells) _ o3 ?_ ?_ hL5 ?_ ?_ ?_; (simp); (omega); (intro i _; rfl); (intro i _; exact ones3 _); intro w6 o3' u6; have q6 : Box2 w R a1 a2 a3 k1 k2 k3 w6 := u6.below q5 (by omega); have o16 := o15.upd u6 (by omega); have o26 := o25.upd u6 (by omega); clear q5 c51 c52 c53 hL5 o3 u6 o15 o25 hl5))
  rw [mrk_start _ _ mk1] at o16
  rw [mrk_start _ _ mk2] at o26
  rw [mrk_start _ _ mk3] at o3'
  go_loopw [6] (fun v wr => ∃ i : Nat, i ≤ 2 ∧ v = .int .i64 i ∧ Own wr g1 67 2 ((List.range R.n1).map (fun i => (R.c i).cells) ++ mrk i mk1 z1) ∧ Own wr g2 69 5 ((List.range R.n2).map (fun i => (R.d i).cells) ++ mrk i mk2 z2) ∧ Own wr g3 71 2 ((List.range R.n3).map (fun i => (R.e i).cells) ++ mrk i mk3 z3) ∧ Box2 w R a1 a2 a3 k1 k2 k3 wr) (fun v _ => 2 - (intOf v).toNat)
  case atStart => exact ⟨0, by omega, rfl, o16, o26, o3', q6⟩
  case round =>
    clear o16 o26 o3' q6
    obtain ⟨i, hi, rfl, o1, o2, o3, q⟩ := hrel
    obtain ⟨c1, c2, c3⟩ := q.cells
    by_cases hlt : i < 2
    · have x1 := fun w' => Own.idx e1 (P := Try.prog) (t := 22) (m := 2) (R.n1 + 2) (R.n1 + 2) (by kernel_rfl) (by kernel_rfl) (k := R.n1 + i) (by omega) ((R.n1 : Int) + (i : Int)) (by omega) w'
      have x2 := fun w' => Own.idx e2 (P := Try.prog) (t := 23) (m := 5) (R.n2 + 2) (R.n2 + 2) (by kernel_rfl) (by kernel_rfl) (k := R.n2 + i) (by omega) ((R.n2 : Int) + (i : Int)) (by omega) w'
      have x3 := fun w' => Own.idx e3 (P := Try.prog) (t := 24) (m := 2) (R.n3 + 2) (R.n3 + 2) (by kernel_rfl) (by kernel_rfl) (k := R.n3 + i) (by omega) ((R.n3 : Int) + (i : Int)) (by omega) w'
      go_wp2_with (first
        | (refine wpList_store_rows (by rfl) _ _ 67 (by rfl) 67 2 (by kernel_rfl) g1 (R.n1 + i) _ rfl (by rfl) mk1 (by rfl) rfl ?_ _ o1 ?_ ?_; (simp [Value.oneCell']); (rw [mrk_length]; omega); rw [mrk_step _ _ _ _ _ hlt]; intro wa oa ua; have ob := o2.upd ua (by omega); have oc := o3.upd ua (by omega); have qa : Box2 w R a1 a2 a3 k1 k2 k3 wa := ua.below q (by omega); obtain ⟨ca1, ca2, ca3⟩ := qa.cells; clear o1 o2 o3 q c1 c2 c3 ua)
        | (refine wpList_store_rows (by rfl) _ _ 69 (by rfl) 69 5 (by kernel_rfl) g2 (R.n2 + i) _ rfl (by rfl) mk2 (by rfl) rfl ?_ _ ob ?_ ?_; (simp [Value.oneCell']); (rw [mrk_length]; omega); rw [mrk_step _ _ _ _ _ hlt]; intro wb od ub; have oe := oa.upd ub (by omega); have of := oc.upd ub (by omega); have qb : Box2 w R a1 a2 a3 k1 k2 k3 wb := ub.below qa (by omega); obtain ⟨cb1, cb2, cb3⟩ := qb.cells; clear oa ob oc qa ca1 ca2 ca3 ub)
        | (refine wpList_store_rows (by rfl) _ _ 71 (by rfl) 71 2 (by kernel_rfl) g3 (R.n3 + i) _ rfl (by rfl) mk3 (by rfl) rfl ?_ _ of ?_ ?_; (simp [Value.oneCell']); (rw [mrk_length]; omega); rw [mrk_step _ _ _ _ _ hlt]; intro wc og uc; have oh := oe.upd uc (by omega); have oi := od.upd uc (by omega); have qc : Box2 w R a1 a2 a3 k1 k2 k3 wc := uc.below qb (by omega); clear od oe of qb cb1 cb2 cb3 uc))
      go_roundw
      case rel => exact ⟨i + 1, by omega, by go_num, oh, oi, og, qc⟩
      case measure => simp [intOf]; omega
    · obtain rfl : i = 2 := by omega
      rw [mrk_end] at o1 o2 o3
      obtain ⟨⟨r1, r2, r3⟩, rf⟩ := q.res
      have rf0 := rf 0; have rf1 := rf 1; have rf2 := rf 2
      have u1 : (0 : Int) ≤ (R.n1 : Int) := by omega
      have u2 : (R.n1 : Int) ≤ (R.n1 : Int) + 2 := by omega
      have u3 : (0 : Int) ≤ (R.n2 : Int) := by omega
      have u4 : (R.n2 : Int) ≤ (R.n2 : Int) + 2 := by omega
      have u5 : (0 : Int) ≤ (R.n3 : Int) := by omega
      have u6 : (R.n3 : Int) ≤ (R.n3 : Int) + 2 := by omega
      have hz := q.size
      go_wp2_with fail
      go_region_held3 (fun w' => w'.cell? ⟨w.heap.size, 0, none⟩ = some (.slice a1 R.n1 k1) ∧ w'.cell? ⟨w.heap.size, 1, none⟩ = some (.slice a2 R.n2 k2) ∧ w'.cell? ⟨w.heap.size, 2, none⟩ = some (.slice a3 R.n3 k3))
         (first | (go_keep; done))
         (fail)
      go_wp2_with fail
      obtain ⟨X, hX, x0, x1, x2, hu⟩ := set3 wr (w.heap.size + 1) (.slice ad1 R.n1 (R.n1 + 2)) (.slice ad2 R.n2 (R.n2 + 2)) (.slice ad3 R.n3 (R.n3 + 2)) _ _ _ r1 r2 r3
      rw [← hX]
      clear hX
      have hH : Handed X R ad1 ad2 ad3 g1 g2 g3 := ⟨e1.out, e2.out, e3.out, o1.upd hu (by omega), o2.upd hu (by omega), o3.upd hu (by omega), hg12, hg23⟩
      have hB : Below w.heap.size w X := hu.below q.old (by omega)
      have hgg : w.heap.size ≤ g1 := by omega
      refine bodyPost_ret (v := repV R ad1 ad2 ad3 (R.n1 + 2) (R.n2 + 2) (R.n3 + 2)) ?_ rfl ⟨ad1, ad2, ad3, g1, g2, g3, rfl, hH, hgg, hB⟩
      simp [results, Try.results14, go_sem, x0, x1, x2]
end Go.Proofs.Ytdjpkgaicmklmaa

/- parcellaw.sameReplica and parcellaw.still, walked, where the two replicas are the same. -/
namespace Go.Proofs.Ytdjpkgaicmklmaa
open Go.RowKit

/-- Two boxes. -/
abbrev BoxS (w : World) (R : Rep) (a1 a2 a3 b1 b2 b3 : Option Addr) (k1 k2 k3 l1 l2 l3 : Nat) (wr : World) : Prop :=
  Below (w.heap.size + 2) ((w.alloc (.cells #[.slice a1 R.n1 k1, .slice a2 R.n2 k2, .slice a3 R.n3 k3] 26)).alloc (.cells #[.slice b1 R.n1 l1, .slice b2 R.n2 l2, .slice b3 R.n3 l3] 26)) wr

theorem BoxS.cells {w : World} {R : Rep} {a1 a2 a3 b1 b2 b3 : Option Addr} {k1 k2 k3 l1 l2 l3 : Nat} {wr : World} (hb : BoxS w R a1 a2 a3 b1 b2 b3 k1 k2 k3 l1 l2 l3 wr) :
    (wr.cell? ⟨w.heap.size, 0, none⟩ = some (.slice a1 R.n1 k1) ∧ wr.cell? ⟨w.heap.size, 1, none⟩ = some (.slice a2 R.n2 k2) ∧ wr.cell? ⟨w.heap.size, 2, none⟩ = some (.slice a3 R.n3 k3)) ∧
    wr.cell? ⟨w.heap.size + 1, 0, none⟩ = some (.slice b1 R.n1 l1) ∧ wr.cell? ⟨w.heap.size + 1, 1, none⟩ = some (.slice b2 R.n2 l2) ∧ wr.cell? ⟨w.heap.size + 1, 2, none⟩ = some (.slice b3 R.n3 l3) := by
  refine ⟨⟨?_, ?_, ?_⟩, ?_, ?_, ?_⟩
  · rw [hb.cell (p := ⟨w.heap.size, 0, none⟩) (by simp)]; simp
  · rw [hb.cell (p := ⟨w.heap.size, 1, none⟩) (by simp)]; simp
  · rw [hb.cell (p := ⟨w.heap.size, 2, none⟩) (by simp)]; simp
  · rw [hb.cell (p := ⟨w.heap.size + 1, 0, none⟩) (by simp)]; simp
  · rw [hb.cell (p := ⟨w.heap.size + 1, 1, none⟩) (by simp)]; simp
  · rw [hb.cell (p := ⟨w.heap.size + 1, 2, none⟩) (by simp)]; simp
theorem BoxS.old {w : World} {R : Rep} {a1 a2 a3 b1 b2 b3 : Option Addr} {k1 k2 k3 l1 l2 l3 : Nat} {wr : World} (hb : BoxS w R a1 a2 a3 b1 b2 b3 k1 k2 k3 l1 l2 l3 wr) : Below w.heap.size w wr :=
  (((Below.refl _ w).alloc (Nat.le_refl _) _).alloc (by simp) _).trans (hb.mono (by omega))
theorem BoxS.size {w : World} {R : Rep} {a1 a2 a3 b1 b2 b3 : Option Addr} {k1 k2 k3 l1 l2 l3 : Nat} {wr : World} (hb : BoxS w R a1 a2 a3 b1 b2 b3 k1 k2 k3 l1 l2 l3 wr) : w.heap.size + 2 ≤ wr.heap.size := by
  have := Below.size hb; simpa using this

set_option maxRecDepth 100000 in
set_option maxHeartbeats 4000000 in
theorem sameReplica_any (R : Rep) (a1 a2 a3 b1 b2 b3 : Option Addr) (k1 k2 k3 l1 l2 l3 : Nat) (w : World) (hA : Has w R a1 a2 a3) (hB : Has w R b1 b2 b3) :
    Calls Try.prog 40 #[repV R a1 a2 a3 k1 k2 k3, repV R b1 b2 b3 l1 l2 l3] w fun e w' => e = .returned (.bool true) ∧ Below w.heap.size w w' := by
  have y1 := hA.b1; have y2 := hA.b2; have y3 := hA.b3
  go_enter Try.func40, Try.ntmps40
  go_wp2
  go_loopw [5] (fun i wr => ∃ k : Nat, k ≤ R.n1 ∧ i = .int .i64 k ∧ BoxS w R a1 a2 a3 b1 b2 b3 k1 k2 k3 l1 l2 l3 wr) (fun i _ => R.n1 - (intOf i).toNat)
  case atStart => exact ⟨0, Nat.zero_le _, rfl, Below.refl _ _⟩
  case round =>
    obtain ⟨k, hk, rfl, hb⟩ := hrel
    obtain ⟨⟨x1, x2, x3⟩, z1, z2, z3⟩ := hb.cells
    by_cases hlt : k < R.n1
    · obtain ⟨b, o, hbl, hix, hs, hc⟩ := (hA.below hb.old).l1.clock k1 hlt
      obtain ⟨b', o', hbl', hix', hs', hc'⟩ := (hB.below hb.old).l1.clock l1 hlt
      go_wp2
      go_quiet (fail)
      go_wp2
      go_roundw
      case rel => exact ⟨k + 1, by omega, by go_num, below_drewN hb _⟩
      case measure => simp [intOf]; omega
    · go_wp2
      go_loopw [6] (fun i wr => ∃ k : Nat, k ≤ R.n2 ∧ i = .int .i64 k ∧ BoxS w R a1 a2 a3 b1 b2 b3 k1 k2 k3 l1 l2 l3 wr) (fun i _ => R.n2 - (intOf i).toNat)
      case atStart => exact ⟨0, Nat.zero_le _, rfl, hb⟩
      case round =>
        clear x1 x2 x3 z1 z2 z3 hb hk hlt
        obtain ⟨k, hk, rfl, hb⟩ := hrel
        obtain ⟨⟨x1, x2, x3⟩, z1, z2, z3⟩ := hb.cells
        by_cases hlt : k < R.n2
        · obtain ⟨b, o, hbl, hix, c1, c2, c3, c4, c5⟩ := (hA.below hb.old).l2.card k2 hlt
          obtain ⟨b', o', hbl', hix', d1, d2, d3, d4, d5⟩ := (hB.below hb.old).l2.card l2 hlt
          go_wp2
          go_quiet (fail)
          go_wp2
          go_roundw
          case rel => exact ⟨k + 1, by omega, by go_num, below_drewN hb _⟩
          case measure => simp [intOf]; omega
        · go_wp2
          go_loopw [7] (fun i wr => ∃ k : Nat, k ≤ R.n3 ∧ i = .int .i64 k ∧ BoxS w R a1 a2 a3 b1 b2 b3 k1 k2 k3 l1 l2 l3 wr) (fun i _ => R.n3 - (intOf i).toNat)
          case atStart => exact ⟨0, Nat.zero_le _, rfl, hb⟩
          case round =>
            clear x1 x2 x3 z1 z2 z3 hb hk hlt
            obtain ⟨k, hk, rfl, hb⟩ := hrel
            obtain ⟨⟨x1, x2, x3⟩, z1, z2, z3⟩ := hb.cells
            by_cases hlt : k < R.n3
            · obtain ⟨b, o, hbl, hix, c1, c2⟩ := (hA.below hb.old).l3.edit k3 hlt
              obtain ⟨b', o', hbl', hix', d1, d2⟩ := (hB.below hb.old).l3.edit l3 hlt
              go_wp2
              go_quiet (fail)
              go_wp2
              go_roundw
              case rel => exact ⟨k + 1, by omega, by go_num, below_drewN hb _⟩
              case measure => simp [intOf]; omega
            · go_wp2
              go_ret
              exact ⟨rfl, hb.old⟩

theorem Own.mark {w : World} {g e m n i : Nat} {f : Nat → List Value} {mk : List Value} (h : Own w g e m ((List.range n).map f ++ [mk, mk])) (hi : i < 2) (hm : 0 < m) {v : Value} (hv : mk[0]? = some v) : w.cell? ⟨g, (n + i) * m, none⟩ = some v := by
  have hc := h.cell (n + i) 0 (by simp; omega) hm
  rw [Nat.add_zero] at hc
  rw [hc]
  have hg : ((List.range n).map f ++ [mk, mk]).getD (n + i) [] = mk := by
    rw [List.getD, List.getElem?_append_right (by simp)]
    simp only [List.length_map, List.length_range, show n + i - n = i by omega]
    rcases (by omega : i = 0 ∨ i = 1) with rfl | rfl <;> rfl
  rw [hg, hv]

theorem Handed.has {w : World} {R : Rep} {a1 a2 a3 b1 b2 b3 : Option Addr} {g1 g2 g3 : Nat} (h : Handed w R b1 b2 b3 g1 g2 g3) {w0 : World} (hR : Has w0 R a1 a2 a3) : Has w R b1 b2 b3 := by
  refine ⟨?_, ?_, ?_, hR.b1, hR.b2, hR.b3, hR.y1, hR.y2, hR.y3⟩
  · rw [h.e1]; refine h.o1.lies R.n1 _ (by simp) fun i hi => ?_
    rw [List.getD, List.getElem?_append_left (by simpa using hi)]; simp [hi]
  · rw [h.e2]; refine h.o2.lies R.n2 _ (by simp) fun i hi => ?_
    rw [List.getD, List.getElem?_append_left (by simpa using hi)]; simp [hi]
  · rw [h.e3]; refine h.o3.lies R.n3 _ (by simp) fun i hi => ?_
    rw [List.getD, List.getElem?_append_left (by simpa using hi)]; simp [hi]

theorem Handed.below {w w' : World} {R : Rep} {b1 b2 b3 : Option Addr} {g1 g2 g3 : Nat} (h : Handed w R b1 b2 b3 g1 g2 g3) (hb : Below w.heap.size w w') : Handed w' R b1 b2 b3 g1 g2 g3 :=
  ⟨h.e1, h.e2, h.e3, h.o1.below hb h.o1.lt, h.o2.below hb h.o2.lt, h.o3.below hb h.o3.lt, h.d12, h.d23⟩

theorem boxS_step {w : World} {R : Rep} {a1 a2 a3 b1 b2 b3 : Option Addr} {k1 k2 k3 l1 l2 l3 : Nat} {wr w' : World} (hb : BoxS w R a1 a2 a3 b1 b2 b3 k1 k2 k3 l1 l2 l3 wr) (h : Below wr.heap.size wr w') : BoxS w R a1 a2 a3 b1 b2 b3 k1 k2 k3 l1 l2 l3 w' :=
  Below.trans hb (h.mono hb.size)

set_option maxRecDepth 100000 in
set_option maxHeartbeats 4000000 in
theorem still_any (R : Rep) (a1 a2 a3 b1 b2 b3 : Option Addr) (g1 g2 g3 k1 k2 k3 : Nat) (w : World) (hA : Has w R a1 a2 a3) (hH : Handed w R b1 b2 b3 g1 g2 g3) :
    Calls Try.prog 17 #[repV R b1 b2 b3 (R.n1 + 2) (R.n2 + 2) (R.n3 + 2), repV R a1 a2 a3 k1 k2 k3] w fun e w' => e = .returned (.bool true) ∧ Below w.heap.size w w' := by
  have y1 := hA.b1; have y2 := hA.b2; have y3 := hA.b3
  have u1 : (0 : Int) ≤ (R.n1 : Int) + 2 := by omega
  have u3 : (0 : Int) ≤ (R.n2 : Int) + 2 := by omega
  have u5 : (0 : Int) ≤ (R.n3 : Int) + 2 := by omega
  have hb0 : BoxS w R b1 b2 b3 a1 a2 a3 (R.n1 + 2) (R.n2 + 2) (R.n3 + 2) k1 k2 k3 ((w.alloc (.cells #[.slice b1 R.n1 (R.n1 + 2), .slice b2 R.n2 (R.n2 + 2), .slice b3 R.n3 (R.n3 + 2)] 26)).alloc (.cells #[.slice a1 R.n1 k1, .slice a2 R.n2 k2, .slice a3 R.n3 k3] 26)) := Below.refl _ _
  go_enter Try.func17, Try.ntmps17
  go_wp2_with fail
  refine (sameReplica_any R b1 b2 b3 a1 a2 a3 _ _ _ _ _ _ _ ((hH.has hA).below hb0.old) (hA.below hb0.old)).mono ?_
  rintro e w1 ⟨rfl, h1⟩
  have hb1 := boxS_step hb0 h1
  clear h1 hb0
  obtain ⟨⟨x1, x2, x3⟩, z1, z2, z3⟩ := hb1.cells
  go_wp2_with fail
  go_loop [9] (fun v => ∃ i : Nat, i ≤ 2 ∧ v = .int .i64 i) (fun v => 2 - (intOf v).toNat)
  case atStart => exact ⟨0, by omega, rfl⟩
  case round =>
    obtain ⟨i, hi, rfl⟩ := hrel
    have hH1 := hH.below hb1.old
    by_cases hlt : i < 2
    · have e1 : Hid (b1 = some ⟨g1, 0, none⟩) := hH.e1
      have e2 : Hid (b2 = some ⟨g2, 0, none⟩) := hH.e2
      have e3 : Hid (b3 = some ⟨g3, 0, none⟩) := hH.e3
      have v1 := fun w' => Own.idx e1 (P := Try.prog) (t := 22) (m := 2) (R.n1 + 2) (R.n1 + 2) (by kernel_rfl) (by kernel_rfl) (k := R.n1 + i) (by omega) ((R.n1 : Int) + (i : Int)) (by omega) w'
      have v2 := fun w' => Own.idx e2 (P := Try.prog) (t := 23) (m := 5) (R.n2 + 2) (R.n2 + 2) (by kernel_rfl) (by kernel_rfl) (k := R.n2 + i) (by omega) ((R.n2 : Int) + (i : Int)) (by omega) w'
      have v3 := fun w' => Own.idx e3 (P := Try.prog) (t := 24) (m := 2) (R.n3 + 2) (R.n3 + 2) (by kernel_rfl) (by kernel_rfl) (k := R.n3 + i) (by omega) ((R.n3 : Int) + (i : Int)) (by omega) w'
      have c1 := hH1.o1.mark hlt (by omega) (v := .int .i64 (-7)) rfl
      have c2 := hH1.o2.mark hlt (by omega) (v := .int .i64 (-7)) rfl
      have c3 := hH1.o3.mark hlt (by omega) (v := .int .i64 (-7)) rfl
      go_wp2_with fail
      go_round
      case rel => exact ⟨i + 1, by omega, by go_num⟩
      case measure => simp [intOf]; omega
    · go_wp2_with fail
      go_ret
      exact ⟨rfl, hb1.old⟩
end Go.Proofs.Ytdjpkgaicmklmaa

/- Reads: called with any bytes, up to very many, it answers true. -/
namespace Go.Proofs.Ytdjpkgaicmklmaa
open Go.RowKit

set_option maxRecDepth 100000 in
set_option maxHeartbeats 4000000 in
theorem pread_any (b : List UInt8) (w : World) (hb : b.length ≤ 1099511627776) :
    Calls Try.prog 43 #[.string (str b)] w fun e w' => ReadAns (readRd b) w.heap.size e w' ∧ Below w.heap.size w w' := by
  obtain ⟨hR, hW, hB⟩ := one_box w 75 (lnkC 0 0 none 0 0 none 0 0 none 0 0).toArray
  go_enter Try.func43, Try.ntmps43
  go_wp2_with fail
  refine (bread_any b _ hb).mono ?_
  rintro e w1 ⟨⟨a1, n1, c1, a2, n2, c2, a3, n3, c3, rfl, hL⟩, hb1⟩
  replace hL := hL.mono (Nat.le_of_eq hW.symm : w.heap.size + 1 ≤ _)
  replace hR := hR.below hb1 hR.lt
  replace hB := hB.trans (hb1.mono (Nat.le_trans (Nat.le_succ _) (Nat.le_of_eq hW.symm)))
  clear hb1 hW
  generalize hx : readRd b = x at *
  have HX : Hid (readRd b = x) := hx
  clear hx
  go_wp2_with (refine wpList_bstore (by rfl) _ _ _ (by rfl) w.heap.size 75 (by rfl) _ _ (by rfl) hR 5 (by rfl) (by kernel_rfl) (by rfl) (by intro x hx; simp at hx; rcases hx with rfl | rfl | rfl | rfl | rfl <;> rfl) ?_; intro w9 hR9 hU9; replace hR := hR9; replace hB := hU9.below hB (Nat.le_refl _); replace hL := hL.upd hU9 (by omega); clear hR9 hU9)
  exact bodyPost_ret (v := .tuple #[.agg (lnkC x.seq x.base a1 n1 c1 a2 n2 c2 a3 n3 c3).toArray, .int .i64 x.err, .int .i64 x.place]) (results_box3 (by rfl) _ _ w.heap.size 75 _ _ _ _ (by rfl) hR (by rfl) (by rfl) Try.underlying75 (by rfl) 5 (by rfl) (by kernel_rfl)) rfl ⟨by rw [HX.out]; exact ⟨a1, n1, c1, a2, n2, c2, a3, n3, c3, rfl, hL.mono (Nat.le_succ _)⟩, hB⟩

theorem Lists.has {w : World} {B : Nat} {K : List Ck} {C : List Cd} {E : List Ed} {a1 : Option Addr} {n1 c1 : Nat} {a2 : Option Addr} {n2 c2 : Nat} {a3 : Option Addr} {n3 c3 : Nat} (h : Lists w B K C E a1 n1 c1 a2 n2 c2 a3 n3 c3) (h1 : n1 ≤ 1099511627776) (h2 : n2 ≤ 1099511627776) (h3 : n3 ≤ 1099511627776) :
    Has w (repOf K C E) a1 a2 a3 ∧ repV (repOf K C E) a1 a2 a3 c1 c2 c3 = .agg #[.slice a1 n1 c1, .slice a2 n2 c2, .slice a3 n3 c3] := by
  obtain ⟨v1, v2, v3, rfl, rfl, rfl⟩ := h
  refine ⟨⟨kvec_lies v1 rfl, cvec_lies v2 rfl, evec_lies v3 rfl, ?_, ?_, ?_, ?_, ?_, ?_⟩, rfl⟩ <;> simp only [repOf] <;> omega
theorem readRd_few (b : List UInt8) : (readRd b).K.length ≤ b.length ∧ (readRd b).C.length ≤ b.length ∧ (readRd b).E.length ≤ b.length := by
  have hl : ∀ l : List Fd, l.length ≤ b.length → (ansOk l).K.length ≤ b.length ∧ (ansOk l).C.length ≤ b.length ∧ (ansOk l).E.length ≤ b.length := fun l h => ⟨Nat.le_trans (ckOf_le l) h, Nat.le_trans (cdOf_le l) h, Nat.le_trans (edOf_le l) h⟩
  have he : ∀ e p, (ansErr e p).K.length ≤ b.length ∧ (ansErr e p).C.length ≤ b.length ∧ (ansErr e p).E.length ≤ b.length := fun e p => ⟨by simp [ansErr], by simp [ansErr], by simp [ansErr]⟩
  unfold readRd
  split
  · exact he _ _
  · split
    · split
      · exact he _ _
      · split
        · exact he _ _
        · refine hl _ ?_
          have := frF_length (b.take (b.length - 4)).length 4 ((b.take (b.length - 4)).drop 4)
          unfold framed
          refine Nat.le_trans this ?_
          simp
    · exact he _ _

set_option maxRecDepth 100000 in
set_option maxHeartbeats 4000000 in
theorem read_any (s : List UInt8) (w : World) (B go : Nat) (n : Int) (a4 : Option Addr) (d4 : Nat) (L : List Bk) (a5 : Option Addr) (d5 : Nat) (L2 : List Bk) (a6 : Option Addr) (d6 : Nat) (L3 : List Bk) (hO : OwnR w B go n a4 d4 L a5 d5 L2 a6 d6 L3) (hs : s.length ≤ 1099511627776) (hL : L.length ≤ 900 ∧ L2.length ≤ 900 ∧ L3.length ≤ 900) (hB : B ≤ go) (hn0 : 0 ≤ n) (hn1 : n ≤ 900) (hBw : B ≤ w.heap.size) :
    Calls Try.prog 20 #[.string (str s), .pointer (some ⟨go, 0, none⟩)] w fun e w' => (e = .returned (.bool true) ∧ ∃ a5 c5 L5 a6 c6 L6 a7 c7 L7, (L5.length = L.length + 4 ∧ L6.length = L2.length + 4 ∧ L7.length = L3.length + 4) ∧ OwnR w' B go (n + 1) a5 c5 L5 a6 c6 L6 a7 c7 L7) ∧ Below B w w' := by
  have HO : Hid (OwnR w B go n a4 d4 L a5 d5 L2 a6 d6 L3) := hO
  have HS : Hid (s.length ≤ 1099511627776) := hs
  have HL : Hid (L.length ≤ 900 ∧ L2.length ≤ 900 ∧ L3.length ≤ 900) := hL
  clear hO hs hL
  go_enter Try.func20, Try.ntmps20
  go_wp2_with fail
  refine (pread_any s _ HS.out).mono ?_
  rintro e w1 ⟨⟨a1, n1, c1, a2, n2, c2, a3, n3, c3, rfl, hL1⟩, hb1⟩
  have H1 : Hid (Lists w1 w.heap.size (readRd s).K (readRd s).C (readRd s).E a1 n1 c1 a2 n2 c2 a3 n3 c3 ∧ Below w.heap.size w w1) := ⟨hL1, hb1⟩
  clear hL1 hb1
  have hfew : n1 ≤ 1099511627776 ∧ n2 ≤ 1099511627776 ∧ n3 ≤ 1099511627776 := by
    have := readRd_few s; have := HS.out; have := H1.out.1.e1; have := H1.out.1.e2; have := H1.out.1.e3; omega
  obtain ⟨f1, f2, f3⟩ := hfew
  generalize hx : readRd s = x at *
  have HX : Hid (readRd s = x) := hx
  clear hx
  have hX1 := Bx.new w1 75 (lnkC x.seq x.base a1 n1 c1 a2 n2 c2 a3 n3 c3).toArray
  have hA1 : Below w1.heap.size w1 (w1.alloc (.cells (lnkC x.seq x.base a1 n1 c1 a2 n2 c2 a3 n3 c3).toArray 75)) := (Below.refl _ _).alloc (Nat.le_refl _) _
  have HX1 : Hid (Bx (w1.alloc (.cells (lnkC x.seq x.base a1 n1 c1 a2 n2 c2 a3 n3 c3).toArray 75)) w1.heap.size 75 (lnkC x.seq x.base a1 n1 c1 a2 n2 c2 a3 n3 c3) ∧ Below w1.heap.size w1 (w1.alloc (.cells (lnkC x.seq x.base a1 n1 c1 a2 n2 c2 a3 n3 c3).toArray 75))) := ⟨hX1, hA1⟩
  clear hX1 hA1
  go_wp2_with fail
  refine (rread_any s _ HS.out).mono ?_
  rintro e w2 ⟨⟨b1, m1, d1, b2, m2, d2, b3, m3, d3, he, hL2⟩, hb2⟩
  rw [HX.out] at he hL2
  subst he
  have em1 : m1 = n1 := by rw [hL2.e1, H1.out.1.e1]
  have em2 : m2 = n2 := by rw [hL2.e2, H1.out.1.e2]
  have em3 : m3 = n3 := by rw [hL2.e3, H1.out.1.e3]
  subst em1 em2 em3
  have H2 : Hid (Lists w2 0 x.K x.C x.E b1 m1 d1 b2 m2 d2 b3 m3 d3 ∧ Below w1.heap.size w1 w2) := ⟨hL2.mono (Nat.zero_le _), HX1.out.2.trans (hb2.mono HX1.out.2.size)⟩
  have hX1 := HX1.out.1.below hb2 HX1.out.1.lt
  have HXX : Hid (Bx (w2.alloc (.cells (lnkC x.seq x.base b1 m1 d1 b2 m2 d2 b3 m3 d3).toArray 75)) w2.heap.size 75 (lnkC x.seq x.base b1 m1 d1 b2 m2 d2 b3 m3 d3) ∧ Bx (w2.alloc (.cells (lnkC x.seq x.base b1 m1 d1 b2 m2 d2 b3 m3 d3).toArray 75)) w1.heap.size 75 (lnkC x.seq x.base a1 m1 c1 a2 m2 c2 a3 m3 c3) ∧ Below w2.heap.size w2 (w2.alloc (.cells (lnkC x.seq x.base b1 m1 d1 b2 m2 d2 b3 m3 d3).toArray 75))) := ⟨Bx.new w2 75 (lnkC x.seq x.base b1 m1 d1 b2 m2 d2 b3 m3 d3).toArray, hX1.alloc _, (Below.refl _ _).alloc (Nat.le_refl _) _⟩
  have x0 := HXX.out.2.1.cell 0
  have x1 := HXX.out.2.1.cell 1
  have x2 := HXX.out.2.1.cell 2
  have x3 := HXX.out.2.1.cell 3
  have x4 := HXX.out.2.1.cell 4
  dsimp only [List.getElem?_cons_zero, List.getElem?_cons_succ] at x0 x1 x2 x3 x4
  clear hX1 hb2 hL2
  have HA := H1.out.1.keep H2.out.2 |>.keep HXX.out.2.2 |>.has f1 f2 f3
  have HBb := H2.out.1.keep HXX.out.2.2 |>.has f1 f2 f3
  have HHA : Hid (Has (w2.alloc (.cells (lnkC x.seq x.base b1 m1 d1 b2 m2 d2 b3 m3 d3).toArray 75)) (repOf x.K x.C x.E) a1 a2 a3 ∧ repV (repOf x.K x.C x.E) a1 a2 a3 c1 c2 c3 = .agg #[.slice a1 m1 c1, .slice a2 m2 c2, .slice a3 m3 c3]) := HA
  have HHB : Hid (Has (w2.alloc (.cells (lnkC x.seq x.base b1 m1 d1 b2 m2 d2 b3 m3 d3).toArray 75)) (repOf x.K x.C x.E) b1 b2 b3 ∧ repV (repOf x.K x.C x.E) b1 b2 b3 d1 d2 d3 = .agg #[.slice b1 m1 d1, .slice b2 m2 d2, .slice b3 m3 d3]) := HBb
  clear HA HBb
  go_wp2_with fail
  have hsr := sameReplica_any (repOf x.K x.C x.E) a1 a2 a3 b1 b2 b3 c1 c2 c3 d1 d2 d3 _ HHA.out.1 HHB.out.1
  rw [HHA.out.2, HHB.out.2] at hsr
  refine hsr.mono ?_
  rintro e w3 ⟨rfl, hb3⟩
  clear hsr x0 x1 x2 x3 x4
  have H3 : Hid (Below w2.heap.size w2 w3) := HXX.out.2.2.trans (hb3.mono HXX.out.2.2.size)
  have HX3 : Hid (Bx w3 w2.heap.size 75 (lnkC x.seq x.base b1 m1 d1 b2 m2 d2 b3 m3 d3) ∧ Bx w3 w1.heap.size 75 (lnkC x.seq x.base a1 m1 c1 a2 m2 c2 a3 m3 c3)) := ⟨HXX.out.1.below hb3 HXX.out.1.lt, HXX.out.2.1.below hb3 HXX.out.2.1.lt⟩
  clear hb3
  have H13 : Hid (Below w1.heap.size w1 w3) := H2.out.2.trans (H3.out.mono H2.out.2.size)
  have HW3 : Hid (Below w.heap.size w w3) := H1.out.2.trans (H13.out.mono H1.out.2.size)
  have x0 := HX3.out.2.cell 0
  have x1 := HX3.out.2.cell 1
  have x2 := HX3.out.2.cell 2
  have x3 := HX3.out.2.cell 3
  have x4 := HX3.out.2.cell 4
  dsimp only [List.getElem?_cons_zero, List.getElem?_cons_succ] at x0 x1 x2 x3 x4
  go_wp2_with fail
  refine (replica_any _ B w.heap.size go n a1 m1 c1 _ a2 m2 c2 _ a3 m3 c3 _ a4 d4 L a5 d5 L2 a6 d6 L3 (HO.out.keep HW3.out) ⟨HO.out.b1.old, HO.out.b2.old, HO.out.b3.old⟩ (H1.out.1.v1.keep H13.out) (H1.out.1.v2.keep H13.out) (H1.out.1.v3.keep H13.out) f1 f2 f3 (by have := HL.out; omega) (by have := HL.out; omega) (by have := HL.out; omega) hB hBw hn0 (by omega) (Nat.le_trans hBw HW3.out.size) HW3.out.size).mono ?_
  rintro e w4 ⟨⟨v, rfl⟩, ⟨q1, k1, M1, q2, k2, M2, q3, k3, M3, hM, hO4⟩, hb4, hlk⟩
  clear x0 x1 x2 x3 x4
  have H4 : Hid (OwnR w4 B go (n + 1) q1 k1 M1 q2 k2 M2 q3 k3 M3 ∧ Below B w w4) := ⟨hO4, (HW3.out.mono hBw).trans hb4⟩
  have HM : Hid (M1.length = L.length + 4 ∧ M2.length = L2.length + 4 ∧ M3.length = L3.length + 4) := hM
  have HX4 : Hid (Bx w4 w2.heap.size 75 (lnkC x.seq x.base b1 m1 d1 b2 m2 d2 b3 m3 d3) ∧ Bx w4 w1.heap.size 75 (lnkC x.seq x.base a1 m1 c1 a2 m2 c2 a3 m3 c3)) := ⟨hlk _ _ HX3.out.1, hlk _ _ HX3.out.2⟩
  clear hM hO4 hb4 hlk
  go_wp2_with fail
  refine (kept_any _ B go (n + 1) _ _ _ none 0 [] H4.out.1.o (Books.nil _ _ _ _ _) (by simp) (fun w' hw' => rkept_any w' B go (n + 1) q1 k1 M1 q2 k2 M2 q3 k3 M3 (H4.out.1.keep hw') (by have := HL.out; have := HM.out; omega) (by have := HL.out; have := HM.out; omega) (by have := HL.out; have := HM.out; omega))).mono ?_
  rintro e w6 ⟨rfl, hb6⟩
  have H6 : Hid (Below w4.heap.size w4 w6) := hb6
  clear hb6
  have x0 := (HX4.out.2.below H6.out HX4.out.2.lt).cell 0
  have x1 := (HX4.out.2.below H6.out HX4.out.2.lt).cell 1
  have y0 := (HX4.out.1.below H6.out HX4.out.1.lt).cell 0
  have y1 := (HX4.out.1.below H6.out HX4.out.1.lt).cell 1
  dsimp only [List.getElem?_cons_zero, List.getElem?_cons_succ] at x0 x1 y0 y1
  go_wp2_with fail
  go_ret
  exact ⟨⟨by simp, q1, k1, M1, q2, k2, M2, q3, k3, M3, HM.out, H4.out.1.keep H6.out⟩, H4.out.2.trans (H6.out.mono (Nat.le_trans hBw H4.out.2.size))⟩

set_option maxRecDepth 100000 in
set_option maxHeartbeats 4000000 in
theorem reads_any (s : List UInt8) (w : World) (hs : s.length ≤ 1099511627776) :
    Calls Try.prog 5 #[.string (str s)] w fun e w' => e = .returned (.bool true) ∧ Below w.heap.size w w' := by
  obtain ⟨hO, hW, hB⟩ := one_box w 41 #[.int .i64 0, .slice none 0 0, .slice none 0 0, .slice none 0 0, .slice none 0 0, .slice none 0 0]
  have H0 : Hid (OwnR (w.alloc (.cells #[.int .i64 0, .slice none 0 0, .slice none 0 0, .slice none 0 0, .slice none 0 0, .slice none 0 0] 41)) w.heap.size w.heap.size 0 none 0 [] none 0 [] none 0 []) := ⟨hO, Books.nil _ _ _ _ _, Books.nil _ _ _ _ _, Books.nil _ _ _ _ _⟩
  clear hO
  go_enter Try.func5, Try.ntmps5
  go_wp2_with fail
  refine (read_any s _ w.heap.size w.heap.size 0 none 0 [] none 0 [] none 0 [] H0.out hs ⟨by simp, by simp, by simp⟩ (Nat.le_refl _) (by omega) (by omega) hB.size).mono ?_
  rintro e w1 ⟨⟨rfl, a5, c5, L5, a6, c6, L6, a7, c7, L7, hL, hO5⟩, hb1⟩
  have hb2 := hB.trans hb1
  have hL6 : L5.length ≤ 900 ∧ L6.length ≤ 900 ∧ L7.length ≤ 900 := by simp at hL; omega
  have HO5 : Hid (OwnR w1 w.heap.size w.heap.size (0 + 1) a5 c5 L5 a6 c6 L6 a7 c7 L7) := hO5
  clear hL hO5
  go_wp2_with fail
  refine (read_any s _ w.heap.size w.heap.size (0 + 1) a5 c5 L5 a6 c6 L6 a7 c7 L7 HO5.out hs hL6 (Nat.le_refl _) (by omega) (by omega) hb2.size).mono ?_
  rintro e w2 ⟨⟨rfl, -⟩, hb3⟩
  go_wp2_with fail
  go_ret
  exact ⟨rfl, hb2.trans hb3⟩
end Go.Proofs.Ytdjpkgaicmklmaa

/- sound.wrongNumber, walked. -/
namespace Go.Proofs.Ytdjpkgaicmklmaa
open Go.RowKit

set_option maxHeartbeats 2000000 in
theorem wrongNumber_any (R : Rep) (a1 a2 a3 : Option Addr) (k1 k2 k3 : Nat) (w : World) (hR : Has w R a1 a2 a3) :
    Calls Try.prog 75 #[repV R a1 a2 a3 k1 k2 k3] w fun e w' => e = .returned (.bool R.numB) ∧ Below w.heap.size w w' := by
  have b1 := hR.b1; have b2 := hR.b2; have b3 := hR.b3
  go_enter Try.func75, Try.ntmps75
  go_wp2
  go_loopw [3] (fun i wr => ∃ k : Nat, k ≤ R.n1 ∧ i = .int .i64 k ∧ anyTo R.num1 k = false ∧ BoxR w R a1 a2 a3 k1 k2 k3 wr) (fun i _ => R.n1 - (intOf i).toNat)
  case atStart => exact ⟨0, Nat.zero_le _, rfl, rfl, Below.refl _ _⟩
  case round =>
    obtain ⟨k, hk, rfl, hno, hb⟩ := hrel
    obtain ⟨x1, x2, x3⟩ := box3 hb
    have HN : Hid (anyTo R.num1 k = false) := hno
    clear hno
    by_cases hlt : k < R.n1
    · obtain ⟨b, o, hbl, hix, hs, hc⟩ := (hR.below (below_box hb)).l1.clock k1 hlt
      go_wp2
      go_quiet ((go_at_call 116; exact Calls.quiet_of_same (wrongSiteOrCount_any _ _ _)))
      go_wp2
      · have hp : R.num1 k = true := by unfold Rep.num1; assumption
        go_ret
        exact ⟨ret_bool (by simp [Rep.numB, anyTo_hit hlt hp]), below_drewN (below_box hb) _⟩
      · have hp : R.num1 k = false := by unfold Rep.num1; assumption
        go_roundw
        case rel => exact ⟨k + 1, by omega, by go_num, anyTo_no HN.out hp, below_drewN hb _⟩
        case measure => simp [intOf]; omega
    · have e1 : k = R.n1 := by omega
      have N1 : Hid (anyTo R.num1 R.n1 = false) := e1 ▸ HN.out
      clear HN e1
      go_wp2
      go_loopw [4] (fun i wr => ∃ k : Nat, k ≤ R.n2 ∧ i = .int .i64 k ∧ anyTo R.num2 k = false ∧ BoxR w R a1 a2 a3 k1 k2 k3 wr) (fun i _ => R.n2 - (intOf i).toNat)
      case atStart => exact ⟨0, Nat.zero_le _, rfl, rfl, hb⟩
      case round =>
        clear x1 x2 x3 hb hk
        obtain ⟨k, hk, rfl, hno, hb⟩ := hrel
        obtain ⟨x1, x2, x3⟩ := box3 hb
        have HN : Hid (anyTo R.num2 k = false) := hno
        clear hno
        by_cases hlt : k < R.n2
        · obtain ⟨b, o, hbl, hix, hi, hs, hc, -, -⟩ := (hR.below (below_box hb)).l2.card k2 hlt
          go_wp2
          go_quiet ((go_at_call 116; exact Calls.quiet_of_same (wrongSiteOrCount_any _ _ _)))
          go_wp2_with (go_at_call 117; refine (outOfRange_any _ _ _).mono ?_; rintro e w' ⟨rfl, rfl⟩)
          · have hp : R.num2 k = true := by unfold Rep.num2; simp [*]
            go_ret
            exact ⟨ret_bool (by simp [Rep.numB, anyTo_hit hlt hp]), below_drewN (below_box hb) _⟩
          · have hp : R.num2 k = true := by unfold Rep.num2; simp [*]
            go_ret
            exact ⟨ret_bool (by simp [Rep.numB, anyTo_hit hlt hp]), below_drewN (below_box hb) _⟩
          · have hp : R.num2 k = false := by unfold Rep.num2; simp [*]
            go_roundw
            case rel => exact ⟨k + 1, by omega, by go_num, anyTo_no HN.out hp, below_drewN hb _⟩
            case measure => simp [intOf]; omega
        · have e1 : k = R.n2 := by omega
          have N2 : Hid (anyTo R.num2 R.n2 = false) := e1 ▸ HN.out
          clear HN e1
          go_wp2
          go_loopw [5] (fun i wr => ∃ k : Nat, k ≤ R.n3 ∧ i = .int .i64 k ∧ anyTo R.num3 k = false ∧ BoxR w R a1 a2 a3 k1 k2 k3 wr) (fun i _ => R.n3 - (intOf i).toNat)
          case atStart => exact ⟨0, Nat.zero_le _, rfl, rfl, hb⟩
          case round =>
            clear x1 x2 x3 hb hk
            obtain ⟨k, hk, rfl, hno, hb⟩ := hrel
            obtain ⟨x1, x2, x3⟩ := box3 hb
            have HN : Hid (anyTo R.num3 k = false) := hno
            clear hno
            by_cases hlt : k < R.n3
            · obtain ⟨b, o, hbl, hix, hi, -⟩ := (hR.below (below_box hb)).l3.edit k3 hlt
              go_wp2_with (go_at_call 117; refine (outOfRange_any _ _ _).mono ?_; rintro e w' ⟨rfl, rfl⟩)
              · have hp : R.num3 k = true := by unfold Rep.num3; assumption
                go_ret
                exact ⟨ret_bool (by simp [Rep.numB, anyTo_hit hlt hp]), below_box hb⟩
              · have hp : R.num3 k = false := by unfold Rep.num3; assumption
                go_roundw
                case rel => exact ⟨k + 1, by omega, by go_num, anyTo_no HN.out hp, hb⟩
                case measure => simp [intOf]; omega
            · have e1 : k = R.n3 := by omega
              have N3 : Hid (anyTo R.num3 R.n3 = false) := e1 ▸ HN.out
              clear HN e1
              go_wp2
              go_ret
              exact ⟨ret_bool (by simp [Rep.numB, N1.out, N2.out, N3.out]), below_box hb⟩


end Go.Proofs.Ytdjpkgaicmklmaa

/- sound.wrongText, walked. -/
namespace Go.Proofs.Ytdjpkgaicmklmaa
open Go.RowKit

set_option maxHeartbeats 2000000 in
theorem wrongText_any (R : Rep) (a1 a2 a3 : Option Addr) (k1 k2 k3 : Nat) (w : World) (hR : Has w R a1 a2 a3) :
    Calls Try.prog 76 #[repV R a1 a2 a3 k1 k2 k3] w fun e w' => e = .returned (.bool R.txtB) ∧ Below w.heap.size w w' := by
  have b1 := hR.b1; have b2 := hR.b2; have b3 := hR.b3
  go_enter Try.func76, Try.ntmps76
  go_wp2
  go_loopw [3] (fun i wr => ∃ k : Nat, k ≤ R.n2 ∧ i = .int .i64 k ∧ anyTo R.txt2 k = false ∧ BoxR w R a1 a2 a3 k1 k2 k3 wr) (fun i _ => R.n2 - (intOf i).toNat)
  case atStart => exact ⟨0, Nat.zero_le _, rfl, rfl, Below.refl _ _⟩
  case round =>
    obtain ⟨k, hk, rfl, hno, hb⟩ := hrel
    obtain ⟨x1, x2, x3⟩ := box3 hb
    have HN : Hid (anyTo R.txt2 k = false) := hno
    clear hno
    by_cases hlt : k < R.n2
    · obtain ⟨b, o, hbl, hix, -, -, -, hg, ht⟩ := (hR.below (below_box hb)).l2.card k2 hlt
      go_wp2
      · have hp : R.txt2 k = true := by unfold Rep.txt2 longB; simp [‹(60 : Int) < ((R.d k).text.size : Int)›]
        go_ret
        exact ⟨ret_bool (by simp [Rep.txtB, anyTo_hit hlt hp]), below_box hb⟩
      · have hp : R.txt2 k = true := by unfold Rep.txt2; simp only [‹(R.d k).gone = true›, ‹(!(R.d k).text.toList.isEmpty) = true›]; simp
        go_ret
        exact ⟨ret_bool (by simp [Rep.txtB, anyTo_hit hlt hp]), below_box hb⟩
      · have hp : R.txt2 k = false := by
          have h1 : ((R.d k).text.size : Int) ≤ 60 := by assumption
          unfold Rep.txt2 longB; simp only [‹(!(R.d k).text.toList.isEmpty) = false›]; simp; omega
        go_roundw
        case rel => exact ⟨k + 1, by omega, by go_num, anyTo_no HN.out hp, hb⟩
        case measure => simp [intOf]; omega
      · have hp : R.txt2 k = false := by
          have h1 : ((R.d k).text.size : Int) ≤ 60 := by assumption
          have h2 : ¬ (R.d k).gone = true := by assumption
          unfold Rep.txt2 longB; simp [h2]; omega
        go_roundw
        case rel => exact ⟨k + 1, by omega, by go_num, anyTo_no HN.out hp, hb⟩
        case measure => simp [intOf]; omega
    · have e1 : k = R.n2 := by omega
      have N1 : Hid (anyTo R.txt2 R.n2 = false) := e1 ▸ HN.out
      clear HN e1
      go_wp2
      go_loopw [4] (fun i wr => ∃ k : Nat, k ≤ R.n3 ∧ i = .int .i64 k ∧ anyTo R.txt3 k = false ∧ BoxR w R a1 a2 a3 k1 k2 k3 wr) (fun i _ => R.n3 - (intOf i).toNat)
      case atStart => exact ⟨0, Nat.zero_le _, rfl, rfl, hb⟩
      case round =>
        clear x1 x2 x3 hb hk
        obtain ⟨k, hk, rfl, hno, hb⟩ := hrel
        obtain ⟨x1, x2, x3⟩ := box3 hb
        have HN : Hid (anyTo R.txt3 k = false) := hno
        clear hno
        by_cases hlt : k < R.n3
        · obtain ⟨b, o, hbl, hix, -, ht⟩ := (hR.below (below_box hb)).l3.edit k3 hlt
          go_wp2
          · have hp : R.txt3 k = true := by unfold Rep.txt3 longB; simp [‹(60 : Int) < ((R.e k).text.size : Int)›]
            go_ret
            exact ⟨ret_bool (by simp [Rep.txtB, anyTo_hit hlt hp]), below_box hb⟩
          · have hp : R.txt3 k = false := by
              have h1 : ((R.e k).text.size : Int) ≤ 60 := by assumption
              unfold Rep.txt3 longB; simp; omega
            go_roundw
            case rel => exact ⟨k + 1, by omega, by go_num, anyTo_no HN.out hp, hb⟩
            case measure => simp [intOf]; omega
        · have e1 : k = R.n3 := by omega
          have N2 : Hid (anyTo R.txt3 R.n3 = false) := e1 ▸ HN.out
          clear HN e1
          go_wp2
          go_ret
          exact ⟨ret_bool (by simp [Rep.txtB, N1.out, N2.out]), below_box hb⟩


end Go.Proofs.Ytdjpkgaicmklmaa

/- sound.notRising, walked. -/
namespace Go.Proofs.Ytdjpkgaicmklmaa
open Go.RowKit

set_option maxHeartbeats 2000000 in
theorem notRising_any (R : Rep) (a1 a2 a3 : Option Addr) (k1 k2 k3 : Nat) (w : World) (hR : Has w R a1 a2 a3) :
    Calls Try.prog 77 #[repV R a1 a2 a3 k1 k2 k3] w fun e w' => e = .returned (.bool R.risB) ∧ Below w.heap.size w w' := by
  have b1 := hR.b1; have b2 := hR.b2; have b3 := hR.b3
  go_enter Try.func77, Try.ntmps77
  go_wp2
  go_loopw [3] (fun i wr => ∃ k : Nat, k ≤ R.n1 - 1 ∧ i = .int .i64 ((k : Int) + 1) ∧ anyTo R.ris1 k = false ∧ BoxR w R a1 a2 a3 k1 k2 k3 wr) (fun i _ => R.n1 - (intOf i).toNat)
  case atStart => exact ⟨0, Nat.zero_le _, rfl, rfl, Below.refl _ _⟩
  case round =>
    obtain ⟨k, hk, rfl, hno, hb⟩ := hrel
    obtain ⟨x1, x2, x3⟩ := box3 hb
    have HN : Hid (anyTo R.ris1 k = false) := hno
    clear hno
    by_cases hlt : k + 1 < R.n1
    · obtain ⟨b, o, hbl, hix, hs, -⟩ := (hR.below (below_box hb)).l1.clock k1 (show k < R.n1 by omega)
      obtain ⟨b', o', hbl', hix', hs', -⟩ := (hR.below (below_box hb)).l1.clock k1 hlt
      rw [show ((k + 1 : Nat) : Int) = (k : Int) + 1 from by omega] at hix'
      go_wp2
      go_quiet (fail)
      go_wp2
      · have hp : R.ris1 k = true := by unfold Rep.ris1; simp [‹(R.c (k + 1)).site ≤ (R.c k).site›]
        go_ret
        exact ⟨ret_bool (by simp [Rep.risB, anyTo_hit (show k < R.n1 - 1 by omega) hp]), below_drewN (below_box hb) _⟩
      · have hp : R.ris1 k = false := by
          have h1 : (R.c k).site < (R.c (k + 1)).site := by assumption
          unfold Rep.ris1; simp; omega
        go_roundw
        case rel => exact ⟨k + 1, by omega, by go_num, anyTo_no HN.out hp, below_drewN hb _⟩
        case measure => simp [intOf]; omega
    · have e1 : k = R.n1 - 1 := by omega
      have N1 : Hid (anyTo R.ris1 (R.n1 - 1) = false) := e1 ▸ HN.out
      clear HN e1
      go_wp2
      go_loopw [4] (fun i wr => ∃ k : Nat, k ≤ R.n2 - 1 ∧ i = .int .i64 ((k : Int) + 1) ∧ anyTo R.ris2 k = false ∧ BoxR w R a1 a2 a3 k1 k2 k3 wr) (fun i _ => R.n2 - (intOf i).toNat)
      case atStart => exact ⟨0, Nat.zero_le _, rfl, rfl, hb⟩
      case round =>
        clear x1 x2 x3 hb hk hlt
        obtain ⟨k, hk, rfl, hno, hb⟩ := hrel
        obtain ⟨x1, x2, x3⟩ := box3 hb
        have HN : Hid (anyTo R.ris2 k = false) := hno
        clear hno
        by_cases hlt : k + 1 < R.n2
        · obtain ⟨b, o, hbl, hix, hs, -, -, -, -⟩ := (hR.below (below_box hb)).l2.card k2 (show k < R.n2 by omega)
          obtain ⟨b', o', hbl', hix', hs', -, -, -, -⟩ := (hR.below (below_box hb)).l2.card k2 hlt
          rw [show ((k + 1 : Nat) : Int) = (k : Int) + 1 from by omega] at hix'
          go_wp2
          go_quiet (fail)
          go_wp2
          · have hp : R.ris2 k = true := by unfold Rep.ris2; simp [‹(R.d (k + 1)).id ≤ (R.d k).id›]
            go_ret
            exact ⟨ret_bool (by simp [Rep.risB, anyTo_hit (show k < R.n2 - 1 by omega) hp]), below_drewN (below_box hb) _⟩
          · have hp : R.ris2 k = false := by
              have h1 : (R.d k).id < (R.d (k + 1)).id := by assumption
              unfold Rep.ris2; simp; omega
            go_roundw
            case rel => exact ⟨k + 1, by omega, by go_num, anyTo_no HN.out hp, below_drewN hb _⟩
            case measure => simp [intOf]; omega
        · have e1 : k = R.n2 - 1 := by omega
          have N2 : Hid (anyTo R.ris2 (R.n2 - 1) = false) := e1 ▸ HN.out
          clear HN e1
          go_wp2
          go_ret
          exact ⟨ret_bool (by simp [Rep.risB, N1.out, N2.out]), below_box hb⟩

end Go.Proofs.Ytdjpkgaicmklmaa

/- replicas.CountOf and sound.uncovered, walked. -/
namespace Go.Proofs.Ytdjpkgaicmklmaa
open Go.RowKit

set_option maxHeartbeats 1000000 in
theorem countOf_any (a : Option Addr) (n cap : Nat) (c : Nat → Ck) (site : Int) (w : World) (hn : n ≤ 140737488355328) (hL : Lies w a n 2 (fun i => (c i).cells)) :
    Calls Try.prog 118 #[.slice a n cap, .int .i64 site] w fun e w' => e = .returned (.int .i64 ((clockTo c site n).getD 0)) ∧ w' = w := by
  go_enter Try.func118, Try.ntmps118
  go_wp2
  go_loop [5] (fun i => ∃ k : Nat, k ≤ n ∧ i = .int .i64 k ∧ clockTo c site k = none) (fun i => n - (intOf i).toNat)
  case atStart => exact ⟨0, Nat.zero_le _, rfl, rfl⟩
  case round =>
    obtain ⟨k, hk, rfl, hno⟩ := hrel
    have HN : Hid (clockTo c site k = none) := hno
    clear hno
    by_cases hlt : k < n
    · obtain ⟨b, o, hbl, hix, hs, hc⟩ := hL.clock cap hlt
      go_wp2
      · have hp : (c k).site = site := by simpa using ‹((c k).site == site) = true›
        go_ret
        exact ⟨ret_int (by rw [clockTo_hit hlt HN.out hp]; rfl), rfl⟩
      · have hp : ¬ (c k).site = site := by simpa using ‹((c k).site == site) = false›
        go_round
        case rel => exact ⟨k + 1, by omega, by go_num, clockTo_no HN.out hp⟩
        case measure => simp [intOf]; omega
    · have e1 : k = n := by omega
      have N1 : Hid (clockTo c site n = none) := e1 ▸ HN.out
      clear HN e1
      go_wp2
      go_ret
      exact ⟨ret_int (by rw [N1.out]; rfl), rfl⟩

theorem Lies.drewN {w : World} {a : Option Addr} {n m : Nat} {f : Nat → List Value} (h : Lies w a n m f) (q : Nat) : Lies (w.drewN q) a n m f := h.below (below_drewN (Below.refl _ _) _)

set_option maxHeartbeats 1000000 in
theorem uncovered_any (R : Rep) (a1 a2 a3 : Option Addr) (k1 k2 k3 : Nat) (w : World) (hR : Has w R a1 a2 a3) :
    Calls Try.prog 78 #[repV R a1 a2 a3 k1 k2 k3] w fun e w' => e = .returned (.bool R.uncB) ∧ Below w.heap.size w w' := by
  have b1 := hR.b1; have b2 := hR.b2; have b3 := hR.b3
  go_enter Try.func78, Try.ntmps78
  go_wp2
  go_loopw [3] (fun i wr => ∃ k : Nat, k ≤ R.n2 ∧ i = .int .i64 k ∧ anyTo R.unc k = false ∧ BoxR w R a1 a2 a3 k1 k2 k3 wr) (fun i _ => R.n2 - (intOf i).toNat)
  case atStart => exact ⟨0, Nat.zero_le _, rfl, rfl, Below.refl _ _⟩
  case round =>
    obtain ⟨k, hk, rfl, hno, hb⟩ := hrel
    obtain ⟨x1, x2, x3⟩ := box3 hb
    have HN : Hid (anyTo R.unc k = false) := hno
    clear hno
    by_cases hlt : k < R.n2
    · obtain ⟨b, o, hbl, hix, -, hs, hc, -, -⟩ := (hR.below (below_box hb)).l2.card k2 hlt
      have hL := (hR.below (below_box hb)).l1
      go_wp2
      go_quiet ((go_at_call 118; exact Calls.quiet_of_same (countOf_any _ _ _ R.c _ _ (by omega) (by exact hL.drewN _))))
      go_wp2
      · have hp : R.unc k = true := by unfold Rep.unc Rep.clk; simp [‹(clockTo R.c (R.d k).site R.n1).getD 0 < (R.d k).count›]
        go_ret
        exact ⟨ret_bool (by simp [Rep.uncB, anyTo_hit hlt hp]), below_drewN (below_box hb) _⟩
      · have hp : R.unc k = false := by
          have h1 : (R.d k).count ≤ (clockTo R.c (R.d k).site R.n1).getD 0 := by assumption
          unfold Rep.unc Rep.clk; simp; omega
        go_roundw
        case rel => exact ⟨k + 1, by omega, by go_num, anyTo_no HN.out hp, below_drewN hb _⟩
        case measure => simp [intOf]; omega
    · have e1 : k = R.n2 := by omega
      have N1 : Hid (anyTo R.unc R.n2 = false) := e1 ▸ HN.out
      clear HN e1
      go_wp2
      go_ret
      exact ⟨ret_bool (by simp [Rep.uncB, N1.out]), below_box hb⟩

end Go.Proofs.Ytdjpkgaicmklmaa

/- sound.TooMany, sound.Check and parcel.Check, walked. -/
namespace Go.Proofs.Ytdjpkgaicmklmaa
open Go.RowKit

set_option maxHeartbeats 1000000 in
theorem tooMany_any (R : Rep) (a1 a2 a3 : Option Addr) (k1 k2 k3 : Nat) (w : World) (hR : Has w R a1 a2 a3) :
    Calls Try.prog 74 #[repV R a1 a2 a3 k1 k2 k3] w fun e w' => e = .returned (.bool R.manyB) ∧ Below w.heap.size w w' := by
  have b1 := hR.b1; have b2 := hR.b2; have b3 := hR.b3
  go_enter Try.func74, Try.ntmps74
  go_wp2
  all_goals (go_ret; refine ⟨ret_bool ?_, (Below.refl _ _).alloc (Nat.le_refl _) _⟩; unfold Rep.manyB; rw [Bool.eq_iff_iff]; simp; try omega)

/-- The world behind a call made with the box laid. -/
theorem boxR_step {w wr w1 : World} {R : Rep} {a1 a2 a3 : Option Addr} {k1 k2 k3 : Nat} (hb : BoxR w R a1 a2 a3 k1 k2 k3 wr) (h : Below wr.heap.size wr w1) : BoxR w R a1 a2 a3 k1 k2 k3 w1 :=
  hb.trans (h.mono (by have := hb.size; simpa using this))

set_option maxHeartbeats 2000000 in
theorem check_any (R : Rep) (a1 a2 a3 : Option Addr) (k1 k2 k3 : Nat) (w : World) (hR : Has w R a1 a2 a3) :
    Calls Try.prog 35 #[repV R a1 a2 a3 k1 k2 k3] w fun e w' => e = .returned (.int .i64 R.chk) ∧ Below w.heap.size w w' := by
  have hb0 : BoxR w R a1 a2 a3 k1 k2 k3 (w.alloc (.cells #[.slice a1 R.n1 k1, .slice a2 R.n2 k2, .slice a3 R.n3 k3] 26)) := Below.refl _ _
  go_enter Try.func35, Try.ntmps35
  go_wp2_with fail
  refine (tooMany_any R a1 a2 a3 k1 k2 k3 _ (hR.below (below_box hb0))).mono ?_
  rintro e w1 ⟨rfl, h1⟩
  have hb1 := boxR_step hb0 h1
  obtain ⟨x1, x2, x3⟩ := box3 hb1
  clear h1 hb0
  cases g1 : R.manyB
  case true =>
    go_wp2_with fail
    go_ret
    exact ⟨ret_int (by simp [Rep.chk, g1]), below_box hb1⟩
  go_wp2_with fail
  refine (wrongNumber_any R a1 a2 a3 k1 k2 k3 _ (hR.below (below_box hb1))).mono ?_
  rintro e w2 ⟨rfl, h1⟩
  have hb2 := boxR_step hb1 h1
  clear x1 x2 x3 h1 hb1
  obtain ⟨x1, x2, x3⟩ := box3 hb2
  cases g2 : R.numB
  case true =>
    go_wp2_with fail
    go_ret
    exact ⟨ret_int (by simp [Rep.chk, g1, g2]), below_box hb2⟩
  go_wp2_with fail
  refine (wrongText_any R a1 a2 a3 k1 k2 k3 _ (hR.below (below_box hb2))).mono ?_
  rintro e w3 ⟨rfl, h1⟩
  have hb3 := boxR_step hb2 h1
  clear x1 x2 x3 h1 hb2
  obtain ⟨x1, x2, x3⟩ := box3 hb3
  cases g3 : R.txtB
  case true =>
    go_wp2_with fail
    go_ret
    exact ⟨ret_int (by simp [Rep.chk, g1, g2, g3]), below_box hb3⟩
  go_wp2_with fail
  refine (notRising_any R a1 a2 a3 k1 k2 k3 _ (hR.below (below_box hb3))).mono ?_
  rintro e w4 ⟨rfl, h1⟩
  have hb4 := boxR_step hb3 h1
  clear x1 x2 x3 h1 hb3
  obtain ⟨x1, x2, x3⟩ := box3 hb4
  cases g4 : R.risB
  case true =>
    go_wp2_with fail
    go_ret
    exact ⟨ret_int (by simp [Rep.chk, g1, g2, g3, g4]), below_box hb4⟩
  go_wp2_with fail
  refine (uncovered_any R a1 a2 a3 k1 k2 k3 _ (hR.below (below_box hb4))).mono ?_
  rintro e w5 ⟨rfl, h1⟩
  have hb5 := boxR_step hb4 h1
  clear x1 x2 x3 h1 hb4
  obtain ⟨x1, x2, x3⟩ := box3 hb5
  cases g5 : R.uncB
  case true =>
    go_wp2_with fail
    go_ret
    exact ⟨ret_int (by simp [Rep.chk, g1, g2, g3, g4, g5]), below_box hb5⟩
  go_wp2_with fail
  refine (clashing_any a2 R.n2 k2 R.d _ hR.b2 (hR.below (below_box hb5)).l2).mono ?_
  rintro e w6 ⟨rfl, h1⟩
  have hb6 := boxR_step hb5 h1
  clear x1 x2 x3 h1 hb5
  have hcl : anyTo (fun i => anyTo (fun k => stampB (R.d i) (R.d k)) i) R.n2 = R.clashB := rfl
  rw [hcl]
  clear hcl
  cases g6 : R.clashB
  case true =>
    go_wp2_with fail
    go_ret
    exact ⟨ret_int (by simp [Rep.chk, g1, g2, g3, g4, g5, g6]), below_box hb6⟩
  go_wp2_with fail
  go_ret
  exact ⟨ret_int (by simp [Rep.chk, g1, g2, g3, g4, g5, g6]), below_box hb6⟩

set_option maxHeartbeats 1000000 in
theorem pcheck_any (R : Rep) (a1 a2 a3 : Option Addr) (k1 k2 k3 : Nat) (w : World) (hR : Has w R a1 a2 a3) :
    Calls Try.prog 15 #[repV R a1 a2 a3 k1 k2 k3] w fun e w' => e = .returned (.int .i64 R.chk) ∧ Below w.heap.size w w' := by
  have hb0 : BoxR w R a1 a2 a3 k1 k2 k3 (w.alloc (.cells #[.slice a1 R.n1 k1, .slice a2 R.n2 k2, .slice a3 R.n3 k3] 26)) := Below.refl _ _
  go_enter Try.func15, Try.ntmps15
  go_wp2_with fail
  refine (check_any R a1 a2 a3 k1 k2 k3 _ (hR.below (below_box hb0))).mono ?_
  rintro e w1 ⟨rfl, h1⟩
  go_wp2_with fail
  go_ret
  exact ⟨rfl, below_box (boxR_step hb0 h1)⟩
end Go.Proofs.Ytdjpkgaicmklmaa

/- parcelref.numbered, walked. -/
namespace Go.Proofs.Ytdjpkgaicmklmaa
open Go.RowKit

set_option maxHeartbeats 4000000 in
theorem numbered_any (R : Rep) (a1 a2 a3 : Option Addr) (k1 k2 k3 : Nat) (w : World) (hR : Has w R a1 a2 a3) :
    Calls Try.prog 36 #[repV R a1 a2 a3 k1 k2 k3] w fun e w' => e = .returned (.bool (!R.numB)) ∧ Below w.heap.size w w' := by
  have b1 := hR.b1; have b2 := hR.b2; have b3 := hR.b3
  go_enter Try.func36, Try.ntmps36
  go_wp2
  go_loopw [3, 4] (fun v i wr => ∃ (k : Nat) (x : Bool), k ≤ R.n1 ∧ i = .int .i64 k ∧ v = .bool x ∧ (x = !anyTo R.num1 k) ∧ BoxR w R a1 a2 a3 k1 k2 k3 wr) (fun _ i _ => R.n1 - (intOf i).toNat)
  case atStart => exact ⟨0, true, Nat.zero_le _, rfl, rfl, rfl, Below.refl _ _⟩
  case round =>
    obtain ⟨k, x, hk, rfl, rfl, hx, hb⟩ := hrel
    obtain ⟨x1, x2, x3⟩ := box3 hb
    have HX : Hid (x = !anyTo R.num1 k) := hx
    clear hx
    by_cases hlt : k < R.n1
    · obtain ⟨b, o, hbl, hix, hs, hc⟩ := (hR.below (below_box hb)).l1.clock k1 hlt
      go_wp2_with (go_at_call 80; refine (within_out _ _ _).mono ?_; rintro e w' ⟨rfl, rfl⟩)
      all_goals
        go_roundw
        case rel =>
          refine ⟨k + 1, _, by omega, by go_num, rfl, ?_, hb⟩
          have h := HX.out
          simp only [anyTo, Rep.num1, scB]
          revert h
          simp [*]
          try (cases anyTo R.num1 k <;> simp [*])
        case measure => simp [intOf]; omega
    · have e1 : k = R.n1 := by omega
      have N1 : Hid (x = !anyTo R.num1 R.n1) := e1 ▸ HX.out
      clear HX e1
      go_wp2
      go_loopw [3, 7] (fun v i wr => ∃ (k : Nat) (x : Bool), k ≤ R.n2 ∧ i = .int .i64 k ∧ v = .bool x ∧ (x = !(anyTo R.num1 R.n1 || anyTo R.num2 k)) ∧ BoxR w R a1 a2 a3 k1 k2 k3 wr) (fun _ i _ => R.n2 - (intOf i).toNat)
      case atStart => exact ⟨0, x, Nat.zero_le _, rfl, rfl, by rw [N1.out]; simp [anyTo], hb⟩
      case round =>
        clear x1 x2 x3 hb hk hlt N1
        obtain ⟨k, x, hk, rfl, rfl, hx, hb⟩ := hrel
        obtain ⟨x1, x2, x3⟩ := box3 hb
        have HX : Hid (x = !(anyTo R.num1 R.n1 || anyTo R.num2 k)) := hx
        clear hx
        by_cases hlt : k < R.n2
        · obtain ⟨b, o, hbl, hix, hi, hs, hc, -, -⟩ := (hR.below (below_box hb)).l2.card k2 hlt
          go_wp2_with (go_at_call 80; refine (within_out _ _ _).mono ?_; rintro e w' ⟨rfl, rfl⟩)
          all_goals
            go_roundw
            case rel =>
              refine ⟨k + 1, _, by omega, by go_num, rfl, ?_, hb⟩
              have h := HX.out
              simp only [anyTo, Rep.num2, scB]
              revert h
              simp [*]
              try (cases anyTo R.num1 R.n1 <;> cases anyTo R.num2 k <;> simp [*])
            case measure => simp [intOf]; omega
        · have e1 : k = R.n2 := by omega
          have N1 : Hid (x = !(anyTo R.num1 R.n1 || anyTo R.num2 R.n2)) := e1 ▸ HX.out
          clear HX e1
          go_wp2
          go_loopw [3, 11] (fun v i wr => ∃ (k : Nat) (x : Bool), k ≤ R.n3 ∧ i = .int .i64 k ∧ v = .bool x ∧ (x = !(anyTo R.num1 R.n1 || (anyTo R.num2 R.n2 || anyTo R.num3 k))) ∧ BoxR w R a1 a2 a3 k1 k2 k3 wr) (fun _ i _ => R.n3 - (intOf i).toNat)
          case atStart => exact ⟨0, x, Nat.zero_le _, rfl, rfl, by rw [N1.out]; simp [anyTo], hb⟩
          case round =>
            clear x1 x2 x3 hb hk hlt N1
            obtain ⟨k, x, hk, rfl, rfl, hx, hb⟩ := hrel
            obtain ⟨x1, x2, x3⟩ := box3 hb
            have HX : Hid (x = !(anyTo R.num1 R.n1 || (anyTo R.num2 R.n2 || anyTo R.num3 k))) := hx
            clear hx
            by_cases hlt : k < R.n3
            · obtain ⟨b, o, hbl, hix, hi, -⟩ := (hR.below (below_box hb)).l3.edit k3 hlt
              go_wp2_with (go_at_call 80; refine (within_out _ _ _).mono ?_; rintro e w' ⟨rfl, rfl⟩)
              all_goals
                go_roundw
                case rel =>
                  refine ⟨k + 1, _, by omega, by go_num, rfl, ?_, hb⟩
                  have h := HX.out
                  simp only [anyTo, Rep.num3]
                  revert h
                  simp [*]
                  try (cases anyTo R.num1 R.n1 <;> cases anyTo R.num2 R.n2 <;> cases anyTo R.num3 k <;> simp [*])
                case measure => simp [intOf]; omega
            · have e1 : k = R.n3 := by omega
              have N1 : Hid (x = !(anyTo R.num1 R.n1 || (anyTo R.num2 R.n2 || anyTo R.num3 R.n3))) := e1 ▸ HX.out
              clear HX e1
              go_wp2
              go_ret
              exact ⟨ret_bool N1.out, below_box hb⟩
end Go.Proofs.Ytdjpkgaicmklmaa

/- parcelref.texted, walked. -/
namespace Go.Proofs.Ytdjpkgaicmklmaa
open Go.RowKit

set_option maxHeartbeats 2000000 in
theorem texted_any (R : Rep) (a1 a2 a3 : Option Addr) (k1 k2 k3 : Nat) (w : World) (hR : Has w R a1 a2 a3) :
    Calls Try.prog 37 #[repV R a1 a2 a3 k1 k2 k3] w fun e w' => e = .returned (.bool (!R.txtB)) ∧ Below w.heap.size w w' := by
  have b1 := hR.b1; have b2 := hR.b2; have b3 := hR.b3
  go_enter Try.func37, Try.ntmps37
  go_wp2
  go_loopw [3] (fun i wr => ∃ k : Nat, k ≤ R.n2 ∧ i = .int .i64 k ∧ anyTo R.txt2 k = false ∧ BoxR w R a1 a2 a3 k1 k2 k3 wr) (fun i _ => R.n2 - (intOf i).toNat)
  case atStart => exact ⟨0, Nat.zero_le _, rfl, rfl, Below.refl _ _⟩
  case round =>
    obtain ⟨k, hk, rfl, hno, hb⟩ := hrel
    obtain ⟨x1, x2, x3⟩ := box3 hb
    have HN : Hid (anyTo R.txt2 k = false) := hno
    clear hno
    by_cases hlt : k < R.n2
    · obtain ⟨b, o, hbl, hix, -, -, -, hg, ht⟩ := (hR.below (below_box hb)).l2.card k2 hlt
      go_wp2
      · have h1 : ((R.d k).text.size : Int) ≤ 60 := by assumption
        have h2 : (R.d k).gone = true := by assumption
        have h3 : 60 < ((R.d k).text.size : Int) ∨ (!(R.d k).text.toList.isEmpty) = true := by assumption
        have h4 : (!(R.d k).text.toList.isEmpty) = true := by rcases h3 with h | h; (omega); exact h
        have hp : R.txt2 k = true := by unfold Rep.txt2; simp only [h2, h4]; simp
        go_ret
        exact ⟨ret_bool (by simp [Rep.txtB, anyTo_hit hlt hp]), below_box hb⟩
      · have h1 : ((R.d k).text.size : Int) ≤ 60 := by assumption
        have h3 : ((R.d k).text.size : Int) ≤ 60 ∧ (!(R.d k).text.toList.isEmpty) = false := by assumption
        have hp : R.txt2 k = false := by unfold Rep.txt2 longB; simp only [h3.2]; simp; omega
        go_roundw
        case rel => exact ⟨k + 1, by omega, by go_num, anyTo_no HN.out hp, hb⟩
        case measure => simp [intOf]; omega
      · have h1 : ((R.d k).text.size : Int) ≤ 60 := by assumption
        have h2 : ¬ (R.d k).gone = true := by assumption
        have hp : R.txt2 k = false := by unfold Rep.txt2 longB; simp [h2]; omega
        go_roundw
        case rel => exact ⟨k + 1, by omega, by go_num, anyTo_no HN.out hp, hb⟩
        case measure => simp [intOf]; omega
      · have hp : R.txt2 k = true := by unfold Rep.txt2 longB; simp [‹(60 : Int) < ((R.d k).text.size : Int)›]
        go_ret
        exact ⟨ret_bool (by simp [Rep.txtB, anyTo_hit hlt hp]), below_box hb⟩
    · have e1 : k = R.n2 := by omega
      have N1 : Hid (anyTo R.txt2 R.n2 = false) := e1 ▸ HN.out
      clear HN e1
      go_wp2
      go_loopw [4] (fun i wr => ∃ k : Nat, k ≤ R.n3 ∧ i = .int .i64 k ∧ anyTo R.txt3 k = false ∧ BoxR w R a1 a2 a3 k1 k2 k3 wr) (fun i _ => R.n3 - (intOf i).toNat)
      case atStart => exact ⟨0, Nat.zero_le _, rfl, rfl, hb⟩
      case round =>
        clear x1 x2 x3 hb hk
        obtain ⟨k, hk, rfl, hno, hb⟩ := hrel
        obtain ⟨x1, x2, x3⟩ := box3 hb
        have HN : Hid (anyTo R.txt3 k = false) := hno
        clear hno
        by_cases hlt : k < R.n3
        · obtain ⟨b, o, hbl, hix, -, ht⟩ := (hR.below (below_box hb)).l3.edit k3 hlt
          go_wp2
          · have hp : R.txt3 k = true := by unfold Rep.txt3 longB; simp [‹(60 : Int) < ((R.e k).text.size : Int)›]
            go_ret
            exact ⟨ret_bool (by simp [Rep.txtB, anyTo_hit hlt hp]), below_box hb⟩
          · have hp : R.txt3 k = false := by
              have h1 : ((R.e k).text.size : Int) ≤ 60 := by assumption
              unfold Rep.txt3 longB; simp; omega
            go_roundw
            case rel => exact ⟨k + 1, by omega, by go_num, anyTo_no HN.out hp, hb⟩
            case measure => simp [intOf]; omega
        · have e1 : k = R.n3 := by omega
          have N2 : Hid (anyTo R.txt3 R.n3 = false) := e1 ▸ HN.out
          clear HN e1
          go_wp2
          go_ret
          exact ⟨ret_bool (by simp [Rep.txtB, N1.out, N2.out]), below_box hb⟩


end Go.Proofs.Ytdjpkgaicmklmaa

/- parcelref.rising, walked. -/
namespace Go.Proofs.Ytdjpkgaicmklmaa
open Go.RowKit

set_option maxHeartbeats 2000000 in
theorem rising_any (R : Rep) (a1 a2 a3 : Option Addr) (k1 k2 k3 : Nat) (w : World) (hR : Has w R a1 a2 a3) :
    Calls Try.prog 38 #[repV R a1 a2 a3 k1 k2 k3] w fun e w' => e = .returned (.bool (!R.risB)) ∧ Below w.heap.size w w' := by
  have b1 := hR.b1; have b2 := hR.b2; have b3 := hR.b3
  go_enter Try.func38, Try.ntmps38
  go_wp2
  go_loopw [3] (fun i wr => ∃ k : Nat, k ≤ R.n1 - 1 ∧ i = .int .i64 ((k : Int) + 1) ∧ anyTo R.ris1 k = false ∧ BoxR w R a1 a2 a3 k1 k2 k3 wr) (fun i _ => R.n1 - (intOf i).toNat)
  case atStart => exact ⟨0, Nat.zero_le _, rfl, rfl, Below.refl _ _⟩
  case round =>
    obtain ⟨k, hk, rfl, hno, hb⟩ := hrel
    obtain ⟨x1, x2, x3⟩ := box3 hb
    have HN : Hid (anyTo R.ris1 k = false) := hno
    clear hno
    by_cases hlt : k + 1 < R.n1
    · obtain ⟨b, o, hbl, hix, hs, -⟩ := (hR.below (below_box hb)).l1.clock k1 (show k < R.n1 by omega)
      obtain ⟨b', o', hbl', hix', hs', -⟩ := (hR.below (below_box hb)).l1.clock k1 hlt
      rw [show ((k + 1 : Nat) : Int) = (k : Int) + 1 from by omega] at hix'
      go_wp2
      go_quiet (fail)
      go_wp2
      · have hp : R.ris1 k = true := by unfold Rep.ris1; simp [‹(R.c (k + 1)).site ≤ (R.c k).site›]
        go_ret
        exact ⟨ret_bool (by simp [Rep.risB, anyTo_hit (show k < R.n1 - 1 by omega) hp]), below_drewN (below_box hb) _⟩
      · have hp : R.ris1 k = false := by
          have h1 : (R.c k).site < (R.c (k + 1)).site := by assumption
          unfold Rep.ris1; simp; omega
        go_roundw
        case rel => exact ⟨k + 1, by omega, by go_num, anyTo_no HN.out hp, below_drewN hb _⟩
        case measure => simp [intOf]; omega
    · have e1 : k = R.n1 - 1 := by omega
      have N1 : Hid (anyTo R.ris1 (R.n1 - 1) = false) := e1 ▸ HN.out
      clear HN e1
      go_wp2
      go_loopw [4] (fun i wr => ∃ k : Nat, k ≤ R.n2 - 1 ∧ i = .int .i64 ((k : Int) + 1) ∧ anyTo R.ris2 k = false ∧ BoxR w R a1 a2 a3 k1 k2 k3 wr) (fun i _ => R.n2 - (intOf i).toNat)
      case atStart => exact ⟨0, Nat.zero_le _, rfl, rfl, hb⟩
      case round =>
        clear x1 x2 x3 hb hk hlt
        obtain ⟨k, hk, rfl, hno, hb⟩ := hrel
        obtain ⟨x1, x2, x3⟩ := box3 hb
        have HN : Hid (anyTo R.ris2 k = false) := hno
        clear hno
        by_cases hlt : k + 1 < R.n2
        · obtain ⟨b, o, hbl, hix, hs, -, -, -, -⟩ := (hR.below (below_box hb)).l2.card k2 (show k < R.n2 by omega)
          obtain ⟨b', o', hbl', hix', hs', -, -, -, -⟩ := (hR.below (below_box hb)).l2.card k2 hlt
          rw [show ((k + 1 : Nat) : Int) = (k : Int) + 1 from by omega] at hix'
          go_wp2
          go_quiet (fail)
          go_wp2
          · have hp : R.ris2 k = true := by unfold Rep.ris2; simp [‹(R.d (k + 1)).id ≤ (R.d k).id›]
            go_ret
            exact ⟨ret_bool (by simp [Rep.risB, anyTo_hit (show k < R.n2 - 1 by omega) hp]), below_drewN (below_box hb) _⟩
          · have hp : R.ris2 k = false := by
              have h1 : (R.d k).id < (R.d (k + 1)).id := by assumption
              unfold Rep.ris2; simp; omega
            go_roundw
            case rel => exact ⟨k + 1, by omega, by go_num, anyTo_no HN.out hp, below_drewN hb _⟩
            case measure => simp [intOf]; omega
        · have e1 : k = R.n2 - 1 := by omega
          have N2 : Hid (anyTo R.ris2 (R.n2 - 1) = false) := e1 ▸ HN.out
          clear HN e1
          go_wp2
          go_ret
          exact ⟨ret_bool (by simp [Rep.risB, N1.out, N2.out]), below_box hb⟩

end Go.Proofs.Ytdjpkgaicmklmaa

