/- Texts of the proof, one behind the other; what each holds is said at its head. -/
import Derived.Test.YtdjpkgaicmklmaaPartReplaysupto11
import Derived.Test.YtdjpkgaicmklmaaPartReplaysupto7
import Derived.Deep.DeepCutAuto
import Derived.Test.YtdjpkgaicmklmaaPartReplaysupto0
import Derived.Test.YtdjpkgaicmklmaaPartReplaysupto3
import Derived.Lib.AppendStr
import Derived.Test.YtdjpkgaicmklmaaPartReplaysupto2
import Derived.Test.YtdjpkgaicmklmaaPartReplaysupto1
import Derived.Deep.RegionLaw
import Derived.Test.YtdjpkgaicmklmaaPartReplaysupto6
/- parcelref.Replay: walked. -/
namespace Go.Proofs.Ytdjpkgaicmklmaa
open Go.RowKit

theorem link_short {l : List (List UInt8)} (h : ∀ v, v ∈ l → v.length ≤ 1048576) (q : Int) : (linkR l q).length ≤ 1048576 := by
  unfold linkR
  by_cases hq : seqIx l q < l.length
  · exact h _ (volAt_mem hq)
  · rw [List.getD_eq_getElem?_getD, List.getElem?_eq_none (by omega)]; simp
theorem chain_few {l : List (List UInt8)} (h : ∀ v, v ∈ l → v.length ≤ 1048576) : ∀ n : Nat, (chainSt l n).K.length ≤ (n + 1) * 1048576 ∧ (chainSt l n).C.length ≤ (n + 1) * 1048576 ∧ (chainSt l n).E.length ≤ 1048576
  | 0 => by
    obtain ⟨f1, f2, f3⟩ := readRd_few (linkR l 0)
    have := link_short h 0
    refine ⟨?_, ?_, ?_⟩
    · show (readRd (linkR l 0)).K.length ≤ _; omega
    · show (readRd (linkR l 0)).C.length ≤ _; omega
    · show (readRd (linkR l 0)).E.length ≤ _; omega
  | n + 1 => by
    obtain ⟨h1, h2, h3⟩ := chain_few h n
    obtain ⟨f1, f2, f3⟩ := readRd_few (linkR l ((n + 1 : Nat) : Int))
    have := link_short h ((n + 1 : Nat) : Int)
    have l1 := layK_len Ck.site (fun _ c => c) (readRd (linkR l ((n + 1 : Nat) : Int))).K (chainSt l n).K
    have l2 := layK_len Cd.id (fun _ c => c) (readRd (linkR l ((n + 1 : Nat) : Int))).C (chainSt l n).C
    have e : (n + 1 + 1) * 1048576 = (n + 1) * 1048576 + 1048576 := by omega
    refine ⟨?_, ?_, ?_⟩
    · show (layK Ck.site (fun _ c => c) (chainSt l n).K (readRd (linkR l ((n + 1 : Nat) : Int))).K).length ≤ _; omega
    · show (layK Cd.id (fun _ c => c) (chainSt l n).C (readRd (linkR l ((n + 1 : Nat) : Int))).C).length ≤ _; omega
    · show (readRd (linkR l ((n + 1 : Nat) : Int))).E.length ≤ _; omega
theorem chain_asc (l : List (List UInt8)) : ∀ n : Nat, Asc Ck.site (chainSt l n).K ∧ Asc Cd.id (chainSt l n).C
  | 0 => read_asc (linkR l 0)
  | n + 1 => ⟨layK_asc Ck.site (fun _ _ _ => rfl) (chain_asc l n).1, layK_asc Cd.id (fun _ _ _ => rfl) (chain_asc l n).2⟩
/-- What Replay's loops keep. -/
structure Rr (w wr : World) (L : List Sl) (ad : Option Addr) (N cap : Nat) : Prop where
  r : Bx wr w.heap.size 26 (repC none 0 0 none 0 0 none 0 0)
  v : Vec wr (w.heap.size + 1) 75 5 ad N cap (slc5 L)
  s : Sls wr (w.heap.size + 1) L
  old : Below w.heap.size w wr
  sz : w.heap.size + 1 ≤ wr.heap.size
theorem Rr.step {w wr X : World} {L : List Sl} {ad : Option Addr} {N cap : Nat} (h : Rr w wr L ad N cap) (hb : Below wr.heap.size wr X) : Rr w X L ad N cap :=
  ⟨h.r.below hb h.r.lt, h.v.keep hb, h.s.keep hb, h.old.trans (hb.mono h.old.size), Nat.le_trans h.sz hb.size⟩

/-- What the last loop keeps besides: the state that was laid so far, in a variable. -/
structure Rl (w : World) (gr : Nat) (U : Tri) (L : List Sl) (ad : Option Addr) (N cap : Nat) (f1 f2 f3 : Option Addr) (g1 g2 g3 : Nat) (wr : World) : Prop where
  i : Rr w wr L ad N cap
  x : Bx wr gr 26 (repC f1 U.K.length g1 f2 U.C.length g2 f3 U.E.length g3)
  l : LT wr (w.heap.size + 1) U f1 f2 f3 g1 g2 g3
  lt : w.heap.size + 1 ≤ gr
theorem Rl.step {w : World} {gr : Nat} {U : Tri} {L : List Sl} {ad : Option Addr} {N cap : Nat} {f1 f2 f3 : Option Addr} {g1 g2 g3 : Nat} {wr X : World} (h : Rl w gr U L ad N cap f1 f2 f3 g1 g2 g3 wr) (hb : Below wr.heap.size wr X) : Rl w gr U L ad N cap f1 f2 f3 g1 g2 g3 X :=
  ⟨h.i.step hb, h.x.below hb h.x.lt, h.l.keep hb, h.lt⟩
theorem Rl.set {w : World} {gr : Nat} {U V : Tri} {L : List Sl} {ad : Option Addr} {N cap : Nat} {f1 f2 f3 e1 e2 e3 : Option Addr} {g1 g2 g3 k1 k2 k3 : Nat} {wr : World} (h : Rl w gr U L ad N cap f1 f2 f3 g1 g2 g3 wr) (hL : LT wr (w.heap.size + 1) V e1 e2 e3 k1 k2 k3) :
    Rl w gr V L ad N cap e1 e2 e3 k1 k2 k3 (((wr.setCell ⟨gr, 0, none⟩ (.slice e1 V.K.length k1)).setCell ⟨gr, 1, none⟩ (.slice e2 V.C.length k2)).setCell ⟨gr, 2, none⟩ (.slice e3 V.E.length k3)) := by
  have hu : Upd gr wr (((wr.setCell ⟨gr, 0, none⟩ (.slice e1 V.K.length k1)).setCell ⟨gr, 1, none⟩ (.slice e2 V.C.length k2)).setCell ⟨gr, 2, none⟩ (.slice e3 V.E.length k3)) := (((Upd.refl gr wr).setCell _ rfl _).setCell _ rfl _).setCell _ rfl _
  have hlt := h.lt
  exact ⟨⟨h.i.r.upd hu (by omega), h.i.v.oth h.x hu (by decide), fun s hs => ⟨(h.i.s s hs).v1.oth h.x hu (by decide), (h.i.s s hs).v2.oth h.x hu (by decide), (h.i.s s hs).v3.oth h.x hu (by decide), rfl, rfl, rfl⟩, hu.below h.i.old (by omega), by rw [hu.size]; exact h.i.sz⟩, ((h.x.setCell 0 _).setCell 1 _).setCell 2 _, ⟨hL.v1.oth h.x hu (by decide), hL.v2.oth h.x hu (by decide), hL.v3.oth h.x hu (by decide), rfl, rfl, rfl⟩, h.lt⟩
theorem chain_next (l : List (List UInt8)) {n : Nat} (h : 1 ≤ n) : chainSt l (n + 1 - 1) = layS (chainSt l (n - 1)) (readRd (linkR l (n : Int))).st := by
  obtain ⟨m, rfl⟩ : ∃ m, n = m + 1 := ⟨n - 1, by omega⟩
  rfl

set_option maxRecDepth 100000 in
set_option maxHeartbeats 16000000 in
theorem rreplay_any (l : List (List UInt8)) (ad0 : Option Addr) (N cap0 : Nat) (w : World) (hL : Lies w ad0 N 1 (fun i => [.string (str (l.getD i []))])) (hN : N = l.length) (hl : ∀ v, v ∈ l → v.length ≤ 1048576) (hb : N ≤ 1048576) :
    Calls Try.prog 65 #[.slice ad0 N cap0] w fun e w' => ReplayAns (replayRd l) w.heap.size e w' ∧ Below w.heap.size w w' := by
  obtain ⟨hR, hW, hB⟩ := one_box w 26 (repC none 0 0 none 0 0 none 0 0).toArray
  have HR0 : Hid (Rr w (w.alloc (.cells (repC none 0 0 none 0 0 none 0 0).toArray 26)) [] none 0 0) := ⟨hR, Vec.nil _ _ _ _, (fun s hs => by cases hs), hB, by rw [hW]; exact Nat.le_refl _⟩
  have HN : Hid (N = l.length) := hN
  have HL : Hid (∀ v, v ∈ l → v.length ≤ 1048576) := hl
  have HLI : Hid (Lies w ad0 N 1 (fun i => [.string (str (l.getD i []))])) := hL
  clear hN hl hL hR hW hB
  by_cases h16 : 16 < N
  · have E : Hid (replayRd l = ansErr 1 0) := replay_many (by rw [← HN.out]; exact h16)
    have HRX : Hid (Rr w (w.alloc (.cells (repC none 0 0 none 0 0 none 0 0).toArray 26)) [] none 0 0) := HR0
    have hr := HRX.out.r
    have hd : decide ((16 : Int) < (N : Int)) = true := decide_eq_true (by omega)
    go_enter Try.func65, Try.ntmps65
    go_wp2_with (refine wpList_bstore (by rfl) _ _ _ (by rfl) w.heap.size 26 (by rfl) _ _ (by rfl) hr 3 (by rfl) (by kernel_rfl) (by rfl) (by intro x hx; simp at hx; subst hx; rfl) ?_; intro w9 hr9 hu9)
    exact bodyPost_ret (v := .tuple #[.agg (repC none 0 0 none 0 0 none 0 0).toArray, .int .i64 1, .int .i64 0]) (results_box3 (by rfl) _ _ w.heap.size 26 _ _ _ _ (by rfl) hr9 (by rfl) (by rfl) Try.underlying26 (by rfl) 3 (by rfl) (by kernel_rfl)) rfl ⟨by rw [E.out]; exact ⟨none, 0, 0, none, 0, 0, none, 0, 0, rfl, Lists.nil _ _⟩, hu9.below HRX.out.old (Nat.le_refl _)⟩
  · have H16 : Hid (¬ 16 < l.length) := by rw [← HN.out]; exact h16
    have hd : decide ((16 : Int) < (N : Int)) = false := decide_eq_false (by omega)
    have hN16 : N ≤ 16 := by omega
    go_enter Try.func65, Try.ntmps65
    go_wp2_with fail
    clear hd h16
    go_loopw [5, 6, 7, 8, 9] (fun v u _ _ _ wr => ∃ (i : Nat) (ad : Option Addr) (cap : Nat) (L : List Sl), i ≤ N ∧ u = .int .i64 i ∧ v = .slice ad i cap ∧ i = L.length ∧ L.map Sl.b = l.take i ∧ (∀ j, j < i → bad4 l j = false) ∧ Rr w wr L ad i cap) (fun _ u _ _ _ _ => N - (intOf u).toNat)
    case atStart => exact ⟨0, none, 0, [], by omega, rfl, rfl, rfl, by simp, by intro j hj; omega, HR0.out⟩
    case round =>
      clear HR0
      obtain ⟨i, ad, cap, L, hi, rfl, rfl, hiL, hmap, hbad, hI⟩ := hrel
      have HIL : Hid (i = L.length) := hiL
      have HMAP : Hid (L.map Sl.b = l.take i) := hmap
      have HBAD : Hid (∀ j, j < i → bad4 l j = false) := hbad
      have HI : Hid (Rr w wr L ad i cap) := hI
      clear hiL hmap hbad
      by_cases hlt : i < N
      · obtain ⟨b, o, hbl, hix, hc⟩ := (HLI.out.below hI.old).at cap0 (P := Try.prog) (t := 46) (by kernel_rfl) (by kernel_rfl) hlt
        have c0 : wr.cell? ⟨b, o, none⟩ = some (.string (str (l.getD i []))) := hc 0 _ (by omega) rfl
        have hil : i < l.length := by rw [← HN.out]; exact hlt
        have hsl1 : (l.getD i []).length ≤ 1048576 := HL.out _ (volAt_mem hil)
        have HT : Hid (l.take (i + 1) = l.take i ++ [l.getD i []]) := take_bs l i hil
        have HB4 : Hid (bad4 l i = ((readRd (l.getD i [])).err != 0)) := rfl
        have HE : Hid ((readRd (l.getD i [])).err ≠ 0 → replayRd l = ansErr (readRd (l.getD i [])).err i) := fun h => by
          have : firstOf (bad4 l) l.length = some i := firstOf_some.mpr ⟨by rw [HB4.out]; exact bne_iff_ne.mpr h, hil, HBAD.out⟩
          unfold replayRd; rw [if_neg H16.out, this]
        clear hc hI
        generalize l.getD i [] = s at *
        go_wp2_with fail
        refine (rread_any s _ (by omega)).mono ?_
        rintro e w1 ⟨⟨a1, n1, c1, a2, n2, c2, a3, n3, c3, rfl, hLs⟩, hb1⟩
        obtain ⟨v1, v2, v3, rfl, rfl, rfl⟩ := hLs
        have HI1 : Hid (Rr w w1 L ad i cap) := HI.out.step hb1
        have HS1 : Hid (Sl.In w1 (w.heap.size + 1) ⟨s, a1, a2, a3, c1, c2, c3⟩) := ⟨v1.mono HI.out.sz, v2.mono HI.out.sz, v3.mono HI.out.sz, rfl, rfl, rfl⟩
        have hal : Below w1.heap.size w1 (w1.alloc (.cells (lnkC (readRd s).seq (readRd s).base a1 (readRd s).K.length c1 a2 (readRd s).C.length c2 a3 (readRd s).E.length c3).toArray 75)) := (Below.refl _ _).alloc (Nat.le_refl _) _
        have HRX : Hid (Rr w (w1.alloc (.cells (lnkC (readRd s).seq (readRd s).base a1 (readRd s).K.length c1 a2 (readRd s).C.length c2 a3 (readRd s).E.length c3).toArray 75)) L ad i cap) := HI1.out.step hal
        have HS2 : Hid (Sls (w1.alloc (.cells (lnkC (readRd s).seq (readRd s).base a1 (readRd s).K.length c1 a2 (readRd s).C.length c2 a3 (readRd s).E.length c3).toArray 75)) (w.heap.size + 1) (L ++ [⟨s, a1, a2, a3, c1, c2, c3⟩])) := fun x hx => by
          rcases List.mem_append.1 hx with h | h
          · exact (HI1.out.s x h).keep hal
          · simp at h; subst h; exact HS1.out.keep hal
        have hX1 := Bx.new w1 75 (lnkC (readRd s).seq (readRd s).base a1 (readRd s).K.length c1 a2 (readRd s).C.length c2 a3 (readRd s).E.length c3).toArray
        have z0 := hX1.cell 0; have z1 := hX1.cell 1; have z2 := hX1.cell 2; have z3 := hX1.cell 3; have z4 := hX1.cell 4
        dsimp only [List.getElem?_cons_zero, List.getElem?_cons_succ] at z0 z1 z2 z3 z4
        clear v1 v2 v3 hb1 c0 hbl hal hX1 HI HI1 HS1
        by_cases he : (readRd s).err = 0
        · have HE0 : Hid ((readRd s).err = 0) := he
          rw [he]
          have HBADN : Hid (∀ j, j < i + 1 → bad4 l j = false) := fun j hj => by
            rcases Nat.lt_or_ge j i with h | h
            · exact HBAD.out j h
            · rw [show j = i by omega, HB4.out, HE0.out]; rfl
          have hV := HRX.out.v
          have hzz := HRX.out.sz
          clear he HE
          go_upto_region 10 with fail
          generalize w1.alloc (.cells (lnkC (readRd s).seq (readRd s).base a1 (readRd s).K.length c1 a2 (readRd s).C.length c2 a3 (readRd s).E.length c3).toArray 75) = X at *
          generalize w1.heap.size = gx at *
          clear w1
          go_wp2_with (at_builtin; refine wpList_pushk (by rfl) _ _ 133 (by rfl) (w.heap.size + 1) 75 5 88 (.agg #[.int .i64 0, .int .i64 0, .slice none 0 0, .slice none 0 0, .slice none 0 0]) Try.underlying133 (by kernel_rfl) rfl (by decide) ad i cap _ (by rfl) (hV.keep ((Below.refl _ _).alloc (Nat.le_refl _) _)) _ 1 1 (Sl.c5 ⟨s, a1, a2, a3, c1, c2, c3⟩) (by rfl) rfl ?_ ?_ ?_ ?_ ?_ ?_ ?_; (rw [rep_one]; exact new_cells _ _ _); (exact ones5 _); (omega); (omega); (omega); (simp; omega); intro ad' cap' w' hv' hk')
          have hal := (Below.refl X.heap.size X).alloc (Nat.le_refl _) (.cells (Sl.c5 ⟨s, a1, a2, a3, c1, c2, c3⟩).toArray 75)
          have hV9 := hV.keep hal
          have hs9 := (HS2.out.keep hal).kq hV9 hk'
          have hr9 := (HRX.out.r.below hal HRX.out.r.lt).kp hk' (fun e => by have := (hV9.typed _ e).1; omega)
          have hb9 : Below w.heap.size w w' := hk'.below (HRX.out.old.alloc HRX.out.old.size _) (by have := HRX.out.old.size; simp; omega) (fun q e => by have := (hV9.typed q e).1; omega)
          rw [rep_one] at hv'
          have hfin : Rr w w' (L ++ [⟨s, a1, a2, a3, c1, c2, c3⟩]) ad' (i + 1) cap' := ⟨hr9, by rw [slc5_app]; simpa [slc5] using hv', hs9, hb9, by have := hk'.size; simp at this; omega⟩
          go_roundw
          case rel => exact ⟨i + 1, ad', cap', L ++ [⟨s, a1, a2, a3, c1, c2, c3⟩], by omega, by go_num, rfl, by rw [List.length_append, ← HIL.out]; rfl, by rw [List.map_append, HMAP.out, HT.out]; rfl, HBADN.out, hfin⟩
          case measure => simp [intOf]; omega
        · have E : Hid (replayRd l = ansErr (readRd s).err i) := HE.out he
          have hcb : ((readRd s).err != 0) = true := by simp [he]
          have hr := HRX.out.r
          clear he HE
          go_wp2_with (refine wpList_bstore (by rfl) _ _ _ (by rfl) w.heap.size 26 (by rfl) _ _ (by rfl) hr 3 (by rfl) (by kernel_rfl) (by rfl) (by intro x hx; simp at hx; subst hx; rfl) ?_; intro w9 hr9 hu9)
          exact bodyPost_ret (v := .tuple #[.agg (repC none 0 0 none 0 0 none 0 0).toArray, .int .i64 (readRd s).err, .int .i64 (i : Int)]) (results_box3 (by rfl) _ _ w.heap.size 26 _ _ _ _ (by rfl) hr9 (by rfl) (by rfl) Try.underlying26 (by rfl) 3 (by rfl) (by kernel_rfl)) rfl ⟨by rw [E.out]; exact ⟨none, 0, 0, none, 0, 0, none, 0, 0, rfl, Lists.nil _ _⟩, hu9.below HRX.out.old (Nat.le_refl _)⟩
      · obtain rfl : N = i := by omega
        have HM : Hid (L.map Sl.b = l) := by show _ = _; rw [HMAP.out, HN.out, List.take_length]
        have H4 : Hid (lkErr l = 0) := by
          have : firstOf (bad4 l) l.length = none := firstOf_none.mpr (fun j hj => HBAD.out j (by rw [HN.out]; exact hj))
          show _ = _; unfold lkErr; rw [this]
        have HE4 : Hid (∀ j, j < N → (readRd (l.getD j [])).err = 0) := fun j hj => by
          have := HBAD.out j hj
          unfold bad4 at this
          simpa using this
        clear hI HMAP HBAD hi hlt
        go_wp2_with fail
        generalize wr = W at *
        have HLL : Hid (Lies W ad N 5 (fun i => (L.getD i sl0).c5)) := slvec5_lies HI.out.v HIL.out
        go_loop [10, 11] (fun u _ => ∃ k : Nat, k ≤ N ∧ u = .int .i64 k ∧ (∀ j, j < k → bad5 l j = false)) (fun u _ => N - (intOf u).toNat)
        case atStart => exact ⟨0, Nat.zero_le _, rfl, fun j hj => by omega⟩
        case round =>
          obtain ⟨k, hk, rfl, hno⟩ := hrel
          have HNO : Hid (∀ j, j < k → bad5 l j = false) := hno
          clear hno
          by_cases hlt : k < N
          · obtain ⟨b, o, hbl, hix, c0, -⟩ := Lies.sl5 (c := fun i => L.getD i sl0) HLL.out cap hlt
            have hkL : k < L.length := by rw [← HIL.out]; exact hlt
            have HT : Hid (bad5 l k = decide (slIx L (readRd (L.getD k sl0).b).seq < k)) := (tw_bad5 HM.out hkL).symm
            have HSQ : Hid (seqR L (readRd (L.getD k sl0).b).seq = (slIx L (readRd (L.getD k sl0).b).seq : Int)) := seq_twice L hkL
            have HLE : Hid (slIx L (readRd (L.getD k sl0).b).seq ≤ N) := by show _ ≤ _; rw [HIL.out]; exact slIx_le L _
            clear hkL
            generalize (readRd (L.getD k sl0).b).seq = c at *
            go_wp2_with fail
            refine (rseq_any L ad N cap c _ HIL.out (by omega) HLL.out).mono ?_
            rintro e w1 ⟨rfl, hw1⟩
            obtain rfl : W = w1 := hw1.symm
            clear hw1
            rw [HSQ.out]
            have hle := HLE.out
            generalize slIx L c = q at *
            by_cases hq : q < k
            · have E : Hid (replayRd l = ansErr 15 k) := replay_twice H16.out H4.out (firstOf_some.mpr ⟨by rw [HT.out]; exact decide_eq_true hq, by rw [← HN.out]; exact hlt, HNO.out⟩)
              have HRX := HI
              have hr := HRX.out.r
              go_wp2_with (refine wpList_bstore (by rfl) _ _ _ (by rfl) w.heap.size 26 (by rfl) _ _ (by rfl) hr 3 (by rfl) (by kernel_rfl) (by rfl) (by intro x hx; simp at hx; subst hx; rfl) ?_; intro w9 hr9 hu9)
              exact bodyPost_ret (v := .tuple #[.agg (repC none 0 0 none 0 0 none 0 0).toArray, .int .i64 15, .int .i64 (k : Int)]) (results_box3 (by rfl) _ _ w.heap.size 26 _ _ _ _ (by rfl) hr9 (by rfl) (by rfl) Try.underlying26 (by rfl) 3 (by rfl) (by kernel_rfl)) rfl ⟨by rw [E.out]; exact ⟨none, 0, 0, none, 0, 0, none, 0, 0, rfl, Lists.nil _ _⟩, hu9.below HRX.out.old (Nat.le_refl _)⟩
            · have HE : Hid (∀ j, j < k + 1 → bad5 l j = false) := fun j hj => by
                rcases Nat.lt_or_ge j k with h | h
                · exact HNO.out j h
                · rw [show j = k by omega, HT.out]; exact decide_eq_false hq
              go_wp2_with fail
              go_round
              case rel => exact ⟨k + 1, by omega, by go_num, HE.out⟩
              case measure => simp [intOf]; omega
          · obtain rfl : N = k := by omega
            have H5 : Hid (firstOf (bad5 l) l.length = none) := firstOf_none.mpr (fun j hj => HNO.out j (by rw [HN.out]; exact hj))
            clear hk hlt HNO
            go_wp2_with fail
            go_loop [12, 13] (fun u _ => ∃ n : Nat, (n ≤ N ∨ n = 1) ∧ u = .int .i64 n ∧ (∀ j : Nat, j < n → slIx L (j : Int) < L.length)) (fun u _ => N + 1 - (intOf u).toNat)
            case atStart => exact ⟨0, Or.inl (Nat.zero_le _), rfl, fun j hj => by omega⟩
            case round =>
              obtain ⟨n, hn, rfl, hno⟩ := hrel
              have HNO : Hid (∀ j : Nat, j < n → slIx L (j : Int) < L.length) := hno
              clear hno
              have hle1 := slIx_le L (n : Int)
              have HSL : Hid (slIx L (n : Int) ≤ L.length) := hle1
              clear hle1
              by_cases hnN : n < N
              · have q1 : decide ((n : Int) < (N : Int)) = true := decide_eq_true (by omega)
                go_wp2_with fail
                refine (rseq_any L ad N cap (n : Int) _ HIL.out (by omega) HLL.out).mono ?_
                rintro e w1 ⟨rfl, hw1⟩
                obtain rfl : W = w1 := hw1.symm
                clear hw1
                by_cases hh : slIx L (n : Int) < L.length
                · rw [seq_hit hh]
                  have HNX : Hid (∀ j : Nat, j < n + 1 → slIx L (j : Int) < L.length) := fun j hj => by
                    rcases Nat.lt_or_ge j n with h | h
                    · exact HNO.out j h
                    · rw [show j = n by omega]; exact hh
                  have hsm : slIx L (n : Int) < N := by rw [HIL.out]; exact hh
                  clear hh
                  generalize slIx L (n : Int) = q at *
                  go_wp2_with fail
                  go_round
                  case rel => exact ⟨n + 1, by omega, by go_num, HNX.out⟩
                  case measure => simp [intOf]; omega
                · have E : Hid (replayRd l = ansErr 16 0) := replay_missing H16.out H4.out H5.out (Or.inr (by
                    have hb6 := (ix_bad6 HM.out n).2 hh
                    cases hf : firstOf (bad6 l) l.length with
                    | some i => rfl
                    | none => rw [firstOf_none.mp hf n (by rw [← HN.out]; exact hnN)] at hb6; cases hb6))
                  rw [seq_miss hh]
                  clear hh
                  have HRX := HI
                  have hr := HRX.out.r
                  go_wp2_with (refine wpList_bstore (by rfl) _ _ _ (by rfl) w.heap.size 26 (by rfl) _ _ (by rfl) hr 3 (by rfl) (by kernel_rfl) (by rfl) (by intro x hx; simp at hx; subst hx; rfl) ?_; intro w9 hr9 hu9)
                  exact bodyPost_ret (v := .tuple #[.agg (repC none 0 0 none 0 0 none 0 0).toArray, .int .i64 16, .int .i64 0]) (results_box3 (by rfl) _ _ w.heap.size 26 _ _ _ _ (by rfl) hr9 (by rfl) (by rfl) Try.underlying26 (by rfl) 3 (by rfl) (by kernel_rfl)) rfl ⟨by rw [E.out]; exact ⟨none, 0, 0, none, 0, 0, none, 0, 0, rfl, Lists.nil _ _⟩, hu9.below HRX.out.old (Nat.le_refl _)⟩
              · by_cases hn0 : n = 0
                · have hN0 : N = 0 := by omega
                  have hh : ¬ slIx L (n : Int) < L.length := by rw [← HIL.out, hN0]; omega
                  have E : Hid (replayRd l = ansErr 16 0) := replay_missing H16.out H4.out H5.out (Or.inl (by rw [← HN.out]; exact hN0))
                  have q1 : decide ((n : Int) < (N : Int)) = false := decide_eq_false (by omega)
                  have q2 : ((n : Int) == 0) = true := by rw [hn0]; rfl
                  have HH : Hid (¬ slIx L (n : Int) < L.length) := hh
                  clear hh hN0 hn0
                  go_wp2_with fail
                  refine (rseq_any L ad N cap (n : Int) _ HIL.out (by omega) HLL.out).mono ?_
                  rintro e w1 ⟨rfl, hw1⟩
                  obtain rfl : W = w1 := hw1.symm
                  clear hw1
                  rw [seq_miss HH.out]
                  have HRX := HI
                  have hr := HRX.out.r
                  go_wp2_with (refine wpList_bstore (by rfl) _ _ _ (by rfl) w.heap.size 26 (by rfl) _ _ (by rfl) hr 3 (by rfl) (by kernel_rfl) (by rfl) (by intro x hx; simp at hx; subst hx; rfl) ?_; intro w9 hr9 hu9)
                  exact bodyPost_ret (v := .tuple #[.agg (repC none 0 0 none 0 0 none 0 0).toArray, .int .i64 16, .int .i64 0]) (results_box3 (by rfl) _ _ w.heap.size 26 _ _ _ _ (by rfl) hr9 (by rfl) (by rfl) Try.underlying26 (by rfl) 3 (by rfl) (by kernel_rfl)) rfl ⟨by rw [E.out]; exact ⟨none, 0, 0, none, 0, 0, none, 0, 0, rfl, Lists.nil _ _⟩, hu9.below HRX.out.old (Nat.le_refl _)⟩
                · have q1 : decide ((n : Int) < (N : Int)) = false := decide_eq_false (by omega)
                  have q2 : ((n : Int) == 0) = false := by rw [beq_eq_false_iff_ne]; omega
                  have hall : ∀ j : Nat, j < L.length → slIx L (j : Int) < L.length := fun j hj => HNO.out j (by have := HIL.out; omega)
                  have HALL : Hid (∀ j : Nat, j < L.length → slIx L (j : Int) < L.length) := hall
                  have hNp : 0 < N := by
                    rcases Nat.eq_zero_or_pos N with h | h
                    · exfalso
                      have := HNO.out 0 (by omega)
                      have := HIL.out
                      omega
                    · exact h
                  have H6 : Hid (¬ (l.length = 0 ∨ (firstOf (bad6 l) l.length).isSome = true)) := by
                    rintro (h | h)
                    · rw [← HN.out] at h; omega
                    · obtain ⟨k, hk⟩ := Option.isSome_iff_exists.1 h
                      obtain ⟨h1, h2, _⟩ := firstOf_some.mp hk
                      exact (ix_bad6 HM.out k).1 h1 (hall k (by rw [sl_len HM.out]; exact h2))
                  clear hall
                  go_wp2_with fail
                  clear q1 q2 hn hnN hn0 HNO HSL
                  go_loopw [14, 15, 16] (fun u _ _ wr => ∃ k : Nat, k ≤ N ∧ u = .int .i64 k ∧ (∀ j, j < k → bad7 l j = false) ∧ Below W.heap.size W wr) (fun u _ _ _ => N - (intOf u).toNat)
                  case atStart => exact ⟨0, Nat.zero_le _, rfl, fun j hj => by omega, Below.refl _ _⟩
                  case round =>
                    obtain ⟨k, hk, rfl, hno, hbw⟩ := hrel
                    have HNO : Hid (∀ j, j < k → bad7 l j = false) := hno
                    have HIX : Hid (∀ X, Below wr.heap.size wr X → Rr w X L ad N cap) := fun X hX => HI.out.step (hbw.trans (hX.mono hbw.size))
                    have HBW : Hid (Below W.heap.size W wr) := hbw
                    clear hno hbw
                    have HI4 : Hid (Rr w wr L ad N cap) := HIX.out _ (Below.refl _ _)
                    by_cases hlt : k < N
                    · have HL4 : Hid (Lies wr ad N 5 (fun i => (L.getD i sl0).c5)) := slvec5_lies HI4.out.v HIL.out
                      obtain ⟨b, o, hbl, hix, c0, c1, -⟩ := Lies.sl5 (c := fun i => L.getD i sl0) HL4.out cap hlt
                      have hkL : k < L.length := by rw [← HIL.out]; exact hlt
                      obtain ⟨s0, s1⟩ := seq_below HALL.out hkL
                      have HAT : Hid ((L.getD k sl0).b = l.getD k []) := sl_at HM.out k
                      by_cases hp : 0 < (readRd (L.getD k sl0).b).seq
                      · obtain ⟨n1, hn1⟩ : ∃ n1 : Nat, (readRd (L.getD k sl0).b).seq - 1 = (n1 : Int) := ⟨((readRd (L.getD k sl0).b).seq - 1).toNat, by omega⟩
                        have hm := HALL.out n1 (by omega)
                        have HSQ : Hid (seqR L (n1 : Int) = (slIx L (n1 : Int) : Int)) := seq_hit hm
                        have HLK : Hid (l.getD (slIx L (n1 : Int)) [] = linkR l (n1 : Int)) := by show _ = _; rw [sl_ix HM.out]; rfl
                        have hmN : slIx L (n1 : Int) < N := by rw [HIL.out]; exact hm
                        have HBD : Hid (bad7 l k = (sealR (linkR l (n1 : Int)) != (readRd (L.getD k sl0).b).base)) := by
                          show _ = _; unfold bad7; rw [← HAT.out, decide_eq_true hp, Bool.true_and, hn1]
                        have H8 : Hid (8 ≤ (linkR l (n1 : Int)).length) := by rw [← HLK.out]; exact read_long (HE4.out _ hmN)
                        have HSH : Hid ((linkR l (n1 : Int)).length ≤ 1048576) := link_short HL.out _
                        obtain ⟨b2, o2, hbl2, hix2, hc2⟩ := (HLI.out.below HI4.out.old).at cap0 (P := Try.prog) (t := 46) (by kernel_rfl) (by kernel_rfl) hmN
                        have d0 : wr.cell? ⟨b2, o2, none⟩ = some (.string (str (l.getD (slIx L (n1 : Int)) []))) := hc2 0 _ (by omega) rfl
                        rw [HLK.out] at d0
                        have hpI : ¬ (readRd (L.getD k sl0).b).seq ≤ 0 := by omega
                        have hi64 : (readRd (L.getD k sl0).b).seq ≤ 1048576 := by have := HIL.out; omega
                        clear hc2 hm hkL s0 s1 HAT
                        generalize (readRd (L.getD k sl0).b).seq = sq at *
                        generalize (readRd (L.getD k sl0).b).base = bs at *
                        generalize linkR l (n1 : Int) = sx at *
                        go_wp2_with fail
                        refine (rseq_any L ad N cap (n1 : Int) _ HIL.out (by omega) HL4.out).mono ?_
                        rintro e w1 ⟨rfl, hw1⟩
                        obtain rfl : wr = w1 := hw1.symm
                        clear hw1
                        rw [HSQ.out]
                        generalize slIx L (n1 : Int) = q at *
                        have hz := str_size sx
                        obtain ⟨m, hm⟩ : ∃ m, (str sx).size = m + 4 := ⟨(str sx).size - 4, by have := H8.out; omega⟩
                        have hx2 : (str sx).extract m (m + 4) = str (sx.drop m) := by rw [str_extract, List.take_of_length_le (by simp; omega)]
                        have hsub : ((m : Int) + 4 - 4) = (m : Int) := by omega
                        have hle2 : (m : Int) ≤ (m : Int) + 4 := by omega
                        have HS : Hid (sealR sx = fourRd (sx.drop m)) := by show _ = _; unfold sealR; rw [show sx.length - 4 = m by omega]
                        have HD : Hid ((sx.drop m).length = 4) := by show _ = _; simp; omega
                        have hnb : m ≤ 1048576 := by have := HSH.out; omega
                        have hd0 : ¬ (m : Int) < 0 := by omega
                        clear hz
                        go_wp2_with fail
                        refine (rfour_rd (sx.drop m) _ HD.out).mono ?_
                        rintro e w2 ⟨rfl, nd, hw2⟩
                        have hb2 : Below wr.heap.size wr w2 := by rw [hw2]; exact below_drewN (Below.refl _ _) nd
                        rw [← HS.out]
                        have hc1 := (hb2.cell (p := ⟨b, o + 1, none⟩) hbl).trans c1
                        have HB2 : Hid (Below W.heap.size W w2) := HBW.out.trans (hb2.mono HBW.out.size)
                        have HRX : Hid (Rr w w2 L ad N cap) := HIX.out _ hb2
                        clear c0 c1 d0 hw2 hb2 hx2 hsub hle2 HS HD hm
                        cases hq : (sealR sx != bs) with
                        | true =>
                          have E : Hid (replayRd l = ansErr 17 k) := replay_base H16.out H4.out H5.out H6.out (firstOf_some.mpr ⟨by rw [HBD.out]; exact hq, by rw [← HN.out]; exact hlt, HNO.out⟩)
                          have hr := HRX.out.r
                          go_wp2_with (refine wpList_bstore (by rfl) _ _ _ (by rfl) w.heap.size 26 (by rfl) _ _ (by rfl) hr 3 (by rfl) (by kernel_rfl) (by rfl) (by intro x hx; simp at hx; subst hx; rfl) ?_; intro w9 hr9 hu9)
                          exact bodyPost_ret (v := .tuple #[.agg (repC none 0 0 none 0 0 none 0 0).toArray, .int .i64 17, .int .i64 (k : Int)]) (results_box3 (by rfl) _ _ w.heap.size 26 _ _ _ _ (by rfl) hr9 (by rfl) (by rfl) Try.underlying26 (by rfl) 3 (by rfl) (by kernel_rfl)) rfl ⟨by rw [E.out]; exact ⟨none, 0, 0, none, 0, 0, none, 0, 0, rfl, Lists.nil _ _⟩, hu9.below HRX.out.old (Nat.le_refl _)⟩
                        | false =>
                          have HE : Hid (∀ j, j < k + 1 → bad7 l j = false) := fun j hj => by
                            rcases Nat.lt_or_ge j k with h | h
                            · exact HNO.out j h
                            · rw [show j = k by omega, HBD.out]; exact hq
                          go_wp2_with fail
                          go_roundw
                          case rel => exact ⟨k + 1, by omega, by go_num, HE.out, HB2.out⟩
                          case measure => simp [intOf]; omega
                      · have HE : Hid (∀ j, j < k + 1 → bad7 l j = false) := fun j hj => by
                          rcases Nat.lt_or_ge j k with h | h
                          · exact HNO.out j h
                          · rw [show j = k by omega]; unfold bad7; rw [← HAT.out, decide_eq_false hp, Bool.false_and]
                        clear hkL s1 HAT
                        generalize (readRd (L.getD k sl0).b).seq = sq at *
                        go_wp2_with fail
                        go_roundw
                        case rel => exact ⟨k + 1, by omega, by go_num, HE.out, HBW.out⟩
                        case measure => simp [intOf]; omega
                    · obtain rfl : N = k := by omega
                      have H7 : Hid (firstOf (bad7 l) l.length = none) := firstOf_none.mpr (fun j hj => HNO.out j (by rw [HN.out]; exact hj))
                      have HLAST : Hid (replayRd l = if (chainSt l (l.length - 1)).rep.chk = 0 then ⟨0, 0, 0, 0, (chainSt l (l.length - 1)).K, (chainSt l (l.length - 1)).C, (chainSt l (l.length - 1)).E⟩ else ansErr (chainSt l (l.length - 1)).rep.chk 0) := replay_last H16.out H4.out H5.out H6.out H7.out
                      clear hk hlt HNO HIX HBW H7 H6 H5 H4 HI HLL
                      have HL4 : Hid (Lies wr ad N 5 (fun i => (L.getD i sl0).c5)) := slvec5_lies HI4.out.v HIL.out
                      have hq0 : slIx L (0 : Int) < L.length := HALL.out 0 (by have := HIL.out; omega)
                      have hqN : slIx L (0 : Int) < N := by rw [HIL.out]; exact hq0
                      have HSQ : Hid (seqR L 0 = (slIx L 0 : Int)) := seq_hit hq0
                      have HT0 : Hid ((readRd (L.getD (slIx L 0) sl0).b).st = chainSt l (1 - 1)) := by show _ = _; rw [sl_link HM.out 0]; rfl
                      have HIN : Hid (Sl.In wr (w.heap.size + 1) (L.getD (slIx L 0) sl0)) := HI4.out.s _ (getD_mem hq0)
                      obtain ⟨b, o, hbl, hix, -, -, c2, c3, c4⟩ := Lies.sl5 (c := fun i => L.getD i sl0) HL4.out cap hqN
                      clear hq0
                      generalize slIx L 0 = q at *
                      generalize L.getD q sl0 = s at *
                      have hal : Below wr.heap.size wr (wr.alloc (.cells (repC s.a1 (readRd s.b).K.length s.k1 s.a2 (readRd s.b).C.length s.k2 s.a3 (readRd s.b).E.length s.k3).toArray 26)) := (Below.refl _ _).alloc (Nat.le_refl _) _
                      have HR0 : Hid (Rl w wr.heap.size (chainSt l (1 - 1)) L ad N cap s.a1 s.a2 s.a3 s.k1 s.k2 s.k3 (wr.alloc (.cells (repC s.a1 (readRd s.b).K.length s.k1 s.a2 (readRd s.b).C.length s.k2 s.a3 (readRd s.b).E.length s.k3).toArray 26))) := by
                        rw [← HT0.out]
                        exact ⟨HI4.out.step hal, Bx.new _ _ _, HIN.out.keep hal, HI4.out.sz⟩
                      clear hal HT0
                      go_wp2_with fail
                      refine (rseq_any L ad N cap 0 _ HIL.out (by omega) HL4.out).mono ?_
                      rintro e w1 ⟨rfl, hw1⟩
                      obtain rfl : wr = w1 := hw1.symm
                      clear hw1
                      rw [HSQ.out]
                      clear HIN HL4 HI4
                      go_wp2_with fail
                      generalize wr.alloc (.cells (repC s.a1 (readRd s.b).K.length s.k1 s.a2 (readRd s.b).C.length s.k2 s.a3 (readRd s.b).E.length s.k3).toArray 26) = X0 at *
                      generalize wr.heap.size = gr at *
                      clear c2 c3 c4 hix hbl wr
                      go_loopw [18] (fun u wr => ∃ (n : Nat) (f1 f2 f3 : Option Addr) (g1 g2 g3 : Nat), 1 ≤ n ∧ n ≤ N ∧ u = .int .i64 n ∧ Rl w gr (chainSt l (n - 1)) L ad N cap f1 f2 f3 g1 g2 g3 wr) (fun u _ => N - (intOf u).toNat)
                      case atStart => exact ⟨1, _, _, _, _, _, _, Nat.le_refl _, hNp, rfl, HR0.out⟩
                      case round =>
                        clear HR0
                        obtain ⟨n, f1, f2, f3, g1, g2, g3, hn1, hn, rfl, hR⟩ := hrel
                        have HR : Hid (Rl w gr (chainSt l (n - 1)) L ad N cap f1 f2 f3 g1 g2 g3 wr) := hR
                        have hfew := chain_few HL.out (n - 1)
                        have hasc := chain_asc l (n - 1)
                        by_cases hlt : n < N
                        · have HL5 : Hid (Lies wr ad N 5 (fun i => (L.getD i sl0).c5)) := slvec5_lies hR.i.v HIL.out
                          have hq0 : slIx L (n : Int) < L.length := HALL.out n (by have := HIL.out; omega)
                          have hqN : slIx L (n : Int) < N := by rw [HIL.out]; exact hq0
                          have HT : Hid (chainSt l (n + 1 - 1) = layS (chainSt l (n - 1)) (readRd (L.getD (slIx L (n : Int)) sl0).b).st) := by show _ = _; rw [sl_link HM.out (n : Int)]; exact chain_next l hn1
                          have HIN : Hid (Sl.In wr (w.heap.size + 1) (L.getD (slIx L (n : Int)) sl0)) := hR.i.s _ (getD_mem hq0)
                          have hsh : (L.getD (slIx L (n : Int)) sl0).b.length ≤ 1048576 := by rw [sl_link HM.out (n : Int)]; exact link_short HL.out _
                          obtain ⟨b, o, hbl, hix, -, -, c2, c3, c4⟩ := Lies.sl5 (c := fun i => L.getD i sl0) HL5.out cap hqN
                          have KS : Hid (∀ X, Below wr.heap.size wr X → Calls Try.prog 111 #[.slice ad N cap, .int .i64 (n : Int)] X fun e w' => e = .returned (.int .i64 (slIx L (n : Int) : Int)) ∧ w' = X) := fun X hX => (rseq_any L ad N cap (n : Int) X HIL.out (by omega) (HL5.out.below hX)).mono fun e w' ⟨h1, h2⟩ => ⟨by rw [h1, seq_hit hq0], h2⟩
                          generalize slIx L (n : Int) = q at *
                          generalize L.getD q sl0 = s at *
                          have hfr := readRd_few s.b
                          have KO : Hid (∀ X, Below wr.heap.size wr X → Calls Try.prog 113 #[.agg #[.slice f1 (chainSt l (n - 1)).K.length g1, .slice f2 (chainSt l (n - 1)).C.length g2, .slice f3 (chainSt l (n - 1)).E.length g3], .agg #[.slice s.a1 (readRd s.b).K.length s.k1, .slice s.a2 (readRd s.b).C.length s.k2, .slice s.a3 (readRd s.b).E.length s.k3]] X fun e w' =>
                              ∃ e1 k1 e2 k2 e3 k3, e = .returned (.agg #[.slice e1 (chainSt l (n + 1 - 1)).K.length k1, .slice e2 (chainSt l (n + 1 - 1)).C.length k2, .slice e3 (chainSt l (n + 1 - 1)).E.length k3]) ∧ LT w' (w.heap.size + 1) (chainSt l (n + 1 - 1)) e1 e2 e3 k1 k2 k3 ∧ Below wr.heap.size wr w') := fun X hX => by
                            rw [HT.out]
                            have h1 : (n - 1 + 1) * 1048576 ≤ 16777216 := by omega
                            refine (rlaid_any (chainSt l (n - 1)) (readRd s.b).st (w.heap.size + 1) f1 f2 f3 s.a1 s.a2 s.a3 g1 g2 g3 s.k1 s.k2 s.k3 X (HR.out.l.keep hX) (HIN.out.keep hX) (HR.out.step hX).i.sz hasc ⟨by show _ + (readRd s.b).K.length ≤ _; omega, by show _ + (readRd s.b).C.length ≤ _; omega⟩).mono ?_
                            rintro e w' ⟨e1, k1, e2, k2, e3, k3, rfl, h2, h3⟩
                            exact ⟨e1, k1, e2, k2, e3, k3, rfl, h2, hX.trans (h3.mono hX.size)⟩
                          have x0 := HR.out.x.cell 0; have x1 := HR.out.x.cell 1; have x2 := HR.out.x.cell 2
                          dsimp only [List.getElem?_cons_zero, List.getElem?_cons_succ] at x0 x1 x2
                          clear hR hfew hasc hfr hsh hq0 HT HIN HL5
                          generalize chainSt l (n - 1) = U at *
                          generalize hV : chainSt l (n + 1 - 1) = V at *
                          have HV : Hid (chainSt l (n + 1 - 1) = V) := hV
                          clear hV
                          go_wp2_with fail
                          apply merge
                          · intro KEY
                            go_region_law (go_simp; first
                              | (go_at_call 111; refine (KS.out _ (by (repeat (first | exact Below.refl _ _ | refine Below.drew ?_)))).mono ?_; rintro e w1 ⟨rfl, rfl⟩; dsimp only)
                              | (go_at_call 113; refine (KO.out _ (by (repeat (first | exact Below.refl _ _ | refine Below.drew ?_)))).mono ?_; rintro e w1 ⟨e1, k1, e2, k2, e3, k3, rfl, hL1, hb1⟩; have ob := HR.out.x.below hb1 HR.out.x.lt; have ob0 := ob.cell 0; have ob1 := ob.cell 1; have ob2 := ob.cell 2; dsimp only [List.getElem?_cons_zero, List.getElem?_cons_succ] at ob0 ob1 ob2; have of0 := ob.frozen 0; have of1 := ob.frozen 1; have of2 := ob.frozen 2; dsimp only))
                            all_goals
                              have hN := (HR.out.step hb1).set hL1
                              generalize (((w1.setCell ⟨gr, 0, none⟩ (.slice e1 V.K.length k1)).setCell ⟨gr, 1, none⟩ (.slice e2 V.C.length k2)).setCell ⟨gr, 2, none⟩ (.slice e3 V.E.length k3)) = W1 at hN ⊢
                              clear hL1 hb1 ob ob0 ob1 ob2 of0 of1 of2
                              clear w1
                              revert e1 k1 e2 k2 e3 k3 W1
                              exact KEY.out
                          intro e1 k1 e2 k2 e3 k3 W1 hN
                          clear x0 x1 x2 c2 c3 c4 hix hbl KS KO HR
                          go_wp2_with fail
                          go_roundw
                          case rel => exact ⟨n + 1, e1, e2, e3, k1, k2, k3, by omega, by omega, by go_num, by rw [HV.out]; exact hN⟩
                          case measure => simp [intOf]; omega
                        · obtain rfl : N = n := by omega
                          rw [HN.out.symm] at HLAST
                          have hm : (N - 1 + 1) * 1048576 ≤ 16777216 := by omega
                          have f9 : (chainSt l (N - 1)).K.length ≤ 1099511627776 := by omega
                          have f8 : (chainSt l (N - 1)).C.length ≤ 1099511627776 := by omega
                          have f7 : (chainSt l (N - 1)).E.length ≤ 1099511627776 := by omega
                          clear hR hfew hasc hn1 hn hlt hm
                          generalize chainSt l (N - 1) = U at *
                          have HHA : Hid (Has wr (repOf U.K U.C U.E) f1 f2 f3 ∧ repV (repOf U.K U.C U.E) f1 f2 f3 g1 g2 g3 = .agg #[.slice f1 U.K.length g1, .slice f2 U.C.length g2, .slice f3 U.E.length g3]) := HR.out.l.has f9 f8 f7
                          have x0 := HR.out.x.cell 0; have x1 := HR.out.x.cell 1; have x2 := HR.out.x.cell 2
                          dsimp only [List.getElem?_cons_zero, List.getElem?_cons_succ] at x0 x1 x2
                          go_wp2_with fail
                          clear x0 x1 x2
                          have hck := rcheck_any (repOf U.K U.C U.E) f1 f2 f3 g1 g2 g3 _ HHA.out.1
                          rw [HHA.out.2] at hck
                          refine hck.mono ?_
                          rintro e w2 ⟨rfl, hb2⟩
                          clear hck HHA
                          have HR2 : Hid (Rl w gr U L ad N cap f1 f2 f3 g1 g2 g3 w2) := HR.out.step hb2
                          have HCK : Hid ((repOf U.K U.C U.E).chk = U.rep.chk) := rfl
                          rw [HCK.out]
                          clear hb2 HR HCK
                          by_cases hc : U.rep.chk = 0
                          · have E : Hid (replayRd l = ⟨0, 0, 0, 0, U.K, U.C, U.E⟩) := by show _ = _; rw [HLAST.out, if_pos hc]
                            rw [hc]
                            clear hc HLAST
                            have x0 := HR2.out.x.cell 0; have x1 := HR2.out.x.cell 1; have x2 := HR2.out.x.cell 2
                            dsimp only [List.getElem?_cons_zero, List.getElem?_cons_succ] at x0 x1 x2
                            have hr := HR2.out.i.r
                            go_wp2_with (refine wpList_bstore (by rfl) _ _ _ (by rfl) w.heap.size 26 (by rfl) _ _ (by rfl) hr 3 (by rfl) (by kernel_rfl) (by rfl) (by intro x hx; simp at hx; rcases hx with rfl | rfl | rfl <;> rfl) ?_; intro w9 hr9 hu9)
                            exact bodyPost_ret (v := .tuple #[.agg #[.slice f1 U.K.length g1, .slice f2 U.C.length g2, .slice f3 U.E.length g3], .int .i64 0, .int .i64 0]) (results_box3 (by rfl) _ _ w.heap.size 26 _ _ _ _ (by rfl) hr9 (by rfl) (by rfl) Try.underlying26 (by rfl) 3 (by rfl) (by kernel_rfl)) rfl ⟨by rw [E.out]; exact ⟨f1, _, g1, f2, _, g2, f3, _, g3, rfl, (HR2.out.l.upd hu9 (by omega)).mono (Nat.le_succ _)⟩, hu9.below HR2.out.i.old (Nat.le_refl _)⟩
                          · have E : Hid (replayRd l = ansErr U.rep.chk 0) := by show _ = _; rw [HLAST.out, if_neg hc]
                            have hcb : (U.rep.chk != 0) = true := bne_iff_ne.mpr hc
                            clear hc HLAST
                            have HRX : Hid (Rr w w2 L ad N cap) := HR2.out.i
                            have hr := HRX.out.r
                            generalize U.rep.chk = ck at *
                            go_wp2_with (refine wpList_bstore (by rfl) _ _ _ (by rfl) w.heap.size 26 (by rfl) _ _ (by rfl) hr 3 (by rfl) (by kernel_rfl) (by rfl) (by intro x hx; simp at hx; subst hx; rfl) ?_; intro w9 hr9 hu9)
                            exact bodyPost_ret (v := .tuple #[.agg (repC none 0 0 none 0 0 none 0 0).toArray, .int .i64 ck, .int .i64 0]) (results_box3 (by rfl) _ _ w.heap.size 26 _ _ _ _ (by rfl) hr9 (by rfl) (by rfl) Try.underlying26 (by rfl) 3 (by rfl) (by kernel_rfl)) rfl ⟨by rw [E.out]; exact ⟨none, 0, 0, none, 0, 0, none, 0, 0, rfl, Lists.nil _ _⟩, hu9.below HRX.out.old (Nat.le_refl _)⟩

end Go.Proofs.Ytdjpkgaicmklmaa

/- Strings appended to lists of bytes of the call's own; bytes as a string; lists of strings. -/
namespace Go.Proofs.Ytdjpkgaicmklmaa
open Go.RowKit

/-- Bytes as cells. -/
abbrev u8s (l : List UInt8) : List Value := l.map fun b => Value.int .u8 (b.toNat : Int)
theorem u8s_ints (l : List UInt8) : u8s l = (l.map fun b => (b.toNat : Int)).map (Value.int .u8) := by simp [u8s]
theorem byt_of_nat (b : UInt8) : byt (b.toNat : Int) = b := by simp [byt]
theorem bytes_ints (l : List UInt8) : (l.map fun b => (b.toNat : Int)).map byt = l := by
  rw [List.map_map]; conv => rhs; rw [← List.map_id l]
  exact List.map_congr_left (fun b _ => byt_of_nat b)
theorem strCells_str (c : List UInt8) : Lib.strCells (str c) = u8s c := by simp [Lib.strCells, str, u8s]

/-- Strings as cells. -/
abbrev strs (l : List (List UInt8)) : List Value := l.map fun s => Value.string (str s)
theorem strs_flat (l : List (List UInt8)) : (l.map fun s => [Value.string (str s)]).flatten = strs l := by
  induction l with
  | nil => rfl
  | cons a l ih => simp [strs] at ih ⊢; exact ih
theorem strs_lies {w : World} {B e : Nat} {ad : Option Addr} {n cap : Nat} {L : List (List UInt8)} (h : Vec w B e 1 ad n cap (strs L)) (hn : n = L.length) : Lies w ad n 1 (fun i => [.string (str (L.getD i []))]) := by
  rw [← strs_flat] at h
  refine Vec.lies (rows := L.map fun s => [Value.string (str s)]) h ?_ (by simp [hn]) _ ?_
  · intro r hr; obtain ⟨f, _, rfl⟩ := List.mem_map.1 hr; rfl
  · intro i hi; subst hn; simp [List.getD, hi]

theorem new_cellsD (w : World) (cs : List Value) (t : TypeId) : ∀ j u, cs[j]? = some u → (w.alloc (.cells cs.toArray t)).drew.cell? ((⟨w.heap.size, 0, none⟩ : Addr).add j) = some u := new_cells w cs t
theorem cells_below {X w' : World} (hb : Below X.heap.size X w') {b o : Nat} {cs : List Value} (h : ∀ j u, cs[j]? = some u → X.cell? ((⟨b, o, none⟩ : Addr).add j) = some u) (hl : b < X.heap.size) : ∀ j u, cs[j]? = some u → w'.cell? ((⟨b, o, none⟩ : Addr).add j) = some u := by
  intro j u hu
  rw [← h j u hu, addr_add]
  exact hb.cell (p := ⟨b, o + j, none⟩) hl
theorem wrap_u8 (i : Nat) (h : i < 256) : IntKind.u8.wrap (i : Int) = (i : Int) := by
  have e : (2 : Int) ^ IntKind.u8.bits = 256 := by decide
  have s : IntKind.u8.signed = false := rfl
  simp [IntKind.wrap, e, s]; omega

section
variable {P : Program} {w : World} {ops : Array Oper} {rest : List Oper} {o : Oper} {a : Act} {Q : Exit → Act → World → Prop}

/-- 'b = append(b, s...)', s a string. -/
theorem wpList_pushStr (hgd : o.guard = none) (s x : Operand) (t u : TypeId) (ho : o.op = .call { callee := .builtin .append, args := #[s, x], argTypes := #[t, u] })
    (B e : Nat) (ht : P.underlying t = some (.slice e)) (hu : P.underlying u = some .string) (hinfo : (P.info? e).map (fun i => (i.zero, i.size, i.bytes)) = some (some (.int .u8 0), 1, 1))
    (ad : Option Addr) (n cap : Nat) (ns c : List UInt8) (hs : a.eval s = .slice ad n cap) (hown : Vec w B e 1 ad n cap (u8s ns)) (hx : a.eval x = .string (str c))
    (hb : n + c.length ≤ 140737488355328) (hB : B ≤ w.heap.size) (N : Nat) (hN : n + c.length = N)
    (h : ∀ ad' cap' w', Vec w' B e 1 ad' N cap' (u8s (ns ++ c)) → Below B w w' → w.heap.size ≤ w'.heap.size → wpList P ops Q rest (a.put o.dst (.slice ad' N cap')) w') : wpList P ops Q (o :: rest) a w := by
  subst hN
  obtain ⟨i, hi, hzz⟩ := Option.map_eq_some_iff.1 hinfo
  simp only [Prod.mk.injEq] at hzz
  obtain ⟨hz, hsz, hby⟩ := hzz
  refine Lib.wpList_append_own_string w hgd s x t u ho B e i ht hu hi hz hsz hby (.slice ad n cap) n (u8s ns) hs hown (str c) hx (by rw [str_size]; unfold maxLen; omega) (by rw [str_size]; omega) hB ?_
  intro v' w' ho' hgr _
  have hbw : Below B w w' := (Below.refl _ _).grown hgr hB (fun k hk => (World.ownsRow.lt hown k hk).1)
  rw [str_size, strCells_str, ← List.map_append] at ho'
  rcases ho'.2 with ⟨hh, hz0⟩ | ⟨g, cap', cur, hh, hrest⟩
  · have hv : v' = .slice none (n + c.length) 0 := by rw [hh, hz0]
    rw [hv] at ho' ⊢
    exact h none 0 w' ho' hbw hgr.size
  · rw [hh] at ho' ⊢
    exact h _ cap' w' ho' hbw hgr.size

/-- 'string(b)' at a step of a region that draws its order. -/
theorem step_toString {K : Act → World → Prop} {E : Prop} (hgd : o.guard = none) (src dst e : TypeId) (x : Operand) (ho : o.op = .convert src dst x) (hs : P.underlying src = some (.slice e)) (he : P.underlying e = some (.int .u8)) (hd : P.underlying dst = some .string)
    (ad : Addr) (len cap : Nat) (hx : a.eval x = .slice (some ad) len cap) (ns : List Int) (hl : ns.length = len) (hc : ∀ j v, (ns.map (Value.int .u8))[j]? = some v → w.cell? (ad.add j) = some v)
    (h : K (a.put o.dst (.string (str (ns.map byt)))) w) : if Region.wanted o (yielded ops a.tmps) = true then Oper.wp P o a w K Q else E := by
  have hw : Region.wanted o (yielded ops a.tmps) = true := by simp [Region.wanted, hgd]
  rw [if_pos hw]
  have hrun := run_toString (P := P) w src dst e ad len cap ns hs he hd hl hc
  unfold Oper.wp
  simp [execOp, ho, hx, hrun, Result.andThen]
  exact h

/-- 'string(b)' of a list of bytes of the call's own, be it empty. -/
theorem wpList_toStr (hgd : o.guard = none) (src dst e : TypeId) (x : Operand) (ho : o.op = .convert src dst x) (hs : P.underlying src = some (.slice e)) (he : P.underlying e = some (.int .u8)) (hd : P.underlying dst = some .string)
    (B n cap : Nat) (ad : Option Addr) (hx : a.eval x = .slice ad n cap) (ns : List UInt8) (hown : Vec w B e 1 ad n cap (u8s ns))
    (h : wpList P ops Q rest (a.put o.dst (.string (str ns))) w) : wpList P ops Q (o :: rest) a w := by
  rw [u8s_ints] at hown
  rcases hown.2 with ⟨h2, hn⟩ | ⟨g, c, cur, hv, hB, hg, hnc, r⟩
  · simp at h2
    obtain ⟨rfl, rfl, rfl⟩ := h2
    have hl := hown.length
    have : ns = [] := List.eq_nil_of_length_eq_zero (by simpa using hl)
    subst this
    refine wpList_plain hgd fun K hK => ?_
    have hrun : (convert src dst (.slice none 0 0)).run P w = .ok (.string (str [])) w := by
      rw [run_convert_bytes_string w src dst e _ _ _ hs he hd]
      unfold Conv.bytesToString
      simp only [Sem.run_pure]
      rfl
    unfold Oper.wp
    simp [execOp, ho, hx, hrun, Result.andThen]
    exact hK _ _ h
  · simp at hv
    obtain ⟨rfl, rfl⟩ := hv
    refine wpList_toString hgd src dst e x ho hs he hd ⟨g, 0, none⟩ n cap hx (ns.map fun b => (b.toNat : Int)) (by have := hown.length; simpa using this) (World.ownsRow.cells hown rfl) ?_
    rw [bytes_ints]; exact h
end
end Go.Proofs.Ytdjpkgaicmklmaa

/- The program's Split and what it calls, walked. -/
namespace Go.Proofs.Ytdjpkgaicmklmaa
open Go.RowKit
attribute [local go_sem] str_size str_append mk_append_str str_append_mk

def strLen : Value → Nat
  | .string s => s.size
  | _ => 0
theorem cnt_is {m k i : Nat} (hm : 0 < m) (h1 : i = 0 ∨ i * m < k) (h2 : k ≤ (i + 1) * m) : cntB m k = i + 1 := by
  unfold cntB
  rw [Nat.add_mul] at h2
  by_cases hk : k ≤ m
  · rw [if_pos hk]
    rcases h1 with rfl | h1
    · rfl
    · rcases Nat.eq_zero_or_pos i with rfl | hi
      · rfl
      · have := Nat.mul_le_mul_right m hi; omega
  · rw [if_neg hk]
    have e1 : (i + 1) * m = i * m + m := by rw [Nat.add_mul, Nat.one_mul]
    have e2 : (i + 1 + 1) * m = i * m + m + m := by rw [Nat.add_mul, e1, Nat.one_mul]
    exact Nat.div_eq_of_lt_le (by rw [e1]; rcases h1 with rfl | h1 <;> omega) (by rw [e2]; omega)
theorem part_last {m i : Nat} {b : List UInt8} (h : b.length ≤ (i + 1) * m) : partB m i b = b.drop (i * m) := by
  unfold partB; rw [Nat.add_mul] at h; exact List.take_of_length_le (by simp; omega)

/-- The parts. -/
def partsB (m : Nat) (b : List UInt8) : List (List UInt8) := (List.range (cntB m b.length)).map fun i => partB m i b

set_option maxRecDepth 100000 in
set_option maxHeartbeats 4000000 in
theorem partsOf_any (b : List UInt8) (m : Nat) (w : World) (hb : b.length ≤ 6000) (hm : 26 ≤ m) (hm2 : m ≤ 4000) :
    Calls Try.prog 132 #[.string (str b), .int .i64 (m : Int)] w fun e w' => ∃ ad cap N, e = .returned (.slice ad N cap) ∧ N = cntB m b.length ∧ Vec w' w.heap.size 9 1 ad N cap (strs (partsB m b)) ∧ Below w.heap.size w w' := by
  have HB : Hid (b.length ≤ 6000) := hb
  have hV0 : Hid (Vec (w.alloc (.cells #[] 9)) w.heap.size 9 1 (some ⟨w.heap.size, 0, none⟩) 0 0 (strs [])) := Vec.lit w w.heap.size 9 1 0 [] (Nat.le_refl _) (by omega) rfl
  go_enter Try.func132, Try.ntmps132
  go_wp2_with fail
  go_loopw [0, 5] (fun u v wr => ∃ (i : Nat) (ad : Option Addr) (cap : Nat) (t : List UInt8), u = .string (str t) ∧ v = .slice ad i cap ∧ t = b.drop (i * m) ∧ (i = 0 ∨ i * m < b.length) ∧ i ≤ 6000 ∧ t.length ≤ 6000 ∧ Vec wr w.heap.size 9 1 ad i cap (strs ((List.range i).map fun k => partB m k b)) ∧ Below w.heap.size w wr) (fun u _ _ => strLen u)
  case atStart => exact ⟨0, _, _, b, rfl, rfl, by simp, Or.inl rfl, by omega, hb, hV0.out, (Below.refl _ _).alloc (Nat.le_refl _) _⟩
  case round =>
    obtain ⟨i, ad, cap, t, rfl, rfl, ht, hi, hi2, htl, hv, hbw⟩ := hrel
    have HT : Hid (t = b.drop (i * m)) := ht
    have HI : Hid (i = 0 ∨ i * m < b.length) := hi
    have hl : t.length = b.length - i * m := by rw [ht]; simp
    have HL : Hid (t.length = b.length - i * m) := hl
    have hz := hbw.size
    clear ht hi hl hb
    by_cases hlt : m < t.length
    · have hx1 : (str t).extract 0 m = str (partB m i b) := by rw [str_extract, HT.out]; simp [partB]
      have hx2 : (str t).extract m t.length = str (t.drop m) := by rw [str_extract, List.take_of_length_le (by simp)]
      have him : (i + 1) * m < b.length := by rw [Nat.add_mul]; have := HL.out; omega
      have hi3 : i + 1 ≤ 6000 := by
        have := Nat.le_mul_of_pos_right (i + 1) (show 0 < m by omega)
        have := HB.out; omega
      have HM : Hid ((i + 1) * m < b.length) := him
      clear him
      go_wp2_with (at_builtin; refine wpList_push (by rfl) _ _ 46 (by rfl) w.heap.size 9 1 16 (.string ⟨#[]⟩) Try.underlying46 (by kernel_rfl) rfl (by decide) ad i cap _ (by rfl) (hv.keep ((Below.refl _ _).alloc (Nat.le_refl _) _)) _ _ [.string (str (partB m i b))] (by rfl) rfl ?_ ?_ ?_ ?_ ?_ ?_; exact new_cells _ _ _; (simp [Value.oneCell']); (omega); (omega); (simp; omega); intro ad' cap' w' hv' hb' hs')
      have hb2 : Below w.heap.size w w' := (hbw.alloc hz _).trans hb'
      go_roundw
      case rel => exact ⟨i + 1, ad', cap', t.drop m, rfl, rfl, by rw [HT.out, List.drop_drop, Nat.add_mul]; congr 1; omega, Or.inr HM.out, hi3, by simp; omega, by rw [List.range_succ, List.map_append, strs, List.map_append]; exact hv', hb2⟩
      case measure => simp [strLen, str_size]; omega
    · have hle : b.length ≤ (i + 1) * m := by rw [Nat.add_mul]; have := HL.out; omega
      have HC : Hid (cntB m b.length = i + 1) := cnt_is (by omega) HI.out hle
      have HP : Hid (t = partB m i b) := by show _ = _; rw [part_last hle]; exact HT.out
      clear hle
      go_wp2_with (at_builtin; refine wpList_push (by rfl) _ _ 46 (by rfl) w.heap.size 9 1 16 (.string ⟨#[]⟩) Try.underlying46 (by kernel_rfl) rfl (by decide) ad i cap _ (by rfl) (hv.keep ((Below.refl _ _).alloc (Nat.le_refl _) _)) _ _ [.string (str t)] (by rfl) rfl ?_ ?_ ?_ ?_ ?_ ?_; exact new_cells _ _ _; (simp [Value.oneCell']); (omega); (omega); (simp; omega); intro ad' cap' w' hv' hb' hs')
      go_ret
      exact ⟨ad', cap', i + 1, rfl, HC.out.symm, by unfold partsB; rw [HC.out, List.range_succ, List.map_append, strs, List.map_append]; rw [HP.out] at hv'; exact hv', (hbw.alloc hz _).trans hb'⟩

/-- A volume's struct. -/
abbrev volS (i n : Int) (s p : List UInt8) : List Value := [.int .u8 i, .int .u8 n, .string (str s), .string (str p)]

set_option maxRecDepth 100000 in
set_option maxHeartbeats 4000000 in
theorem bytesOf_any (i n : Int) (C : Nat) (p : List UInt8) (w : World) (hp : p.length ≤ 8796093022000) :
    Calls Try.prog 133 #[.agg (volS i n (fourI C) p).toArray] w fun e w' => e = .returned (.string (str (volB i n C p))) ∧ Below w.heap.size w w' := by
  have E : Hid (86 :: 79 :: 76 :: 49 :: byt i :: byt n :: (fourI C ++ p) ++ fourI (crc pSum (86 :: 79 :: 76 :: 49 :: byt i :: byt n :: (fourI C ++ p))) = volB i n C p) := by show _ = _; unfold volB volH; simp
  have l4 : (fourI (C : Int)).length ≤ 4 := Nat.le_refl _
  generalize fourI (C : Int) = s at *
  have hb0 : Below w.heap.size w (w.alloc (.cells (volS i n s p).toArray 122)) := (Below.refl _ _).alloc (Nat.le_refl _) _
  have hb1 : Below w.heap.size w ((w.alloc (.cells (volS i n s p).toArray 122)).alloc (.cells #[.int .u8 i, .int .u8 n] 5)) := hb0.alloc hb0.size _
  have hBx := (Bx.new w 122 (volS i n s p).toArray).alloc (.cells #[.int .u8 i, .int .u8 n] 5)
  have c2 := hBx.cell 2
  have c3 := hBx.cell 3
  clear hBx hb0
  dsimp only [List.getElem?_cons_zero, List.getElem?_cons_succ] at c2 c3
  go_enter Try.func133, Try.ntmps133
  go_wp2_with (refine wpList_toString (by rfl) 126 9 5 _ (by rfl) Try.underlying126 Try.underlying5 Try.underlying9 _ _ _ (by rfl) [i, n] rfl ?_ ?_; exact new_cells2 _ _ _ _)
  generalize ((w.alloc (.cells (volS i n s p).toArray 122)).alloc (.cells #[.int .u8 i, .int .u8 n] 5)) = w1 at *
  clear c2 c3
  refine (sum_any (86 :: 79 :: 76 :: 49 :: byt i :: byt n :: (s ++ p)) _ (by simp; omega)).mono ?_
  rintro e w2 ⟨rfl, rfl⟩
  obtain ⟨c1, c2⟩ := crc_le pSum (by decide) (86 :: 79 :: 76 :: 49 :: byt i :: byt n :: (s ++ p))
  generalize crc pSum (86 :: 79 :: 76 :: 49 :: byt i :: byt n :: (s ++ p)) = C2 at *
  go_wp2_with fail
  refine (fourBytes_any _ _ c1 c2).mono ?_
  rintro e w3 ⟨rfl, hb3⟩
  have l5 : (fourI (C2 : Int)).length ≤ 4 := Nat.le_refl _
  generalize fourI (C2 : Int) = t at *
  go_wp2_with fail
  go_ret
  exact ⟨ret_str (by rw [← E.out]; simp), hb1.trans (hb3.mono hb1.size)⟩

/-- What Split answers. -/
def splitOk (b : List UInt8) (size : Int) : Prop := 40 ≤ size ∧ size ≤ 4000 ∧ b.length ≤ 6000
instance (b : List UInt8) (size : Int) : Decidable (splitOk b size) := by unfold splitOk; infer_instance
def splitL (b : List UInt8) (size : Int) : List (List UInt8) := if splitOk b size then volsB (size - 14).toNat b else []
def splitE (b : List UInt8) (size : Int) : Int := if splitOk b size then 0 else 12
theorem vols_take (m : Nat) (b : List UInt8) (i : Nat) (h : i < cntB m b.length) : (volsB m b).take (i + 1) = (volsB m b).take i ++ [volB i (cntB m b.length) (crc pSum b) (partB m i b)] := by
  rw [List.take_succ_eq_append_getElem (by rw [vols_len]; exact h)]
  congr 2
  have := vols_get m b i h
  rw [List.getD_eq_getElem?_getD, List.getElem?_eq_getElem (by rw [vols_len]; exact h)] at this
  exact this

set_option maxRecDepth 100000 in
set_option maxHeartbeats 4000000 in
theorem vsplit_any (b : List UInt8) (size : Int) (w : World) (hb : b.length ≤ 9223372036854775807) :
    Calls Try.prog 95 #[.string (str b), .int .i64 size] w fun e w' => ∃ ad cap N, e = .returned (.tuple #[.slice ad N cap, .int .i64 (splitE b size)]) ∧ N = (splitL b size).length ∧ Vec w' w.heap.size 9 1 ad N cap (strs (splitL b size)) ∧ Below w.heap.size w w' := by
  by_cases hok : splitOk b size
  · have HE : Hid (splitE b size = 0) := by show _ = _; simp [splitE, hok]
    obtain ⟨m, hm⟩ : ∃ m : Nat, size = (m : Int) + 14 := ⟨(size - 14).toNat, by have := hok.1; omega⟩
    have HL : Hid (splitL b size = volsB m b) := by show _ = _; unfold splitL; rw [if_pos hok, hm]; congr 1; omega
    obtain ⟨h1, h2, h3⟩ := hok
    subst hm
    have hm1 : 26 ≤ m := by omega
    have hm2 : m ≤ 4000 := by omega
    have hsub : ((m : Int) + 14 - 14) = (m : Int) := by omega
    have HM : Hid (26 ≤ m) := hm1
    have H3 : Hid (b.length ≤ 6000) := h3
    have hc := cnt_small m b.length hm1 h3
    have hc0 := cnt_pos m b.length (by omega)
    go_enter Try.func95, Try.ntmps95
    go_wp2_with fail
    refine (sum_any b _ (by omega)).mono ?_
    rintro e w1 ⟨rfl, hw1⟩
    have hb1 : Below w.heap.size w w1 := by rw [hw1]; exact Below.refl _ _
    clear hw1
    obtain ⟨c1, c2⟩ := crc_le pSum (by decide) b
    go_wp2_with fail
    refine (fourBytes_any _ _ c1 c2).mono ?_
    rintro e w2 ⟨rfl, hb2⟩
    go_wp2_with fail
    refine (partsOf_any b m _ H3.out hm1 hm2).mono ?_
    rintro e w3 ⟨ad3, cap3, N3, rfl, hN3, hv3, hb3⟩
    have hbw := hb1.trans ((hb2.trans (hb3.mono hb2.size)).mono hb1.size)
    have HN3 : Hid (N3 = cntB m b.length) := hN3
    have hN256 : N3 < 256 := by omega
    have HV3 : Hid (Vec w3 w.heap.size 9 1 ad3 N3 cap3 (strs (partsB m b))) := hv3.mono (Nat.le_trans hb1.size hb2.size)
    have HBW : Hid (Below w.heap.size w w3) := hbw
    obtain ⟨C, hC⟩ : ∃ C, C = crc pSum b := ⟨_, rfl⟩
    rw [← hC]
    have HC : Hid (crc pSum b = C) := hC.symm
    clear hC
    clear hv3 hbw hb1 hb2 hb3 c1 c2 hN3 hc hc0
    go_wp2_with fail
    go_loopw [9, 10, 11] (fun v u _ wr => ∃ (i : Nat) (ad : Option Addr) (cap : Nat), i ≤ N3 ∧ u = .int .i64 i ∧ v = .slice ad i cap ∧ Vec wr w3.heap.size 9 1 ad i cap (strs ((volsB m b).take i)) ∧ Below w3.heap.size w3 wr) (fun _ u _ _ => N3 - (intOf u).toNat)
    case atStart => exact ⟨0, _, _, by omega, rfl, rfl, Vec.lit w3 w3.heap.size 9 1 0 [] (Nat.le_refl _) (by omega) rfl, (Below.refl _ _).alloc (Nat.le_refl _) _⟩
    case round =>
      obtain ⟨i, ad, cap, hi, rfl, rfl, hv, hbr⟩ := hrel
      by_cases hlt : i < N3
      · obtain ⟨bb, o, hbl, hix, hcell⟩ := ((strs_lies HV3.out (by rw [HN3.out]; simp [partsB])).below hbr).at cap3 (P := Try.prog) (t := 46) (by kernel_rfl) (by kernel_rfl) hlt
        have hc0 : wr.cell? ⟨bb, o, none⟩ = some (.string (str ((partsB m b).getD i []))) := hcell 0 _ (by omega) rfl
        have hpi : (partsB m b).getD i [] = partB m i b := by
          have : i < cntB m b.length := by rw [← HN3.out]; exact hlt
          simp [partsB, List.getD, this]
        rw [hpi] at hc0
        have hpl : (partB m i b).length ≤ 6000 := by unfold partB; have := H3.out; simp; omega
        have HT : Hid ((volsB m b).take (i + 1) = (volsB m b).take i ++ [volB i N3 C (partB m i b)]) := by
          have := vols_take m b i (by rw [← HN3.out]; exact hlt)
          rw [HC.out, ← HN3.out] at this; exact this
        clear hcell hpi
        generalize partB m i b = p at *
        go_wp2_with fail
        refine (bytesOf_any (i : Int) (N3 : Int) C p _ (by omega)).mono ?_
        rintro e w5 ⟨rfl, hb5⟩
        have hv5 := hv.keep hb5
        have hbr5 := hbr.trans (hb5.mono hbr.size)
        have hz5 := hbr5.size
        clear hv hbr hb5
        generalize hV : volB (i : Int) (N3 : Int) C p = V at *
        clear hV
        go_wp2_with (at_builtin; refine wpList_push (by rfl) _ _ 46 (by rfl) w3.heap.size 9 1 16 (.string ⟨#[]⟩) Try.underlying46 (by kernel_rfl) rfl (by decide) ad i cap _ (by rfl) (hv5.keep ((Below.refl _ _).alloc (Nat.le_refl _) _)) _ _ [.string (str V)] (by rfl) rfl ?_ ?_ ?_ ?_ ?_ ?_; exact new_cells _ _ _; (simp [Value.oneCell']); (omega); (omega); (simp; omega); intro ad' cap' w' hv' hb' hs')
        go_roundw
        case rel => exact ⟨i + 1, ad', cap', by omega, by go_num, rfl, by rw [HT.out, strs, List.map_append]; exact hv', (hbr5.alloc hz5 _).trans hb'⟩
        case measure => simp [intOf]; omega
      · have e1 : i = N3 := by omega
        subst e1
        have HT : Hid ((volsB m b).take i = volsB m b) := List.take_of_length_le (by rw [vols_len, ← HN3.out]; exact Nat.le_refl _)
        go_wp2_with fail
        go_ret2
        exact ⟨ad, cap, i, by rw [HE.out]; rfl, by rw [HL.out, vols_len]; exact HN3.out, by rw [HL.out, ← HT.out]; exact hv.mono HBW.out.size, HBW.out.trans (hbr.mono HBW.out.size)⟩
  · have HE : Hid (splitE b size = 12) := by show _ = _; simp [splitE, hok]
    have HL : Hid (splitL b size = []) := by show _ = _; simp [splitL, hok]
    have hz := str_size b
    by_cases h1 : size < 40
    · clear hok hz
      go_enter Try.func95, Try.ntmps95
      go_wp2_with fail
      go_ret2
      refine ⟨none, 0, 0, by rw [HE.out]; rfl, by rw [HL.out]; rfl, by rw [HL.out]; exact Vec.nil _ _ _ _, Below.refl _ _⟩
    · by_cases h2 : 4000 < size
      · clear hok hz
        go_enter Try.func95, Try.ntmps95
        go_wp2_with fail
        go_ret2
        refine ⟨none, 0, 0, by rw [HE.out]; rfl, by rw [HL.out]; rfl, by rw [HL.out]; exact Vec.nil _ _ _ _, Below.refl _ _⟩
      · have h3 : 6000 < b.length := by
          rcases Nat.lt_or_ge 6000 b.length with h | h
          · exact h
          · exact absurd ⟨by omega, by omega, h⟩ hok
        clear hok hz
        go_enter Try.func95, Try.ntmps95
        go_wp2_with fail
        go_ret2
        refine ⟨none, 0, 0, by rw [HE.out]; rfl, by rw [HL.out]; rfl, by rw [HL.out]; exact Vec.nil _ _ _ _, Below.refl _ _⟩

set_option maxRecDepth 100000 in
set_option maxHeartbeats 4000000 in
theorem psplit_any (b : List UInt8) (size : Int) (w : World) (hb : b.length ≤ 9223372036854775807) :
    Calls Try.prog 52 #[.string (str b), .int .i64 size] w fun e w' => ∃ ad cap N, e = .returned (.tuple #[.slice ad N cap, .int .i64 (splitE b size)]) ∧ N = (splitL b size).length ∧ Vec w' w.heap.size 9 1 ad N cap (strs (splitL b size)) ∧ Below w.heap.size w w' := by
  go_enter Try.func52, Try.ntmps52
  go_wp2_with fail
  refine (vsplit_any b size _ hb).mono ?_
  rintro e w' ⟨ad, cap, N, rfl, rfl, h⟩
  go_wp2_with fail
  go_ret2
  exact ⟨ad, cap, _, rfl, rfl, h⟩
end Go.Proofs.Ytdjpkgaicmklmaa

/- The reference's Split, walked. -/
namespace Go.Proofs.Ytdjpkgaicmklmaa
open Go.RowKit
attribute [local go_sem] str_size str_append mk_append_str str_append_mk

set_option maxRecDepth 100000 in
set_option maxHeartbeats 4000000 in
theorem rhead_any (i n : Nat) (C : Nat) (w : World) (hi : i < 256) (hn : n < 256) (hC : C < 4294967296) :
    Calls Try.prog 96 #[.int .i64 (i : Int), .int .i64 (n : Int), .int .i64 (C : Int)] w fun e w' => e = .returned (.string (str (volH i n C []))) ∧ Below w.heap.size w w' := by
  have E : Hid (86 :: 79 :: 76 :: 49 :: byt i :: byt n :: fourI C = volH i n C []) := by show _ = _; unfold volH; simp
  have hwi : IntKind.u8.wrap (i : Int) = (i : Int) := wrap_u8 _ (by omega)
  have hwn : IntKind.u8.wrap (n : Int) = (n : Int) := wrap_u8 _ (by omega)
  have cv1 : ∀ w' : World, (convert 126 9 (.slice (some ⟨w'.heap.size, 0, none⟩) 2 2)).run Try.prog (w'.alloc (.cells #[.int .u8 (i : Int), .int .u8 (n : Int)] 5)).drew = .ok (.string (str [byt i, byt n])) (w'.alloc (.cells #[.int .u8 (i : Int), .int .u8 (n : Int)] 5)).drew :=
    fun w' => run_toString _ _ _ 5 _ _ _ [(i : Int), (n : Int)] Try.underlying126 Try.underlying5 Try.underlying9 rfl (new_cellsD _ _ _)
  have cv2 : ∀ w' : World, (convert 126 9 (.slice (some ⟨w'.heap.size, 0, none⟩) 2 2)).run Try.prog (w'.alloc (.cells #[.int .u8 (i : Int), .int .u8 (n : Int)] 5)) = .ok (.string (str [byt i, byt n])) (w'.alloc (.cells #[.int .u8 (i : Int), .int .u8 (n : Int)] 5)) :=
    fun w' => run_toString _ _ _ 5 _ _ _ [(i : Int), (n : Int)] Try.underlying126 Try.underlying5 Try.underlying9 rfl (new_cells _ _ _)
  have hf4 : (fourI (C : Int)).length = 4 := rfl
  go_enter Try.func96, Try.ntmps96
  go_wp2_with fail
  go_region_law (go_simp; go_at_call 60; refine (rfour_any _ _ (by omega) (by omega)).mono ?_; rintro e w' ⟨rfl, hb'⟩; dsimp only; (try have cv3 : (convert 126 9 (.slice (some ⟨w.heap.size, 0, none⟩) 2 2)).run Try.prog w' = .ok (.string (str [byt i, byt n])) w' := run_toString _ _ _ 5 _ _ _ [(i : Int), (n : Int)] Try.underlying126 Try.underlying5 Try.underlying9 rfl (cells_below hb' (new_cellsD _ _ _) (by simp))))
  all_goals
    go_wp2_with fail
    go_ret
    refine ⟨ret_str E.out, ?_⟩
    first
      | exact ((((Below.refl _ _).alloc (Nat.le_refl _) _).drew).trans (hb'.mono (by simp)))
      | exact ((Below.refl _ _).drew.trans hb').alloc hb'.size _

set_option maxRecDepth 100000 in
set_option maxHeartbeats 4000000 in
theorem rsplit_any (b : List UInt8) (size : Int) (w : World) (hb : b.length ≤ 9223372036854775807) :
    Calls Try.prog 53 #[.string (str b), .int .i64 size] w fun e w' => ∃ ad cap N, e = .returned (.tuple #[.slice ad N cap, .int .i64 (splitE b size)]) ∧ N = (splitL b size).length ∧ Vec w' w.heap.size 9 1 ad N cap (strs (splitL b size)) ∧ Below w.heap.size w w' := by
  by_cases hok : splitOk b size
  · have HE : Hid (splitE b size = 0) := by show _ = _; simp [splitE, hok]
    obtain ⟨m, hm⟩ : ∃ m : Nat, size = (m : Int) + 14 := ⟨(size - 14).toNat, by have := hok.1; omega⟩
    have HL : Hid (splitL b size = volsB m b) := by show _ = _; unfold splitL; rw [if_pos hok, hm]; congr 1; omega
    obtain ⟨h1, h2, h3⟩ := hok
    subst hm
    have hm1 : 26 ≤ m := by omega
    have hm2 : m ≤ 4000 := by omega
    have hsub : ((m : Int) + 14 - 14) = (m : Int) := by omega
    have H3 : Hid (b.length ≤ 6000) := h3
    obtain ⟨N, hN⟩ : ∃ N, N = cntB m b.length := ⟨_, rfl⟩
    have hc := cnt_small m b.length hm1 h3
    have hc0 := cnt_pos m b.length (by omega)
    have HG : Hid (b.length ≤ N * m) := by show _ ≤ _; rw [hN]; exact cnt_ge m b.length (by omega)
    rw [← hN] at hc hc0
    have HN : Hid (N = cntB m b.length) := hN
    clear hN
    go_enter Try.func53, Try.ntmps53
    go_wp2_with fail
    go_loopw [6] (fun u wr => ∃ k : Nat, 1 ≤ k ∧ k ≤ N ∧ u = .int .i64 k ∧ (k = 1 ∨ (k - 1) * m < b.length) ∧ wr = w) (fun u _ => N - (intOf u).toNat)
    case atStart => exact ⟨1, by omega, by omega, rfl, Or.inl rfl, rfl⟩
    case round =>
      obtain ⟨k, hk1, hk2, rfl, hk3, hw⟩ := hrel
      have HW : Hid (wr = w) := hw
      have HK : Hid (k = 1 ∨ (k - 1) * m < b.length) := hk3
      obtain ⟨q, hq⟩ : ∃ q, q = k * m := ⟨_, rfl⟩
      have hqi : (k : Int) * (m : Int) = (q : Int) := by rw [hq]; simp
      have hqb : q ≤ 1024000 := by rw [hq]; exact Nat.le_trans (Nat.mul_le_mul (show k ≤ 256 by omega) hm2) (by omega)
      have HQ : Hid (q = k * m) := hq
      clear hw hk3 hq
      by_cases hlt : q < b.length
      · have hkN : k < N := by
          rcases Nat.lt_or_ge k N with h | h
          · exact h
          · have := Nat.mul_le_mul_right m h; have := HG.out; have := HQ.out; omega
        go_wp2_with fail
        go_roundw
        case rel => exact ⟨k + 1, by omega, by omega, by go_num, Or.inr (by rw [Nat.add_sub_cancel, ← HQ.out]; exact hlt), HW.out⟩
        case measure => simp [intOf]; omega
      · have e1 : k = N := by
          have := cnt_is (m := m) (k := b.length) (i := k - 1) (by omega) (by rcases HK.out with h | h; (left; omega); (right; exact h)) (by rw [Nat.sub_add_cancel hk1, ← HQ.out]; omega)
          rw [HN.out, this]; omega
        subst e1
        go_wp2_with fail
        refine (rsum_any b _ (by omega)).mono ?_
        rintro e w1 ⟨rfl, hb1⟩
        have HB1 : Hid (Below w.heap.size w w1) := by rw [HW.out] at hb1; exact hb1
        have hcl := crc_lt (p := pSum) (by decide) b
        obtain ⟨C, hC⟩ : ∃ C, C = crc pSum b := ⟨_, rfl⟩
        rw [← hC] at hcl ⊢
        have HC : Hid (crc pSum b = C) := hC.symm
        clear hC hb1
        go_wp2_with fail
        go_loopw [0, 8, 9, 10, 11, 12] (fun x v u _ _ _ wr => ∃ (i : Nat) (ad : Option Addr) (cap : Nat) (t : List UInt8), i ≤ k ∧ x = .string (str t) ∧ t = b.drop (i * m) ∧ t.length ≤ 6000 ∧ u = .int .i64 i ∧ v = .slice ad i cap ∧ Vec wr w.heap.size 9 1 ad i cap (strs ((volsB m b).take i)) ∧ Below w.heap.size w wr) (fun _ _ u _ _ _ _ => k - (intOf u).toNat)
        case atStart => exact ⟨0, _, _, b, by omega, rfl, by simp, H3.out, rfl, rfl, Vec.nil _ _ _ _, HB1.out⟩
        case round =>
          obtain ⟨i, ad, cap, t, hi, rfl, ht, htl, rfl, rfl, hv, hbr⟩ := hrel
          have HT : Hid (t = b.drop (i * m)) := ht
          clear ht
          by_cases hlt : i < k
          · have HV : Hid ((volsB m b).take (i + 1) = (volsB m b).take i ++ [volB i k C (partB m i b)]) := by
              have := vols_take m b i (by rw [← HN.out]; exact hlt)
              rw [HC.out, ← HN.out] at this; exact this
            have HX : Hid (t.drop m = b.drop ((i + 1) * m)) := by show _ = _; rw [HT.out, List.drop_drop, Nat.add_mul]; congr 1; omega
            have HP : Hid (partB m i b = t.take m) := by show _ = _; rw [HT.out]; rfl
            by_cases hm3 : m < t.length
            · have hx1 : (str t).extract 0 m = str (t.take m) := by rw [str_extract]; simp
              have htm : (t.take m).length = m := by simp; omega
              have hx2 : (str t).extract m t.length = str (t.drop m) := by rw [str_extract, List.take_of_length_le (by simp)]
              have HX2 : Hid (t.drop m = b.drop ((i + 1) * m)) := HX.out
              have HP2 : Hid (partB m i b = t.take m) := HP.out
              go_wp2_with fail
              refine (rhead_any i k C _ (by omega) (by omega) hcl).mono ?_
              rintro e w5 ⟨rfl, hb5⟩
              have hv5 := hv.keep hb5
              have hbr5 := hbr.trans (hb5.mono hbr.size)
              clear hv hbr hb5
              have hhl : (volH (i : Int) (k : Int) C []).length = 10 := by rw [volH_len]; rfl
              have HH : Hid (volH (i : Int) (k : Int) C [] ++ t.take m = volH (i : Int) (k : Int) C (t.take m)) := by show _ = _; unfold volH; simp
              have hpl : (t.take m).length ≤ 6000 := by omega
              generalize volH (i : Int) (k : Int) C [] = H at *
              generalize t.take m = p at *
              go_wp2_with fail
              refine (rsum_any (H ++ p) _ (by simp; omega)).mono ?_
              rintro e w6 ⟨rfl, hb6⟩
              have hv6 := hv5.keep hb6
              have hbr6 := hbr5.trans (hb6.mono hbr5.size)
              clear hv5 hbr5 hb6
              obtain ⟨c1, c2⟩ := crc_le pSum (by decide) (H ++ p)
              have HV2 : Hid (volB (i : Int) (k : Int) C p = H ++ p ++ fourI (crc pSum (H ++ p))) := by show _ = _; unfold volB; rw [HH.out]
              generalize crc pSum (H ++ p) = C6 at *
              go_wp2_with fail
              refine (rfour_any _ _ c1 c2).mono ?_
              rintro e w7 ⟨rfl, hb7⟩
              have hv7 := hv6.keep hb7
              have hbr7 := hbr6.trans (hb7.mono hbr6.size)
              have hz7 := hbr7.size
              have hf4 : (fourI (C6 : Int)).length ≤ 4 := Nat.le_refl _
              generalize fourI (C6 : Int) = f4 at *
              clear hv6 hbr6 hb7 c1 c2
              go_wp2_with (at_builtin; refine wpList_push (by rfl) _ _ 46 (by rfl) w.heap.size 9 1 16 (.string ⟨#[]⟩) Try.underlying46 (by kernel_rfl) rfl (by decide) ad i cap _ (by rfl) (hv7.keep ((Below.refl _ _).alloc (Nat.le_refl _) _)) _ _ [.string (str (H ++ (p ++ f4)))] (by rfl) rfl ?_ ?_ ?_ ?_ ?_ ?_; exact new_cells _ _ _; (simp [Value.oneCell']); (omega); (omega); (simp; omega); intro ad' cap' w' hv' hb' hs')
              go_roundw
              case rel => exact ⟨i + 1, ad', cap', t.drop m, by omega, rfl, HX2.out, by simp; omega, by go_num, rfl, by rw [HV.out, HP2.out, HV2.out, strs, List.map_append, List.append_assoc]; exact hv', (hbr7.alloc hz7 _).trans hb'⟩
              case measure => simp [intOf]; omega
            · have hx2 : (str t).extract t.length t.length = str [] := by rw [str_extract]; simp
              have HX2 : Hid ([] = b.drop ((i + 1) * m)) := by show _ = _; rw [← HX.out, List.drop_of_length_le (by omega)]
              have HP2 : Hid (partB m i b = t) := by show _ = _; rw [HP.out, List.take_of_length_le (by omega)]
              go_wp2_with fail
              refine (rhead_any i k C _ (by omega) (by omega) hcl).mono ?_
              rintro e w5 ⟨rfl, hb5⟩
              have hv5 := hv.keep hb5
              have hbr5 := hbr.trans (hb5.mono hbr.size)
              clear hv hbr hb5
              have hhl : (volH (i : Int) (k : Int) C []).length = 10 := by rw [volH_len]; rfl
              have HH : Hid (volH (i : Int) (k : Int) C [] ++ t = volH (i : Int) (k : Int) C t) := by show _ = _; unfold volH; simp
              have hpl : (t).length ≤ 6000 := by omega
              generalize volH (i : Int) (k : Int) C [] = H at *
              generalize hpt : t = p at *
              go_wp2_with fail
              refine (rsum_any (H ++ p) _ (by simp; omega)).mono ?_
              rintro e w6 ⟨rfl, hb6⟩
              have hv6 := hv5.keep hb6
              have hbr6 := hbr5.trans (hb6.mono hbr5.size)
              clear hv5 hbr5 hb6
              obtain ⟨c1, c2⟩ := crc_le pSum (by decide) (H ++ p)
              have HV2 : Hid (volB (i : Int) (k : Int) C p = H ++ p ++ fourI (crc pSum (H ++ p))) := by show _ = _; unfold volB; rw [HH.out]
              generalize crc pSum (H ++ p) = C6 at *
              go_wp2_with fail
              refine (rfour_any _ _ c1 c2).mono ?_
              rintro e w7 ⟨rfl, hb7⟩
              have hv7 := hv6.keep hb7
              have hbr7 := hbr6.trans (hb7.mono hbr6.size)
              have hz7 := hbr7.size
              have hf4 : (fourI (C6 : Int)).length ≤ 4 := Nat.le_refl _
              generalize fourI (C6 : Int) = f4 at *
              clear hv6 hbr6 hb7 c1 c2
              go_wp2_with (at_builtin; refine wpList_push (by rfl) _ _ 46 (by rfl) w.heap.size 9 1 16 (.string ⟨#[]⟩) Try.underlying46 (by kernel_rfl) rfl (by decide) ad i cap _ (by rfl) (hv7.keep ((Below.refl _ _).alloc (Nat.le_refl _) _)) _ _ [.string (str (H ++ (p ++ f4)))] (by rfl) rfl ?_ ?_ ?_ ?_ ?_ ?_; exact new_cells _ _ _; (simp [Value.oneCell']); (omega); (omega); (simp; omega); intro ad' cap' w' hv' hb' hs')
              go_roundw
              case rel => exact ⟨i + 1, ad', cap', [], by omega, rfl, HX2.out, by simp, by go_num, rfl, by rw [HV.out, HP2.out, HV2.out, strs, List.map_append, List.append_assoc]; exact hv', (hbr7.alloc hz7 _).trans hb'⟩
              case measure => simp [intOf]; omega
          · have e1 : i = k := by omega
            subst e1
            have HT2 : Hid ((volsB m b).take i = volsB m b) := List.take_of_length_le (by rw [vols_len, ← HN.out]; exact Nat.le_refl _)
            go_wp2_with fail
            go_ret2
            exact ⟨ad, cap, i, by rw [HE.out]; rfl, by rw [HL.out, vols_len]; exact HN.out, by rw [HL.out, ← HT2.out]; exact hv, hbr⟩
  · have HE : Hid (splitE b size = 12) := by show _ = _; simp [splitE, hok]
    have HL : Hid (splitL b size = []) := by show _ = _; simp [splitL, hok]
    by_cases h1 : size < 40
    · clear hok
      go_enter Try.func53, Try.ntmps53
      go_wp2_with fail
      go_ret2
      exact ⟨none, 0, 0, by rw [HE.out]; rfl, by rw [HL.out]; rfl, by rw [HL.out]; exact Vec.nil _ _ _ _, Below.refl _ _⟩
    · by_cases h2 : 4000 < size
      · clear hok
        go_enter Try.func53, Try.ntmps53
        go_wp2_with fail
        go_ret2
        exact ⟨none, 0, 0, by rw [HE.out]; rfl, by rw [HL.out]; rfl, by rw [HL.out]; exact Vec.nil _ _ _ _, Below.refl _ _⟩
      · have h3 : 6000 < b.length := by
          rcases Nat.lt_or_ge 6000 b.length with h | h
          · exact h
          · exact absurd ⟨by omega, by omega, h⟩ hok
        clear hok
        go_enter Try.func53, Try.ntmps53
        go_wp2_with fail
        go_ret2
        exact ⟨none, 0, 0, by rw [HE.out]; rfl, by rw [HL.out]; rfl, by rw [HL.out]; exact Vec.nil _ _ _ _, Below.refl _ _⟩
end Go.Proofs.Ytdjpkgaicmklmaa

/- Is it a volume? volumes.volumeOf and parcelref.volume, walked. -/
namespace Go.Proofs.Ytdjpkgaicmklmaa
open Go.RowKit

/-- A volume's struct, by its bytes; the empty one. -/
abbrev voC (s : List UInt8) : List Value := volS (numV s) (cntV s) (sumV s) (bodyV s)
abbrev vo0 : List Value := [.int .u8 0, .int .u8 0, .string ⟨#[]⟩, .string ⟨#[]⟩]
def voOf (s : List UInt8) : List Value := if volOk s then voC s else vo0
theorem voOf_ok {s : List UInt8} (h : volOk s = true) : voOf s = voC s := by simp [voOf, h]
theorem voOf_no {s : List UInt8} (h : volOk s = false) : voOf s = vo0 := by simp [voOf, h]
theorem volOk_short {s : List UInt8} (h : s.length < 14) : volOk s = false := by simp [volOk]; intro h2; omega
theorem volOk_magic {s : List UInt8} (h : s.take 4 ≠ [86, 79, 76, 49]) : volOk s = false := by
  have : (s.take 4 == [86, 79, 76, 49]) = false := by rw [beq_eq_false_iff_ne]; exact h
  simp [volOk, this]
theorem volOk_num {s : List UInt8} (h : cntV s ≤ numV s) : volOk s = false := by
  have : decide (numV s < cntV s) = false := by rw [decide_eq_false_iff_not]; omega
  simp [volOk, this]
theorem volOk_sum {s : List UInt8} (h1 : 14 ≤ s.length) (h2 : s.take 4 = [86, 79, 76, 49]) (h3 : numV s < cntV s) : volOk s = (fourI (crc pSum (s.take (s.length - 4))) == s.drop (s.length - 4)) := by
  simp [volOk, h1, h2, h3]
theorem at_num {s : List UInt8} (h : 4 < (str s).size) : ((str s)[4]'h).toNat = numV s := by
  have : 4 < s.length := by rw [str_size] at h; exact h
  unfold numV; rw [List.getD_eq_getElem?_getD, List.getElem?_eq_getElem this]; rfl
theorem at_cnt {s : List UInt8} (h : 5 < (str s).size) : ((str s)[5]'h).toNat = cntV s := by
  have : 5 < s.length := by rw [str_size] at h; exact h
  unfold cntV; rw [List.getD_eq_getElem?_getD, List.getElem?_eq_getElem this]; rfl
theorem numV_lt (s : List UInt8) : numV s < 256 := UInt8.toNat_lt _
theorem cntV_lt (s : List UInt8) : cntV s < 256 := UInt8.toNat_lt _

set_option maxRecDepth 100000 in
set_option maxHeartbeats 4000000 in
theorem rvolume_any (s : List UInt8) (w : World) (hs : s.length ≤ 1099511627776) :
    Calls Try.prog 57 #[.string (str s)] w fun e w' => e = .returned (.bool (volOk s)) ∧ Below w.heap.size w w' := by
  have hz := str_size s
  have HZ : Hid ((str s).size = s.length) := hz
  have hbb : (str s).size ≤ 1099511627776 := by omega
  by_cases h14 : (str s).size < 14
  · have HN : Hid (volOk s = false) := volOk_short (by omega)
    have d1 : decide (((str s).size : Int) < 14) = true := by simp; omega
    clear hz
    go_enter Try.func57, Try.ntmps57
    go_wp2_with fail
    go_quiet (fail)
    go_wp2_with fail
    go_ret
    exact ⟨by rw [HN.out]; rfl, below_drewN (Below.refl _ _) _⟩
  · have x0 : (str s).extract 0 4 = str (s.take 4) := by rw [str_extract]; simp
    have d1 : decide (((str s).size : Int) < 14) = false := by simp; omega
    have q4 : (4 : Int) ≤ ((str s).size : Int) := by omega
    have q4' : 4 ≤ (str s).size := by omega
    by_cases hm : s.take 4 = [86, 79, 76, 49]
    · have hmk : ((str (s.take 4)).toList == [86, 79, 76, 49]) = true := by rw [str_toList, hm]; rfl
      have l4 : 4 < (str s).size := by omega
      have l5 : 5 < (str s).size := by omega
      have e4 := at_num l4
      have e5 := at_cnt l5
      have n4 := numV_lt s
      have n5 := cntV_lt s
      by_cases hn : cntV s ≤ numV s
      · have HN : Hid (volOk s = false) := volOk_num hn
        have d2 : decide ((numV s : Int) ≥ (cntV s : Int)) = true := by simp; omega
        clear hz hm
        go_enter Try.func57, Try.ntmps57
        go_wp2_with fail
        go_quiet (fail)
        go_wp2_with fail
        go_ret
        exact ⟨by rw [HN.out]; rfl, below_drewN (Below.refl _ _) _⟩
      · obtain ⟨n, hn4⟩ : ∃ n, (str s).size = n + 4 := ⟨(str s).size - 4, by omega⟩
        have d2 : decide ((numV s : Int) ≥ (cntV s : Int)) = false := by simp; omega
        have hsl : s.length - 4 = n := by omega
        have HN : Hid (volOk s = (fourI (crc pSum (s.take n)) == s.drop n)) := by
          have := volOk_sum (by omega) hm (show numV s < cntV s by omega); rw [hsl] at this; exact this
        have hx1 : (str s).extract 0 n = str (s.take n) := by rw [str_extract]; simp
        have hx2 : (str s).extract n (n + 4) = str (s.drop n) := by rw [str_extract, List.take_of_length_le (by simp; omega)]
        have hsub : ((n : Int) + 4 - 4) = (n : Int) := by omega
        have hlt : (s.take n).length ≤ 1099511627776 := by simp; omega
        have HN4 : Hid ((str s).size = n + 4) := hn4
        have HX2 : Hid ((str s).extract n (n + 4) = str (s.drop n)) := hx2
        clear hz hm hsl hn4 hx2
        go_enter Try.func57, Try.ntmps57
        go_wp2_with fail
        go_quiet (fail)
        have hn4 := HN4.out
        have hx2 := HX2.out
        clear d1 d2 q4 q4' h14 e4 e5
        go_wp2_with fail
        refine (rsum_any (s.take n) _ (by omega)).mono ?_
        rintro e w1 ⟨rfl, hb1⟩
        obtain ⟨c1, c2⟩ := crc_le pSum (by decide) (s.take n)
        go_wp2_with fail
        refine (rfour_any _ _ c1 c2).mono ?_
        rintro e w2 ⟨rfl, hb2⟩
        go_wp2_with fail
        go_ret
        refine ⟨?_, ?_⟩
        · have e1 := HN.out
          rw [← str_beq] at e1
          rw [e1]; rfl
        · have h0 := below_drewN (Below.refl w.heap.size w) nq
          have h1 := h0.trans (hb1.mono h0.size)
          exact h1.trans (hb2.mono h1.size)
    · have hmk : ((str (s.take 4)).toList == [86, 79, 76, 49]) = false := by rw [str_toList, beq_eq_false_iff_ne]; exact hm
      have HN : Hid (volOk s = false) := volOk_magic hm
      clear hz hm
      go_enter Try.func57, Try.ntmps57
      go_wp2_with fail
      go_quiet (fail)
      go_wp2_with fail
      go_ret
      exact ⟨by rw [HN.out]; rfl, below_drewN (Below.refl _ _) _⟩

set_option maxRecDepth 100000 in
set_option maxHeartbeats 4000000 in
theorem volumeOf_any (s : List UInt8) (w : World) (hs : s.length ≤ 1099511627776) :
    Calls Try.prog 134 #[.string (str s)] w fun e w' => e = .returned (.tuple #[.agg (voOf s).toArray, .bool (volOk s)]) ∧ Below w.heap.size w w' := by
  have hz := str_size s
  have HZ : Hid ((str s).size = s.length) := hz
  have hbb : (str s).size ≤ 1099511627776 := by omega
  obtain ⟨hR, hW, hB⟩ := one_box w 122 #[.int .u8 0, .int .u8 0, .string ⟨#[]⟩, .string ⟨#[]⟩]
  by_cases h14 : (str s).size < 14
  · have HN : Hid (volOk s = false) := volOk_short (by omega)
    have d1 : decide (((str s).size : Int) < 14) = true := by simp; omega
    clear hz
    go_enter Try.func134, Try.ntmps134
    go_wp2_with fail
    go_quiet (fail)
    replace hR := hR.drewN nq
    replace hB := below_drewN hB nq
    generalize (w.alloc (.cells #[.int .u8 0, .int .u8 0, .string ⟨#[]⟩, .string ⟨#[]⟩] 122)).drewN nq = W at *
    go_wp2_with (refine wpList_bstore (by rfl) _ _ _ (by rfl) w.heap.size 122 (by rfl) _ _ (by rfl) hR 4 (by rfl) (by kernel_rfl) (by rfl) (by intro x hx; simp at hx; rcases hx with rfl | rfl | rfl | rfl <;> rfl) ?_; intro w9 hR9 hU9; replace hR := hR9; replace hB := hU9.below hB (Nat.le_refl _); clear hR9 hU9)
    exact bodyPost_ret (v := .tuple #[.agg vo0.toArray, .bool false]) (results_box2 (by rfl) _ _ w.heap.size 122 _ _ _ (by rfl) hR (by rfl) Try.underlying122 (by rfl) 4 (by rfl) (by kernel_rfl)) rfl ⟨by rw [HN.out, voOf_no HN.out], hB⟩
  · have x0 : (str s).extract 0 4 = str (s.take 4) := by rw [str_extract]; simp
    have d1 : decide (((str s).size : Int) < 14) = false := by simp; omega
    have q4 : (4 : Int) ≤ ((str s).size : Int) := by omega
    have q4' : 4 ≤ (str s).size := by omega
    by_cases hm : s.take 4 = [86, 79, 76, 49]
    · have hmk : ((str (s.take 4)).toList == [86, 79, 76, 49]) = true := by rw [str_toList, hm]; rfl
      have l4 : 4 < (str s).size := by omega
      have l5 : 5 < (str s).size := by omega
      have e4 := at_num l4
      have e5 := at_cnt l5
      have n4 := numV_lt s
      have n5 := cntV_lt s
      by_cases hn : cntV s ≤ numV s
      · have HN : Hid (volOk s = false) := volOk_num hn
        have d2 : decide ((numV s : Int) ≥ (cntV s : Int)) = true := by simp; omega
        clear hz hm
        go_enter Try.func134, Try.ntmps134
        go_wp2_with fail
        go_quiet (fail)
        replace hR := hR.drewN nq
        replace hB := below_drewN hB nq
        generalize (w.alloc (.cells #[.int .u8 0, .int .u8 0, .string ⟨#[]⟩, .string ⟨#[]⟩] 122)).drewN nq = W at *
        go_wp2_with (refine wpList_bstore (by rfl) _ _ _ (by rfl) w.heap.size 122 (by rfl) _ _ (by rfl) hR 4 (by rfl) (by kernel_rfl) (by rfl) (by intro x hx; simp at hx; rcases hx with rfl | rfl | rfl | rfl <;> rfl) ?_; intro w9 hR9 hU9; replace hR := hR9; replace hB := hU9.below hB (Nat.le_refl _); clear hR9 hU9)
        exact bodyPost_ret (v := .tuple #[.agg vo0.toArray, .bool false]) (results_box2 (by rfl) _ _ w.heap.size 122 _ _ _ (by rfl) hR (by rfl) Try.underlying122 (by rfl) 4 (by rfl) (by kernel_rfl)) rfl ⟨by rw [HN.out, voOf_no HN.out], hB⟩
      · obtain ⟨n, hn4⟩ : ∃ n, (str s).size = n + 4 := ⟨(str s).size - 4, by omega⟩
        have d2 : decide ((numV s : Int) ≥ (cntV s : Int)) = false := by simp; omega
        have hsl : s.length - 4 = n := by omega
        have HN : Hid (volOk s = (fourI (crc pSum (s.take n)) == s.drop n)) := by
          have := volOk_sum (by omega) hm (show numV s < cntV s by omega); rw [hsl] at this; exact this
        have hx1 : (str s).extract 0 n = str (s.take n) := by rw [str_extract]; simp
        have hx2 : (str s).extract n (n + 4) = str (s.drop n) := by rw [str_extract, List.take_of_length_le (by simp; omega)]
        have hx3 : (str s).extract 6 10 = str (sumV s) := by rw [str_extract]; rfl
        have hx4 : (str s).extract 10 n = str (bodyV s) := by rw [str_extract]; unfold bodyV; rw [show n - 10 = s.length - 14 by omega]
        have hsub : ((n : Int) + 4 - 4) = (n : Int) := by omega
        have hlt : (s.take n).length ≤ 1099511627776 := by simp; omega
        have h10 : 10 ≤ n := by omega
        have HN4 : Hid ((str s).size = n + 4) := hn4
        have HX2 : Hid ((str s).extract n (n + 4) = str (s.drop n)) := hx2
        clear hz hm hsl hn4 hx2
        go_enter Try.func134, Try.ntmps134
        go_wp2_with fail
        go_quiet (fail)
        replace hR := hR.drewN nq
        replace hB := below_drewN hB nq
        generalize (w.alloc (.cells #[.int .u8 0, .int .u8 0, .string ⟨#[]⟩, .string ⟨#[]⟩] 122)).drewN nq = W at *
        have hn4 := HN4.out
        have hx2 := HX2.out
        clear d1 d2 q4 q4' h14
        go_wp2_with fail
        refine (sum_any (s.take n) _ (by omega)).mono ?_
        rintro e w1 ⟨rfl, hw1⟩
        subst hw1
        obtain ⟨c1, c2⟩ := crc_le pSum (by decide) (s.take n)
        have hle2 : (n : Int) ≤ (n : Int) + 4 := by omega
        have h10' : (10 : Int) ≤ (n : Int) := by omega
        have h10a : (10 : Int) ≤ (n : Int) + 4 := by omega
        have h4a : (4 : Int) < (n : Int) + 4 := by omega
        have h5a : (5 : Int) < (n : Int) + 4 := by omega
        generalize hW1 : w1 = W1 at *
        clear hW1
        by_cases hq : fourI (crc pSum (s.take n)) = s.drop n
        · have hqb : ((str (s.drop n)).toList == (str (fourI (crc pSum (s.take n)))).toList) = true := by rw [str_beq, hq]; simp
          replace HN : Hid (volOk s = true) := by show _ = _; rw [HN.out, hq]; simp
          clear hq
          go_wp2_with fail
          go_region_law (go_simp; go_at_call 84; refine (fourBytes_any _ _ c1 c2).mono ?_; rintro e w' ⟨rfl, hb'⟩; dsimp only)
          have hD := below_drewN (Below.refl W1.heap.size W1) 1
          replace hb' := hD.trans (hb'.mono hD.size)
          replace hR := hR.below hb' hR.lt
          replace hB := hB.trans (hb'.mono hB.size)
          clear hb' hD
          have z0 := hR.cell 0
          have z1 := hR.cell 1
          have z2 := hR.cell 2
          have z3 := hR.cell 3
          dsimp only [List.getElem?_cons_zero, List.getElem?_cons_succ] at z0 z1 z2 z3
          have f0 := hR.frozen 0
          have f1 := hR.frozen 1
          have f2 := hR.frozen 2
          have f3 := hR.frozen 3
          go_wp2_with fail
          go_region_law (fail)
          all_goals
            go_wp2_with fail
            have hR' := ((((hR.drewN 1).setCell 0 (.int .u8 (numV s))).setCell 1 (.int .u8 (cntV s))).setCell 2 (.string (str (sumV s)))).setCell 3 (.string (str (bodyV s)))
            have hU := (((((Upd.refl w.heap.size w').drew).setCell ⟨w.heap.size, 0, none⟩ rfl (.int .u8 (numV s))).setCell ⟨w.heap.size, 1, none⟩ rfl (.int .u8 (cntV s))).setCell ⟨w.heap.size, 2, none⟩ rfl (.string (str (sumV s)))).setCell ⟨w.heap.size, 3, none⟩ rfl (.string (str (bodyV s)))
            exact bodyPost_ret (v := .tuple #[.agg (voC s).toArray, .bool true]) (results_box2 (by rfl) _ _ w.heap.size 122 _ _ _ (by rfl) hR' (by rfl) Try.underlying122 (by rfl) 4 (by rfl) (by kernel_rfl)) rfl ⟨by rw [HN.out, voOf_ok HN.out], hU.below hB (Nat.le_refl _)⟩
        · have hqb : ((str (s.drop n)).toList == (str (fourI (crc pSum (s.take n)))).toList) = false := by rw [str_beq, beq_eq_false_iff_ne]; exact fun e => hq e.symm
          replace HN : Hid (volOk s = false) := by show _ = _; rw [HN.out, beq_eq_false_iff_ne]; exact hq
          clear hq
          go_wp2_with fail
          go_region_law (go_simp; go_at_call 84; refine (fourBytes_any _ _ c1 c2).mono ?_; rintro e w' ⟨rfl, hb'⟩; dsimp only)
          have hD := below_drewN (Below.refl W1.heap.size W1) 1
          replace hb' := hD.trans (hb'.mono hD.size)
          replace hR := hR.below hb' hR.lt
          replace hB := hB.trans (hb'.mono hB.size)
          clear hb' hD
          go_wp2_with (refine wpList_bstore (by rfl) _ _ _ (by rfl) w.heap.size 122 (by rfl) _ _ (by rfl) hR 4 (by rfl) (by kernel_rfl) (by rfl) (by intro x hx; simp at hx; rcases hx with rfl | rfl | rfl | rfl <;> rfl) ?_; intro w9 hR9 hU9; replace hR := hR9; replace hB := hU9.below hB (Nat.le_refl _); clear hR9 hU9)
          exact bodyPost_ret (v := .tuple #[.agg vo0.toArray, .bool false]) (results_box2 (by rfl) _ _ w.heap.size 122 _ _ _ (by rfl) hR (by rfl) Try.underlying122 (by rfl) 4 (by rfl) (by kernel_rfl)) rfl ⟨by rw [HN.out, voOf_no HN.out], hB⟩
    · have hmk : ((str (s.take 4)).toList == [86, 79, 76, 49]) = false := by rw [str_toList, beq_eq_false_iff_ne]; exact hm
      have HN : Hid (volOk s = false) := volOk_magic hm
      clear hz hm
      go_enter Try.func134, Try.ntmps134
      go_wp2_with fail
      go_quiet (fail)
      replace hR := hR.drewN nq
      replace hB := below_drewN hB nq
      generalize (w.alloc (.cells #[.int .u8 0, .int .u8 0, .string ⟨#[]⟩, .string ⟨#[]⟩] 122)).drewN nq = W at *
      go_wp2_with (refine wpList_bstore (by rfl) _ _ _ (by rfl) w.heap.size 122 (by rfl) _ _ (by rfl) hR 4 (by rfl) (by kernel_rfl) (by rfl) (by intro x hx; simp at hx; rcases hx with rfl | rfl | rfl | rfl <;> rfl) ?_; intro w9 hR9 hU9; replace hR := hR9; replace hB := hU9.below hB (Nat.le_refl _); clear hR9 hU9)
      exact bodyPost_ret (v := .tuple #[.agg vo0.toArray, .bool false]) (results_box2 (by rfl) _ _ w.heap.size 122 _ _ _ (by rfl) hR (by rfl) Try.underlying122 (by rfl) 4 (by rfl) (by kernel_rfl)) rfl ⟨by rw [HN.out, voOf_no HN.out], hB⟩
end Go.Proofs.Ytdjpkgaicmklmaa

/- The program's Join: the list of volumes, walked. -/
namespace Go.Proofs.Ytdjpkgaicmklmaa
open Go.RowKit

/-- Volumes as cells. -/
abbrev vcells (l : List (List UInt8)) : List Value := (l.map voC).flatten
theorem vcells_snoc (l : List (List UInt8)) (s : List UInt8) : vcells (l ++ [s]) = vcells l ++ voC s := by simp [vcells]
theorem vcells_lies {w : World} {B e : Nat} {ad : Option Addr} {n cap : Nat} {L : List (List UInt8)} (h : Vec w B e 4 ad n cap (vcells L)) (hn : n = L.length) : Lies w ad n 4 (fun i => voC (L.getD i [])) := by
  refine Vec.lies (rows := L.map voC) h ?_ (by simp [hn]) _ ?_
  · intro r hr; obtain ⟨f, _, rfl⟩ := List.mem_map.1 hr; rfl
  · intro i hi; subst hn; simp [List.getD, hi]
theorem take_snoc (l : List (List UInt8)) (i : Nat) (h : i < l.length) : l.take (i + 1) = l.take i ++ [l.getD i []] := by
  rw [List.take_succ_eq_append_getElem h, List.getD_eq_getElem?_getD, List.getElem?_eq_getElem h]; rfl
/-- How many there are up to the first string that is none. -/
def voN (l : List (List UInt8)) : Nat := (firstOf (bad1 l) l.length).getD l.length
theorem voN_at {l : List (List UInt8)} {i : Nat} (hi : i < l.length) (h : ∀ j, j < i → bad1 l j = false) (hb : bad1 l i = true) : voN l = i := by
  unfold voN; rw [firstOf_some.mpr ⟨hb, hi, h⟩]; rfl
theorem voN_all {l : List (List UInt8)} (h : ∀ j, j < l.length → bad1 l j = false) : voN l = l.length := by
  unfold voN; rw [firstOf_none.mpr h]; rfl

set_option maxRecDepth 100000 in
set_option maxHeartbeats 4000000 in
theorem volumesOf_any (l : List (List UInt8)) (ad0 : Option Addr) (N cap0 : Nat) (w : World) (hL : Lies w ad0 N 1 (fun i => [.string (str (l.getD i []))])) (hN : N = l.length) (hl : ∀ v, v ∈ l → v.length ≤ 1099511627776) (hb : N ≤ 1099511627776) :
    Calls Try.prog 97 #[.slice ad0 N cap0] w fun e w' => ∃ ad cap k, e = .returned (.slice ad k cap) ∧ k = voN l ∧ Vec w' w.heap.size 122 4 ad k cap (vcells (l.take k)) ∧ Below w.heap.size w w' := by
  have hV0 : Hid (Vec (w.alloc (.cells #[] 122)) w.heap.size 122 4 (some ⟨w.heap.size, 0, none⟩) 0 0 (vcells [])) := Vec.lit w w.heap.size 122 4 0 [] (Nat.le_refl _) (by omega) rfl
  have HN : Hid (N = l.length) := hN
  have HL : Hid (∀ v, v ∈ l → v.length ≤ 1099511627776) := hl
  clear hN hl
  go_enter Try.func97, Try.ntmps97
  go_wp2_with fail
  go_loopw [3, 4, 5, 6] (fun v u _ _ wr => ∃ (i : Nat) (ad : Option Addr) (cap : Nat), i ≤ N ∧ u = .int .i64 i ∧ v = .slice ad i cap ∧ (∀ j, j < i → bad1 l j = false) ∧ Vec wr w.heap.size 122 4 ad i cap (vcells (l.take i)) ∧ Below w.heap.size w wr) (fun _ u _ _ _ => N - (intOf u).toNat)
  case atStart => exact ⟨0, _, _, by omega, rfl, rfl, by intro j hj; omega, by simpa using hV0.out, (Below.refl _ _).alloc (Nat.le_refl _) _⟩
  case round =>
    obtain ⟨i, ad, cap, hi, rfl, rfl, hbad, hv, hbw⟩ := hrel
    have HBAD : Hid (∀ j, j < i → bad1 l j = false) := hbad
    clear hbad
    by_cases hlt : i < N
    · obtain ⟨b, o, hbl, hix, hc⟩ := (hL.below hbw).at cap0 (P := Try.prog) (t := 46) (by kernel_rfl) (by kernel_rfl) hlt
      have c0 : wr.cell? ⟨b, o, none⟩ = some (.string (str (l.getD i []))) := hc 0 _ (by omega) rfl
      have hil : i < l.length := by rw [← HN.out]; exact hlt
      have hsl : (l.getD i []).length ≤ 1099511627776 := HL.out _ (volAt_mem hil)
      have HT : Hid (l.take (i + 1) = l.take i ++ [l.getD i []]) := take_snoc l i hil
      have HB1 : Hid (bad1 l i = !volOk (l.getD i [])) := rfl
      clear hc
      generalize l.getD i [] = s at *
      go_wp2_with fail
      refine (volumeOf_any s _ hsl).mono ?_
      rintro e w1 ⟨rfl, hb1⟩
      have hv1 := hv.keep hb1
      have hbw1 := hbw.trans (hb1.mono hbw.size)
      have hz1 := hbw1.size
      clear hv hbw hb1 c0
      cases hok : volOk s with
      | false =>
        have HK : Hid (voN l = i) := voN_at hil HBAD.out (by rw [HB1.out, hok]; rfl)
        rw [voOf_no hok]
        clear hok
        go_wp2_with fail
        go_ret
        exact ⟨ad, cap, i, rfl, HK.out.symm, hv1.keep ((Below.refl _ _).alloc (Nat.le_refl _) _), hbw1.alloc hz1 _⟩
      | true =>
        have HB2 : Hid (bad1 l i = false) := by show _ = _; rw [HB1.out, hok]; rfl
        rw [voOf_ok hok]
        clear hok
        have HX : Hid (∀ o1 o2, Vec ((w1.alloc o1).alloc o2) w.heap.size 122 4 ad i cap (vcells (l.take i))) := fun o1 o2 => hv1.keep (((Below.refl _ w1).alloc (Nat.le_refl _) _).alloc (by simp) _)
        go_wp2_with (at_builtin; refine wpList_push (by rfl) _ _ 118 (by rfl) w.heap.size 122 4 40 (.agg #[.int .u8 0, .int .u8 0, .string ⟨#[]⟩, .string ⟨#[]⟩]) Try.underlying118 (by kernel_rfl) rfl (by decide) ad i cap _ (by rfl) (HX.out _ _) _ _ (voC s) (by rfl) rfl ?_ ?_ ?_ ?_ ?_ ?_; exact new_cells2 _ _ _ _; (intro u hu; simp at hu; rcases hu with rfl | rfl | rfl | rfl <;> rfl); (omega); (omega); (simp; omega); intro ad' cap' w' hv' hb' hs')
        have h2 : Below w.heap.size w w' := ((hbw1.alloc hz1 _).alloc (by simp; omega) _).trans hb'
        go_roundw
        case rel => exact ⟨i + 1, ad', cap', by omega, by go_num, rfl, fun j hj => by rcases Nat.lt_or_ge j i with h | h; (exact HBAD.out j h); (rw [show j = i by omega]; exact HB2.out), by rw [HT.out, vcells_snoc]; exact hv', h2⟩
        case measure => simp [intOf]; omega
    · have hiN : i = N := by omega
      subst hiN
      have HK : Hid (voN l = i) := by show _ = _; rw [HN.out]; exact voN_all (fun j hj => HBAD.out j (by rw [HN.out]; exact hj))
      go_wp2_with fail
      go_ret
      exact ⟨ad, cap, i, rfl, HK.out.symm, hv, hbw⟩

theorem idV_eq (v u : List UInt8) (hv : 14 ≤ v.length) (hu : 14 ≤ u.length) : idV v = idV u ↔ cntV v = cntV u ∧ sumV v = sumV u := by
  have e : ∀ v : List UInt8, 14 ≤ v.length → idV v = v.getD 5 0 :: sumV v := by
    intro v hv
    unfold idV sumV
    have : v.drop 5 = v.getD 5 0 :: v.drop 6 := by
      rw [List.drop_eq_getElem_cons (by omega), List.getD_eq_getElem?_getD, List.getElem?_eq_getElem (by omega)]; rfl
    rw [this, List.take_succ_cons]
  rw [e v hv, e u hu]
  unfold cntV
  simp only [List.cons.injEq]
  constructor
  · rintro ⟨h1, h2⟩; exact ⟨by rw [h1], h2⟩
  · rintro ⟨h1, h2⟩; exact ⟨UInt8.toNat_inj.1 h1, h2⟩
theorem volOk_len {v : List UInt8} (h : volOk v = true) : 14 ≤ v.length := by
  simp only [volOk, Bool.and_eq_true, decide_eq_true_eq] at h; exact h.1.1.1
/-- The place of the first, or the end. -/
def firstEnd (f : Nat → Bool) (n : Nat) : Nat := (firstOf f n).getD n
theorem firstEnd_at {f : Nat → Bool} {n i : Nat} (hi : i < n) (h : ∀ j, j < i → f j = false) (hb : f i = true) : firstEnd f n = i := by
  unfold firstEnd; rw [firstOf_some.mpr ⟨hb, hi, h⟩]; rfl
theorem firstEnd_none {f : Nat → Bool} {n : Nat} (h : ∀ j, j < n → f j = false) : firstEnd f n = n := by
  unfold firstEnd; rw [firstOf_none.mpr h]; rfl

set_option maxRecDepth 100000 in
set_option maxHeartbeats 4000000 in
theorem firstMixed_any (l : List (List UInt8)) (ad0 : Option Addr) (N cap0 : Nat) (w : World) (hL : Lies w ad0 N 4 (fun i => voC (l.getD i []))) (hN : N = l.length) (hok : ∀ i, i < l.length → volOk (l.getD i []) = true) (hb : N ≤ 1099511627776) :
    Calls Try.prog 98 #[.slice ad0 N cap0] w fun e w' => e = .returned (.int .i64 (firstEnd (bad2 l) l.length : Nat)) ∧ Below w.heap.size w w' := by
  have HN : Hid (N = l.length) := hN
  have HOK : Hid (∀ i, i < l.length → volOk (l.getD i []) = true) := hok
  clear hN hok
  go_enter Try.func98, Try.ntmps98
  go_wp2_with fail
  go_loopw [3] (fun u wr => ∃ (i : Nat), i ≤ N ∧ u = .int .i64 i ∧ (∀ j, j < i → bad2 l j = false) ∧ Below w.heap.size w wr) (fun u _ => N - (intOf u).toNat)
  case atStart => exact ⟨0, by omega, rfl, by intro j hj; omega, Below.refl _ _⟩
  case round =>
    obtain ⟨i, hi, rfl, hbad, hbw⟩ := hrel
    have HBAD : Hid (∀ j, j < i → bad2 l j = false) := hbad
    clear hbad
    by_cases hlt : i < N
    · obtain ⟨b, o, hbl, hix, hc⟩ := (hL.below hbw).at cap0 (P := Try.prog) (t := 118) (by kernel_rfl) (by kernel_rfl) hlt
      obtain ⟨b', o', hbl', hix', hd⟩ := (hL.below hbw).at cap0 (P := Try.prog) (t := 118) (by kernel_rfl) (by kernel_rfl) (k := 0) (by omega)
      have c1 : wr.cell? ⟨b, o + 1, none⟩ = some (.int .u8 (cntV (l.getD i []))) := hc 1 _ (by omega) rfl
      have c2 : wr.cell? ⟨b, o + 2, none⟩ = some (.string (str (sumV (l.getD i [])))) := hc 2 _ (by omega) rfl
      have d1 : wr.cell? ⟨b', o' + 1, none⟩ = some (.int .u8 (cntV (l.getD 0 []))) := hd 1 _ (by omega) rfl
      have d2 : wr.cell? ⟨b', o' + 2, none⟩ = some (.string (str (sumV (l.getD 0 [])))) := hd 2 _ (by omega) rfl
      have hil : i < l.length := by rw [← HN.out]; exact hlt
      have HE := idV_eq (l.getD i []) (l.getD 0 []) (volOk_len (HOK.out i hil)) (volOk_len (HOK.out 0 (by omega)))
      have HB2 : Hid (bad2 l i = (idV (l.getD i []) != idV (l.getD 0 []))) := rfl
      have hix0 : ∀ w', (Instr.indexAt 118 (.slice ad0 N cap0) (.int .i64 0)).run Try.prog w' = .ok (.pointer (some ⟨b', o', none⟩)) w' := hix'
      clear hc hd hix'
      generalize cntV (l.getD i []) = ci at *
      generalize cntV (l.getD 0 []) = c0 at *
      generalize sumV (l.getD i []) = si at *
      generalize sumV (l.getD 0 []) = s0 at *
      by_cases hcc : ci = c0
      · have k1 : ((ci : Int) != (c0 : Int)) = false := by simp [hcc]
        by_cases hss : si = s0
        · have k2 : ((str si).toList == (str s0).toList) = true := by rw [str_beq, hss]; simp
          have HF : Hid (bad2 l i = false) := by show _ = _; rw [HB2.out, HE.2 ⟨hcc, hss⟩]; simp
          clear hcc hss HE
          go_wp2_with fail
          go_quiet (fail)
          go_wp2_with fail
          go_roundw
          case rel => exact ⟨i + 1, by omega, by go_num, fun j hj => by rcases Nat.lt_or_ge j i with h | h; (exact HBAD.out j h); (rw [show j = i by omega]; exact HF.out), below_drewN hbw _⟩
          case measure => simp [intOf]; omega
        · have k2 : ((str si).toList == (str s0).toList) = false := by rw [str_beq, beq_eq_false_iff_ne]; exact hss
          have HF : Hid (bad2 l i = true) := by show _ = _; rw [HB2.out, bne_iff_ne]; exact fun e => hss (HE.1 e).2
          clear hcc hss HE
          go_wp2_with fail
          go_quiet (fail)
          go_wp2_with fail
          go_ret
          exact ⟨by rw [firstEnd_at hil HBAD.out HF.out]; rfl, below_drewN hbw _⟩
      · have k1 : ((ci : Int) != (c0 : Int)) = true := by rw [bne_iff_ne]; omega
        have HF : Hid (bad2 l i = true) := by show _ = _; rw [HB2.out, bne_iff_ne]; exact fun e => hcc (HE.1 e).1
        clear hcc HE
        go_wp2_with fail
        go_quiet (fail)
        go_wp2_with fail
        go_ret
        exact ⟨by rw [firstEnd_at hil HBAD.out HF.out]; rfl, below_drewN hbw _⟩
    · have hiN : i = N := by omega
      subst hiN
      have HK : Hid (firstEnd (bad2 l) l.length = i) := by show _ = _; rw [← HN.out]; exact firstEnd_none HBAD.out
      go_wp2_with fail
      go_ret
      exact ⟨by rw [HK.out]; rfl, hbw⟩
end Go.Proofs.Ytdjpkgaicmklmaa

