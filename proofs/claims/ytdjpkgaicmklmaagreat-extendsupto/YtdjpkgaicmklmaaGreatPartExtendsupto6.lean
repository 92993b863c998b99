/- Texts of the proof, one behind the other; what each holds is said at its head. -/
import Derived.Test.YtdjpkgaicmklmaaGreatPartExtendsupto5
import Derived.Test.YtdjpkgaicmklmaaGreatPartExtendsupto1
import Derived.Test.YtdjpkgaicmklmaaGreatPartExtendsupto4
import Derived.Deep.RegionLaw
import Derived.Test.YtdjpkgaicmklmaaGreatPartExtendsupto2
import Derived.BigQuiet
import Derived.Deep.QuietTactic
/- What the walks of the owner's calls share. -/
namespace Go.Proofs.YtdjpkgaicmklmaaGreat
open Go.RowKit

def ShFd (l : List Value) : Prop := ∃ f : Fd, l = f.cells
def ShCk (l : List Value) : Prop := ∃ f : Ck, l = f.cells
def ShCd (l : List Value) : Prop := ∃ f : Cd, l = f.cells
def ShEd (l : List Value) : Prop := ∃ f : Ed, l = f.cells

theorem newc1 (X : World) (cs : List Value) (t : TypeId) : ∀ j u, cs[j]? = some u → (X.alloc (.cells cs.toArray t)).cell? ((⟨X.heap.size, 0, none⟩ : Addr).add j) = some u := by
  intro j u h
  rw [addr_add, (Bx.new X t cs.toArray).cell]
  simpa using h
/-- The worlds part in one block alone. -/
structure Upo (g : Option Nat) (w w' : World) : Prop where
  os : w'.os = w.os
  tape : w'.tape = w.tape
  output : w'.output = w.output
  size : w'.heap.size = w.heap.size
  block : ∀ k, g ≠ some k → w'.heap[k]? = w.heap[k]?
theorem Upo.refl (g : Option Nat) (w : World) : Upo g w w := ⟨rfl, rfl, rfl, rfl, fun _ _ => rfl⟩
theorem Upo.upd {g : Option Nat} {k : Nat} {w w1 w2 : World} (h : Upo g w w1) (hu : Upd k w1 w2) (hk : g = some k) : Upo g w w2 :=
  ⟨hu.os.trans h.os, hu.tape.trans h.tape, hu.output.trans h.output, hu.size.trans h.size, fun j hj => (hu.block j (fun e => hj (by rw [hk, e]))).trans (h.block j hj)⟩
theorem Bx.upo {g : Option Nat} {w w' : World} {k e : Nat} {cs : List Value} (b : Bx w k e cs) (h : Upo g w w') (hg : g ≠ some k) : Bx w' k e cs := ⟨by rw [h.block k hg]; exact b.h⟩
theorem Vec.upo {g : Option Nat} {w w' : World} {B e m : Nat} {ad : Option Addr} {n cap : Nat} {xs : List Value} (h : Vec w B e m ad n cap xs) (hu : Upo g w w') (hg : ∀ b, ad = some b → g ≠ some b.block) : Vec w' B e m ad n cap xs := by
  refine ⟨h.1, ?_⟩
  rcases h.2 with h2 | ⟨k, c, cur, hv, hB, hk, r⟩
  · exact Or.inl h2
  · refine Or.inr ⟨k, c, cur, hv, hB, ?_, r⟩
    simp at hv
    rw [hu.block k (hg _ hv.1)]; exact hk
theorem Upo.below {g : Option Nat} {B : Nat} {w0 w w' : World} (h : Upo g w w') (hb : Below B w0 w) (hg : ∀ k, g = some k → B ≤ k) : Below B w0 w' :=
  ⟨h.os.trans hb.os, h.tape.trans hb.tape, h.output.trans hb.output, by rw [h.size]; exact hb.size, fun k hk => (h.block k (fun e => by have := hg k e; omega)).trans (hb.block k hk)⟩
theorem But3.of_upo {go e eb : Nat} {g : Option Nat} {w w' : World} (h : Upo g w w') (hg : ∀ k, g = some k → ∃ cur t, w.heap[k]? = some (.cells cur t) ∧ (t = e ∨ t = eb)) : But3 go e eb w w' :=
  ⟨by rw [h.size]; exact Nat.le_refl _, fun k cur t _ h2 h3 h4 => by
    have hk : g ≠ some k := by
      intro hk
      obtain ⟨cur', t', hc, ht⟩ := hg k hk
      rw [h2] at hc; simp at hc; obtain ⟨-, rfl⟩ := hc; rcases ht with ht | ht
      · exact h3 ht
      · exact h4 ht
    rw [h.block k hk]; exact h2⟩

theorem merge {T G : Prop} (main : Hid T → G) (key : T) : G := main key
theorem St.six {Sh : List Value → Prop} {w0 w X w6 : World} {B B1 go gm tT e eb m f : Nat} {oc mk row : List Value} {ad : Option Addr} {N cap : Nat} {a4 : Option Addr} {c4 : Nat} {L : List Bk} (hk : Kp (a4.map (·.block)) row X w6) (h : St Sh w0 w B B1 go gm tT e eb m f oc mk ad N cap a4 c4 L) (hb : Below w.heap.size w X) (hB : B ≤ w.heap.size) (h1 : eb ≠ tT) {x : Bk} (hx : Reads1 Sh w B e m x) :
    Reads1 Sh X B e m x ∧ B ≤ X.heap.size ∧ St Sh w0 X B B1 go gm tT e eb m f oc mk ad N cap a4 c4 L ∧ w6.cell? ⟨go, f, none⟩ = some (.slice a4 L.length c4) ∧ w6.frozen? ⟨go, f, none⟩ = false := by
  have h2 := h.step hb hB
  have h3 := h2.o.kp hk (h2.o.apart h2.b h1)
  exact ⟨⟨hx.len, hx.vec.keep hb, hx.few, hx.shape⟩, Nat.le_trans hB hb.size, h2, by rw [h3.cell, h.at_], h3.frozen f⟩
/-- The list is written over. -/
theorem St.start {Sh : List Value → Prop} {w w1 w3 : World} {B B1 go tT e eb m f : Nat} {oc0 oc mk xs : List Value} {ad : Option Addr} {N cap : Nat} {a4 : Option Addr} {c4 : Nat} {L : List Bk} (hO : Bx w go tT oc0) (hO1 : Bx w1 go tT oc) (hU : Upd go w w1) (hK : Books Sh w B e eb m a4 c4 L)
    (hfr : ∀ x, x ∈ L → ∀ b, x.ad = some b → b.block < B1) (hv : Vec w B1 e m ad N cap xs) (hu : Upo (ad.map (·.block)) (w1.alloc (.cells mk.toArray e)) w3) (hv3 : Vec w3 B1 e m ad N cap (rep N mk)) (hf : oc[f]? = some (.slice a4 L.length c4)) (hm : mk.length = m)
    (hB : B ≤ go) (hB1 : B ≤ B1) (hBw : B ≤ w.heap.size) (h1 : e ≠ tT) (h2 : eb ≠ tT) (h3 : e ≠ eb) : St Sh w w3 B B1 go w1.heap.size tT e eb m f oc mk ad N cap a4 c4 L := by
  have hz := hU.size
  have hal : Below w1.heap.size w1 (w1.alloc (.cells mk.toArray e)) := (Below.refl _ _).alloc (Nat.le_refl _) _
  have hlt : ∀ k, ad.map (·.block) = some k → B1 ≤ k ∧ k < w1.heap.size ∧ k ≠ go := by
    intro k hk
    obtain ⟨h4, cur, hc⟩ := hv.typed k hk
    refine ⟨h4, by rw [hz]; exact (Array.getElem?_eq_some_iff.1 hc).1, fun e1 => hO.apart hv h1 (by rw [hk, e1])⟩
  have tr : ∀ {B' e' m' : Nat} {ad' : Option Addr} {n' cap' : Nat} {xs' : List Value}, Vec w B' e' m' ad' n' cap' xs' → e' ≠ tT → (∀ b, ad' = some b → ad.map (·.block) ≠ some b.block) → Vec w3 B' e' m' ad' n' cap' xs' := by
    intro B' e' m' ad' n' cap' xs' h4 h5 h6
    exact ((h4.updo hU (fun b hb e1 => hO.apart h4 h5 (by rw [hb]; simp [e1]))).keep hal).upo hu h6
  have hgm := Bx.new w1 e mk.toArray
  refine ⟨(hO1.alloc _).upo hu (fun e1 => (hlt _ e1).2.2 rfl), ?_, hv3, tr hK.list h2 (fun b hb e1 => hK.list.apart hv (fun e => h3 e.symm) b hb e1), fun x hx => ⟨⟨(hK.each x hx).len, tr (hK.each x hx).vec h1 (fun b hb e1 => ?_), (hK.each x hx).few, (hK.each x hx).shape⟩, Or.inl (hfr x hx)⟩, hf, hm, hB, hB1, fun b hb e1 => ?_, ?_, ?_⟩
  · have := hgm.upo hu (fun e1 => by have := (hlt _ e1).2.1; omega); simpa using this
  · have := hfr x hx b hb; have := (hlt _ e1).1; omega
  · have := (hlt b.block (by rw [hb]; rfl)).2.1; omega
  · exact hu.below ((hU.below (Below.refl _ _) hB).alloc (by rw [hz]; exact hBw) _) (fun k hk => Nat.le_trans hB1 (hlt k hk).1)
  · refine ((But3.of_upd hU (Or.inl rfl)).trans (But3.of_below hal)).trans (But3.of_upo hu fun k hk => ?_)
    obtain ⟨_, cur, hc⟩ := hv.typed k hk
    refine ⟨cur, e, ?_, Or.inl rfl⟩
    rw [hal.block k (hlt k hk).2.1, hU.block k (hlt k hk).2.2]; exact hc
end Go.Proofs.YtdjpkgaicmklmaaGreat

/- linked of the reference: walked. -/
namespace Go.Proofs.YtdjpkgaicmklmaaGreat
open Go.RowKit

set_option maxRecDepth 100000 in
set_option maxHeartbeats 4000000 in
theorem linked_any (l : List Fd) (ad : Option Addr) (N cap : Nat) (w : World) (hN : N = l.length) (hl : Lies w ad N 9 (fun i => (l.getD i fd0).cells)) (ho : Ordered l) (hNb : N ≤ 1099511627776) :
    Calls Tryz.prog 36 #[.slice ad N cap] w fun e w' => ∃ a1 n1 c1 a2 n2 c2 a3 n3 c3, e = .returned (.agg (lnkC (l.getD 0 fd0).seq (l.getD 0 fd0).base a1 n1 c1 a2 n2 c2 a3 n3 c3).toArray) ∧ Three w' w.heap.size l a1 n1 c1 a2 n2 c2 a3 n3 c3 ∧ Below w.heap.size w w' := by
  obtain ⟨hR0, hs1, hb0⟩ := one_box w 46 (lnkC 0 0 none 0 0 none 0 0 none 0 0).toArray
  have HN : Hid (N = l.length) := hN
  have HO : Hid (Ordered l) := ho
  have hN0 : 0 < N := by rw [hN]; exact ho.some_
  clear hN ho
  obtain ⟨b, o, hbl, hix, -, -, s2, s3, -⟩ := (hl.below (hb0.mono (Nat.le_refl _))).found cap hN0
  have hix0 : ∀ w', (Instr.indexAt 62 (.slice ad N cap) (.int .i64 0)).run Tryz.prog w' = .ok (.pointer (some ⟨b, o, none⟩)) w' := hix
  have HT0 : Hid (ckOf (l.take 1) = [] ∧ cdOf (l.take 1) = [] ∧ edOf (l.take 1) = []) := by
    have h4 := HO.out.first
    have hp := HO.out.some_
    cases l with
    | nil => simp at hp
    | cons f r =>
      have h4 : f.kind = 4 := h4
      show _ ∧ _ ∧ _
      simp [ckOf, cdOf, edOf, h4]
  have s2a : ∀ o', ((w.alloc (.cells (lnkC 0 0 none 0 0 none 0 0 none 0 0).toArray 46)).alloc o').cell? ⟨b, o + 2, none⟩ = some (.int .i64 (l.getD 0 fd0).seq) := fun o' => (((Below.refl _ _).alloc (Nat.le_refl _) o').cell (p := ⟨b, o + 2, none⟩) hbl).trans s2
  have s3a : ∀ o', ((w.alloc (.cells (lnkC 0 0 none 0 0 none 0 0 none 0 0).toArray 46)).alloc o').cell? ⟨b, o + 3, none⟩ = some (.int .i64 (l.getD 0 fd0).base) := fun o' => (((Below.refl _ _).alloc (Nat.le_refl _) o').cell (p := ⟨b, o + 3, none⟩) hbl).trans s3
  clear hix
  generalize (l.getD 0 fd0).seq = sq at *
  generalize (l.getD 0 fd0).base = bs at *
  go_enter Tryz.func36, Tryz.ntmps36
  go_wp2_with fail
  apply merge
  · intro KEY
    go_region_law (fail)
    all_goals exact KEY.out
  obtain ⟨hR1, hL1, hs2, hb1⟩ := two_boxes w 46 46 (lnkC 0 0 none 0 0 none 0 0 none 0 0).toArray (lnkC sq bs none 0 0 none 0 0 none 0 0).toArray
  have HS : Hid (Bx ((w.alloc (.cells (lnkC 0 0 none 0 0 none 0 0 none 0 0).toArray 46)).alloc (.cells (lnkC sq bs none 0 0 none 0 0 none 0 0).toArray 46)).drew (w.heap.size + 1) 46 (lnkC sq bs none 0 0 none 0 0 none 0 0) ∧ Bx ((w.alloc (.cells (lnkC 0 0 none 0 0 none 0 0 none 0 0).toArray 46)).alloc (.cells (lnkC sq bs none 0 0 none 0 0 none 0 0).toArray 46)).drew w.heap.size 46 (lnkC 0 0 none 0 0 none 0 0 none 0 0) ∧
      w.heap.size + 2 ≤ ((w.alloc (.cells (lnkC 0 0 none 0 0 none 0 0 none 0 0).toArray 46)).alloc (.cells (lnkC sq bs none 0 0 none 0 0 none 0 0).toArray 46)).drew.heap.size ∧ Below w.heap.size w ((w.alloc (.cells (lnkC 0 0 none 0 0 none 0 0 none 0 0).toArray 46)).alloc (.cells (lnkC sq bs none 0 0 none 0 0 none 0 0).toArray 46)).drew) := ⟨⟨hL1.h⟩, ⟨hR1.h⟩, Nat.le_of_eq hs2.symm, hb1.drew⟩
  clear hR1 hL1 hs2 hb1 hR0 hs1 hb0 s2 s3 s2a s3a hix0 hbl
  go_wp2_with fail
  go_loopw [4, 5] (fun u _ wr => ∃ (i : Nat) (a1 : Option Addr) (n1 c1 : Nat) (a2 : Option Addr) (n2 c2 : Nat) (a3 : Option Addr) (n3 c3 : Nat), 1 ≤ i ∧ i ≤ N ∧ u = .int .i64 i ∧
    Bx wr (w.heap.size + 1) 46 (lnkC sq bs a1 n1 c1 a2 n2 c2 a3 n3 c3) ∧ Three wr (w.heap.size + 2) (l.take i) a1 n1 c1 a2 n2 c2 a3 n3 c3 ∧ Bx wr w.heap.size 46 (lnkC 0 0 none 0 0 none 0 0 none 0 0) ∧ w.heap.size + 2 ≤ wr.heap.size ∧ Below w.heap.size w wr) (fun u _ _ => N - (intOf u).toNat)
  case atStart => exact ⟨1, none, 0, 0, none, 0, 0, none, 0, 0, by omega, by omega, rfl, HS.out.1, ⟨by rw [HT0.out.1]; exact Vec.nil _ _ _ _, by rw [HT0.out.2.1]; exact Vec.nil _ _ _ _, by rw [HT0.out.2.2]; exact Vec.nil _ _ _ _, by rw [HT0.out.1]; rfl, by rw [HT0.out.2.1]; rfl, by rw [HT0.out.2.2]; rfl⟩, HS.out.2.1, HS.out.2.2.1, HS.out.2.2.2⟩
  case round =>
    clear HS
    obtain ⟨i, a1, n1, c1, a2, n2, c2, a3, n3, c3, hi1, hi, rfl, hL, hT, hR, hz, hB⟩ := hrel
    have q1 : n1 ≤ 1099511627776 := by rw [hT.e1]; have := ckOf_le (l.take i); simp at this; omega
    have q2 : n2 ≤ 1099511627776 := by rw [hT.e2]; have := cdOf_le (l.take i); simp at this; omega
    have q3 : n3 ≤ 1099511627776 := by rw [hT.e3]; have := edOf_le (l.take i); simp at this; omega
    have HAL : Hid (∀ o1 o2, Below wr.heap.size wr ((wr.alloc o1).alloc o2)) := fun o1 o2 => ((Below.refl _ wr).alloc (Nat.le_refl _) _).alloc (by simp) _
    have HAL2 : Hid (∀ {g e : Nat} {cs : List Value} {o1 o2 : Obj}, Bx wr g e cs → Bx ((wr.alloc o1).alloc o2) g e cs) := fun h => (h.alloc _).alloc _
    by_cases hlt : i < N
    · have hil : i < l.length := by rw [← HN.out]; exact hlt
      obtain ⟨b, o, hbl, hix, c0', c1', c2', c3', c4', c5', c6', c7', c8'⟩ := (hl.below hB).found cap hlt
      have HTK : Hid (l.take (i + 1) = l.take i ++ [l.getD i fd0]) := by
        show _ = _; rw [List.take_add_one, List.getElem?_eq_getElem hil]; simp [List.getD, hil]
      have hfk := HO.out.rest i (by omega) hil
      generalize hgf : l.getD i fd0 = f at *
      clear hgf
      rcases hfk with hfk | hfk | hfk
      · have k1 : (f.kind == 1) = true := by rw [hfk]; rfl
        go_wp2_with (first
          | (refine wpList_bget (by rfl) 23 _ (by rfl) (w.heap.size + 1) 46 2 (by rfl) _ (hL.alloc _) _ (by rfl) _ Tryz.underlying23 (by rfl) ?_)
          | (at_builtin; refine wpList_pushk (by rfl) _ _ 23 (by rfl) (w.heap.size + 2) 37 2 16 (.agg #[.int .i64 0, .int .i64 0]) Tryz.underlying23 (by kernel_rfl) rfl (by decide) a1 n1 c1 _ (by rfl) ((hT.keep (HAL.out _ _)).v1) _ 1 1 (Ck.mk f.site f.count).cells (by rfl) rfl ?_ ?_ ?_ ?_ ?_ ?_ ?_; (rw [rep_one]; exact new_cells2 _ _ _ _); (intro v h; simp at h; rcases h with rfl | rfl <;> rfl); (omega); (omega); (omega); (simp; omega); intro ad' cap' w' hv' hk'; have hT2 := (hT.keep (HAL.out _ _)).push1 hfk hv' hk'; have hB2 : Below w.heap.size w w' := hk'.below ((hB.alloc hB.size _).alloc (by have := hB.size; simp; omega) _) (by have := hB.size; simp; omega) (fun q e => by have := (hT.v1.typed q e).1; omega); have hR2 := (HAL2.out hR).kp hk' (hR.apart hT.v1 (by decide)); have hL2 := (HAL2.out hL).kp hk' (hL.apart hT.v1 (by decide)); have hsz2 : w.heap.size + 2 ≤ w'.heap.size := (by have := hk'.size; simp at this; omega))
          | (refine wpList_bput (by rfl) _ _ 23 (by rfl) (w.heap.size + 1) 46 2 (by rfl) _ (.slice _ _ _) (by rfl) hL2 (by kernel_rfl) (by simp) (by rfl) (by rfl) ?_; intro w9 hL9 hU9; have hT9 := hT2.upd hU9 (by omega); have hR9 := hR2.upd hU9 (by omega); have hB9 := hU9.below hB2 (by omega); have hz9 : w.heap.size + 2 ≤ w9.heap.size := (by rw [hU9.size]; exact hsz2); dsimp only [List.set] at hL9))
        rw [← HTK.out] at hT9
        go_roundw
        case rel => exact ⟨i + 1, ad', (n1 + 1), cap', a2, n2, c2, a3, n3, c3, by omega, by omega, by go_num, hL9, hT9, hR9, hz9, hB9⟩
        case measure => simp [intOf]; omega

      · have k1 : (f.kind == 1) = false := by rw [hfk]; rfl
        have k2 : (f.kind == 2) = true := by rw [hfk]; rfl
        go_wp2_with (first
          | (refine wpList_bget (by rfl) 24 _ (by rfl) (w.heap.size + 1) 46 3 (by rfl) _ (hL.alloc _) _ (by rfl) _ Tryz.underlying24 (by rfl) ?_)
          | (at_builtin; refine wpList_pushk (by rfl) _ _ 24 (by rfl) (w.heap.size + 2) 39 5 48 (.agg #[.int .i64 0, .int .i64 0, .int .i64 0, .bool false, .string ⟨#[]⟩]) Tryz.underlying24 (by kernel_rfl) rfl (by decide) a2 n2 c2 _ (by rfl) ((hT.keep (HAL.out _ _)).v2) _ 1 1 (Cd.mk f.id f.site f.count f.gone f.text).cells (by rfl) rfl ?_ ?_ ?_ ?_ ?_ ?_ ?_; (rw [rep_one]; exact new_cells2 _ _ _ _); (intro v h; simp at h; rcases h with rfl | rfl | rfl | rfl | rfl <;> rfl); (omega); (omega); (omega); (simp; omega); intro ad' cap' w' hv' hk'; have hT2 := (hT.keep (HAL.out _ _)).push2 hfk hv' hk'; have hB2 : Below w.heap.size w w' := hk'.below ((hB.alloc hB.size _).alloc (by have := hB.size; simp; omega) _) (by have := hB.size; simp; omega) (fun q e => by have := (hT.v2.typed q e).1; omega); have hR2 := (HAL2.out hR).kp hk' (hR.apart hT.v2 (by decide)); have hL2 := (HAL2.out hL).kp hk' (hL.apart hT.v2 (by decide)); have hsz2 : w.heap.size + 2 ≤ w'.heap.size := (by have := hk'.size; simp at this; omega))
          | (refine wpList_bput (by rfl) _ _ 24 (by rfl) (w.heap.size + 1) 46 3 (by rfl) _ (.slice _ _ _) (by rfl) hL2 (by kernel_rfl) (by simp) (by rfl) (by rfl) ?_; intro w9 hL9 hU9; have hT9 := hT2.upd hU9 (by omega); have hR9 := hR2.upd hU9 (by omega); have hB9 := hU9.below hB2 (by omega); have hz9 : w.heap.size + 2 ≤ w9.heap.size := (by rw [hU9.size]; exact hsz2); dsimp only [List.set] at hL9))
        rw [← HTK.out] at hT9
        go_roundw
        case rel => exact ⟨i + 1, a1, n1, c1, ad', (n2 + 1), cap', a3, n3, c3, by omega, by omega, by go_num, hL9, hT9, hR9, hz9, hB9⟩
        case measure => simp [intOf]; omega

      · have k1 : (f.kind == 1) = false := by rw [hfk]; rfl
        have k2 : (f.kind == 2) = false := by rw [hfk]; rfl
        go_wp2_with (first
          | (refine wpList_bget (by rfl) 25 _ (by rfl) (w.heap.size + 1) 46 4 (by rfl) _ (hL.alloc _) _ (by rfl) _ Tryz.underlying25 (by rfl) ?_)
          | (at_builtin; refine wpList_pushk (by rfl) _ _ 25 (by rfl) (w.heap.size + 2) 41 2 24 (.agg #[.int .i64 0, .string ⟨#[]⟩]) Tryz.underlying25 (by kernel_rfl) rfl (by decide) a3 n3 c3 _ (by rfl) ((hT.keep (HAL.out _ _)).v3) _ 1 1 (Ed.mk f.id f.text).cells (by rfl) rfl ?_ ?_ ?_ ?_ ?_ ?_ ?_; (rw [rep_one]; exact new_cells2 _ _ _ _); (intro v h; simp at h; rcases h with rfl | rfl <;> rfl); (omega); (omega); (omega); (simp; omega); intro ad' cap' w' hv' hk'; have hT2 := (hT.keep (HAL.out _ _)).push3 hfk hv' hk'; have hB2 : Below w.heap.size w w' := hk'.below ((hB.alloc hB.size _).alloc (by have := hB.size; simp; omega) _) (by have := hB.size; simp; omega) (fun q e => by have := (hT.v3.typed q e).1; omega); have hR2 := (HAL2.out hR).kp hk' (hR.apart hT.v3 (by decide)); have hL2 := (HAL2.out hL).kp hk' (hL.apart hT.v3 (by decide)); have hsz2 : w.heap.size + 2 ≤ w'.heap.size := (by have := hk'.size; simp at this; omega))
          | (refine wpList_bput (by rfl) _ _ 25 (by rfl) (w.heap.size + 1) 46 4 (by rfl) _ (.slice _ _ _) (by rfl) hL2 (by kernel_rfl) (by simp) (by rfl) (by rfl) ?_; intro w9 hL9 hU9; have hT9 := hT2.upd hU9 (by omega); have hR9 := hR2.upd hU9 (by omega); have hB9 := hU9.below hB2 (by omega); have hz9 : w.heap.size + 2 ≤ w9.heap.size := (by rw [hU9.size]; exact hsz2); dsimp only [List.set] at hL9))
        rw [← HTK.out] at hT9
        go_roundw
        case rel => exact ⟨i + 1, a1, n1, c1, a2, n2, c2, ad', (n3 + 1), cap', by omega, by omega, by go_num, hL9, hT9, hR9, hz9, hB9⟩
        case measure => simp [intOf]; omega

    · have hi3 : i = N := by omega
      subst hi3
      rw [List.take_of_length_le (by rw [← HN.out]; exact Nat.le_refl _)] at hT
      go_wp2_with (first
        | (refine wpList_bload (by rfl) _ _ (by rfl) (w.heap.size + 1) 46 (by rfl) _ hL _ Tryz.underlying46 (by rfl) 5 (by rfl) (by kernel_rfl) ?_)
        | (refine wpList_bstore (by rfl) _ _ _ (by rfl) w.heap.size 46 (by rfl) _ _ (by rfl) hR 5 (by rfl) (by kernel_rfl) (by rfl) (by intro x hx; simp at hx; rcases hx with rfl | rfl | rfl | rfl | rfl <;> rfl) ?_; intro w8 hR9 hU9; replace hT := hT.upd hU9 (by omega); replace hB := hU9.below hB (by omega); clear hU9))
      exact bodyPost_ret (v := .agg (lnkC sq bs a1 n1 c1 a2 n2 c2 a3 n3 c3).toArray) (results_box1 (by rfl) _ _ w.heap.size 46 _ _ (by rfl) hR9 Tryz.underlying46 (by rfl) 5 (by rfl) (by kernel_rfl)) rfl ⟨a1, _, c1, a2, _, c2, a3, _, c3, rfl, ⟨hT.v1.mono (by omega), hT.v2.mono (by omega), hT.v3.mono (by omega), hT.e1, hT.e2, hT.e3⟩, hB⟩
end Go.Proofs.YtdjpkgaicmklmaaGreat

/- Read of the reference: walked. -/
namespace Go.Proofs.YtdjpkgaicmklmaaGreat
open Go.RowKit

theorem Bx.drew1 {w : World} {g e : Nat} {cs : List Value} (b : Bx w g e cs) : Bx w.drew g e cs := ⟨b.h⟩
theorem bx5 {w : World} {g e : Nat} {v0 v1 v2 v3 v4 : Value} {x0 x1 x2 x3 x4 : Value} (h : Bx w g e [x0, x1, x2, x3, x4]) : Bx ((((((w.setCell ⟨g, 0, none⟩ v0).setCell ⟨g, 1, none⟩ v1).setCell ⟨g, 2, none⟩ v2).setCell ⟨g, 3, none⟩ v3).setCell ⟨g, 4, none⟩ v4).drew) g e [v0, v1, v2, v3, v4] :=
  by
  have h5 := ((((h.setCell 0 v0).setCell 1 v1).setCell 2 v2).setCell 3 v3).setCell 4 v4
  dsimp only [List.set] at h5
  exact h5.drew1
theorem be5 {w0 w : World} {g : Nat} {v0 v1 v2 v3 v4 : Value} (h : Below g w0 w) : Below g w0 ((((((w.setCell ⟨g, 0, none⟩ v0).setCell ⟨g, 1, none⟩ v1).setCell ⟨g, 2, none⟩ v2).setCell ⟨g, 3, none⟩ v3).setCell ⟨g, 4, none⟩ v4).drew) :=
  ((((((Upd.refl g w).setCell ⟨g, 0, none⟩ rfl v0).setCell ⟨g, 1, none⟩ rfl v1).setCell ⟨g, 2, none⟩ rfl v2).setCell ⟨g, 3, none⟩ rfl v3).setCell ⟨g, 4, none⟩ rfl v4).drew.below h (Nat.le_refl _)
def okB (i : Nat) (p f : Fd) : Bool := if i = 0 then f.kind == 4 else fitB p f
theorem fitsC_any (p f : Fd) (i : Nat) (w : World) : Calls Tryz.prog 35 #[fdV p, fdV f, .int .i64 i] w fun e w' => e = .returned (.bool (okB i p f)) ∧ Below w.heap.size w w' := by
  by_cases hi : i = 0
  · subst hi; exact fits0_any p f w
  · have := fits_any p f i w hi
    unfold okB; rw [if_neg hi]; exact this
/-- How far the order has been looked at. -/
def OI (l : List Fd) (i : Nat) (p : Fd) : Prop := (i = 0 ∧ p = fd0) ∨ (1 ≤ i ∧ ordRd l = ordF p (l.drop i))
theorem OI.step {l : List Fd} {i : Nat} {p : Fd} (h : OI l i p) (hi : i < l.length) (hk : okB i p (l.getD i fd0) = true) : OI l (i + 1) (l.getD i fd0) := by
  refine Or.inr ⟨by omega, ?_⟩
  rw [getD_lt l i hi] at hk ⊢
  rcases h with ⟨rfl, rfl⟩ | ⟨h1, h2⟩
  · cases l with
    | nil => simp at hi
    | cons f r => simp [okB] at hk; simp only [ordRd]; rw [if_pos hk]; rfl
  · unfold okB at hk; rw [if_neg (by omega)] at hk
    rw [h2, List.drop_eq_getElem_cons hi]; simp only [ordF]; rw [if_pos hk]
theorem OI.bad {l : List Fd} {i : Nat} {p : Fd} (h : OI l i p) (hi : i < l.length) (hk : okB i p (l.getD i fd0) = false) : ordRd l = some (l.getD i fd0).at_ := by
  rw [getD_lt l i hi] at hk ⊢
  rcases h with ⟨rfl, rfl⟩ | ⟨h1, h2⟩
  · cases l with
    | nil => simp at hi
    | cons f r => simp [okB] at hk; simp only [ordRd]; rw [if_neg hk]; rfl
  · unfold okB at hk; rw [if_neg (by omega)] at hk
    rw [h2, List.drop_eq_getElem_cons hi]; simp only [ordF]; rw [if_neg (by rw [hk]; decide)]
theorem OI.done {l : List Fd} {p : Fd} (h : OI l l.length p) (h0 : 0 < l.length) : ordRd l = none := by
  rcases h with ⟨h1, _⟩ | ⟨_, h2⟩
  · omega
  · rw [h2, List.drop_of_length_le (Nat.le_refl _)]; rfl

set_option maxRecDepth 100000 in
set_option maxHeartbeats 4000000 in
theorem rread_any (b : List UInt8) (w : World) (hb : b.length ≤ 1099511627776) :
    Calls Tryz.prog 14 #[.string (str b)] w fun e w' => ReadAns (readRd b) w.heap.size e w' ∧ Below w.heap.size w w' := by
  have hz := str_size b
  have HZ : Hid ((str b).size = b.length) := hz
  obtain ⟨hR, hW, hB⟩ := one_box w 46 (lnkC 0 0 none 0 0 none 0 0 none 0 0).toArray
  have hbb : (str b).size ≤ 1099511627776 := by omega
  have hx4 : (str b).extract 0 4 = str (b.take 4) := by rw [str_extract]; simp
  by_cases h4 : (str b).size < 4
  · have HN : Hid (readRd b = ansErr 7 0) := by show _ = _; unfold readRd; rw [if_pos (Or.inl (by omega))]
    clear hz
    go_enter Tryz.func14, Tryz.ntmps14
    go_wp2_with fail
    exact bodyPost_ret (v := .tuple #[.agg (lnkC 0 0 none 0 0 none 0 0 none 0 0).toArray, .int .i64 7, .int .i64 0]) (results_box3 (by rfl) _ _ w.heap.size 46 _ _ _ _ (by rfl) hR (by rfl) (by rfl) Tryz.underlying46 (by rfl) 5 (by rfl) (by kernel_rfl)) rfl ⟨by rw [HN.out]; exact ⟨none, 0, 0, none, 0, 0, none, 0, 0, rfl, Lists.nil _ _⟩, hB⟩
  · by_cases hm : b.take 4 = magicB
    · have hmk : ((str (b.take 4)).toList == [80, 82, 67, 49]) = true := by rw [str_toList, hm]; rfl
      have HC : Hid (readRd b = if sealedB b = true then
          if (framed (b.take (b.length - 4))).2 < b.length - 4 then ansErr 9 (framed (b.take (b.length - 4))).2
          else match ordRd (framed (b.take (b.length - 4))).1 with
            | some p => ansErr 10 p
            | none => ansOk (framed (b.take (b.length - 4))).1
        else ansErr 8 0) := by show _ = _; unfold readRd; rw [if_neg (by rintro (h | h); (omega); exact h hm)] <;> rfl
      clear hm
      by_cases h8 : (str b).size < 8
      · have HN : Hid (readRd b = ansErr 8 0) := by
          show _ = _; rw [HC.out, if_neg (by simp [sealedB]; intro h; omega)]
        clear hz HC
        go_enter Tryz.func14, Tryz.ntmps14
        go_wp2_with fail
        exact bodyPost_ret (v := .tuple #[.agg (lnkC 0 0 none 0 0 none 0 0 none 0 0).toArray, .int .i64 8, .int .i64 0]) (results_box3 (by rfl) _ _ w.heap.size 46 _ _ _ _ (by rfl) hR (by rfl) (by rfl) Tryz.underlying46 (by rfl) 5 (by rfl) (by kernel_rfl)) rfl ⟨by rw [HN.out]; exact ⟨none, 0, 0, none, 0, 0, none, 0, 0, rfl, Lists.nil _ _⟩, hB⟩
      · obtain ⟨n, hn⟩ : ∃ n, (str b).size = n + 4 := ⟨(str b).size - 4, by omega⟩
        have hbl : b.length - 4 = n := by omega
        rw [hbl] at HC
        have hx1 : (str b).extract 0 n = str (b.take n) := by rw [str_extract]; simp
        have hx2 : (str b).extract n (n + 4) = str (b.drop n) := by rw [str_extract, List.take_of_length_le (by simp; omega)]
        have hsub : ((n : Int) + 4 - 4) = (n : Int) := by omega
        have hle2 : (n : Int) ≤ (n : Int) + 4 := by omega
        have hnl : (b.take n).length = n := by simp; omega
        have hzn : (str (b.take n)).size = n := by rw [str_size, hnl]
        have h4n : 4 ≤ n := by omega
        have hse : sealedB b = (b.drop n == fourI (crc pSeal (b.take n))) := by
          simp only [sealedB, hbl]; simp [show 8 ≤ b.length by omega]
        have HSE : Hid (sealedB b = (b.drop n == fourI (crc pSeal (b.take n)))) := hse
        have HNL : Hid ((b.take n).length = n) := hnl
        have hc := crc_lt (p := pSeal) (by decide) (b.take n)
        have hnb : n ≤ 1099511627776 := by omega
        clear hz hbl hnl hse h8 hb
        go_enter Tryz.func14, Tryz.ntmps14
        go_wp2_with fail
        refine (rseal_any (b.take n) _ (by rw [HNL.out]; omega)).mono ?_
        rintro e w1 ⟨rfl, hb1⟩
        replace hR := hR.below hb1 hR.lt
        replace hB := hB.trans (hb1.mono (Nat.le_trans (Nat.le_succ _) (Nat.le_of_eq hW.symm)))
        clear hb1 hW
        go_wp2_with fail
        refine (rfour_any _ _ (by omega) (by omega)).mono ?_
        rintro e w2 ⟨rfl, hb2⟩
        replace hR := hR.below hb2 hR.lt
        replace hB := hB.trans (hb2.mono hB.size)
        clear hb2
        by_cases hq : fourI (crc pSeal (b.take n)) = b.drop n
        · have hqb : ((str (fourI (crc pSeal (b.take n)))).toList == (str (b.drop n)).toList) = true := by rw [str_beq, hq]; simp
          have hse2 : sealedB b = true := by rw [HSE.out, hq]; simp
          rw [hse2, if_pos rfl] at HC
          clear hse2 HSE hq
          go_wp2_with fail
          generalize hs9 : b.take n = s at *
          clear hs9 hmk hx4 hx1 hx2 hqb hn hsub hle2 h4
          have HS9 : Hid (s.length = n) := HNL.out
          have hwz := hR.lt
          go_loopw [8, 9, 10, 11] (fun v u _ _ wr => ∃ (i : Nat) (ad : Option Addr) (cap N k : Nat) (l : List Fd), i ≤ n ∧ u = .int .i64 i ∧ v = .slice ad N cap ∧ N = l.length ∧ N ≤ i ∧ s.length - i ≤ k ∧ (l ++ (frF k i (s.drop i)).1, (frF k i (s.drop i)).2) = framed s ∧ Vec wr (w.heap.size + 1) 64 9 ad N cap (fcells l) ∧ Bx wr w.heap.size 46 (lnkC 0 0 none 0 0 none 0 0 none 0 0) ∧ Below w.heap.size w wr) (fun _ u _ _ _ => n - (intOf u).toNat)
          case atStart => exact ⟨4, none, 0, 0, s.length, [], h4n, rfl, rfl, rfl, by omega, by omega, by simp [framed], Vec.nil _ _ _ _, hR, hB⟩
          case round =>
            clear hR hB hwz
            obtain ⟨i, ad, cap, N, k, l, hi, rfl, rfl, hN, hNi, hk, hl, hv, hR, hB⟩ := hrel
            have HN2 : Hid (N = l.length) := hN
            have HL : Hid ((l ++ (frF k i (s.drop i)).1, (frF k i (s.drop i)).2) = framed s) := hl
            have HK : Hid (s.length - i ≤ k) := hk
            clear hN hl hk
            by_cases hlt : i < n
            · have hi2 : i ≤ s.length := by rw [HS9.out]; omega
              go_wp2_with fail
              refine (rstands_any s i _ (by rw [HS9.out]; omega) hi2).mono ?_
              rintro e w3 ⟨rfl, hb3⟩
              replace hv := hv.keep hb3
              replace hR := hR.below hb3 hR.lt
              have hwz := hR.lt
              replace hB := hB.trans (hb3.mono hB.size)
              have hz1 := hB.size
              clear hb3
              obtain ⟨k, rfl⟩ : ∃ k', k = k' + 1 := ⟨k - 1, by have := HK.out; have := HS9.out; omega⟩
              have hne : s.drop i ≠ [] := by
                intro h; have := congrArg List.length h; simp at this; have := HS9.out; omega
              cases hst : standRd (s.drop i) with
              | none =>
                have hfr : framed s = (l, i) := by rw [← HL.out, frF_none hst]; simp
                have HN : Hid (readRd b = ansErr 9 i) := by show _ = _; rw [HC.out, hfr]; simp only; rw [if_pos hlt]
                simp only [standV]
                clear hst hne HL hfr HC
                go_wp2_with (refine wpList_bstore (by rfl) _ _ _ (by rfl) w.heap.size 46 (by rfl) _ _ (by rfl) (hR.alloc _) 5 (by rfl) (by kernel_rfl) (by rfl) (by intro x hx; simp at hx; rcases hx with rfl | rfl | rfl | rfl | rfl <;> rfl) ?_; intro w9 hR9 hU9; replace hR := hR9; replace hB := hU9.below (hB.alloc hB.size _) (Nat.le_refl _); clear hR9; clear hU9)
                exact bodyPost_ret (v := .tuple #[.agg (lnkC 0 0 none 0 0 none 0 0 none 0 0).toArray, .int .i64 9, .int .i64 (i : Int)]) (results_box3 (by rfl) _ _ w.heap.size 46 _ _ _ _ (by rfl) hR (by rfl) (by rfl) Tryz.underlying46 (by rfl) 5 (by rfl) (by kernel_rfl)) rfl ⟨by rw [HN.out]; exact ⟨none, 0, 0, none, 0, 0, none, 0, 0, rfl, Lists.nil _ _⟩, hB⟩
              | some p =>
                obtain ⟨f, q⟩ := p
                have hq7 := standRd_le hst
                simp at hq7
                have HS : Hid (((l ++ [f.putI i]) ++ (frF k (i + q) (s.drop (i + q))).1, (frF k (i + q) (s.drop (i + q))).2) = framed s) := by
                  show _ = _; rw [← HL.out, frF_some hne hst, List.drop_drop]; simp
                have hql : i + q ≤ n := by have := HS9.out; omega
                have hqq : 7 < q := by omega
                simp only [standV]
                clear hst hne HL hq7
                have hn0 : ((q : Int) == 0) = false := by rw [beq_eq_false_iff_ne]; omega
                have HX : Hid (∀ o1 o2, Vec ((w3.alloc o1).alloc o2) (w.heap.size + 1) 64 9 ad N cap (fcells l)) := fun o1 o2 => hv.keep (((Below.refl _ w3).alloc (Nat.le_refl _) _).alloc (by simp) _)
                go_wp2_with (at_builtin; refine wpList_push (by rfl) _ _ 62 (by rfl) (w.heap.size + 1) 64 9 80 (.agg #[.int .i64 0, .int .i64 0, .int .i64 0, .int .i64 0, .int .i64 0, .int .i64 0, .int .i64 0, .bool false, .string ⟨#[]⟩]) Tryz.underlying62 (by kernel_rfl) rfl (by decide) ad N cap _ (by rfl) (HX.out _ _) _ _ (f.putI i).cells (by rfl) rfl ?_ ?_ ?_ ?_ ?_ ?_; exact new_cells2 _ _ _ _; exact onesF _; (omega); (omega); (simp; omega); intro ad' cap' w' hv' hb' hs')
                have hR2 : Bx w' w.heap.size 46 (lnkC 0 0 none 0 0 none 0 0 none 0 0) := (((hR.alloc _).alloc _)).below hb' (by omega)
                have h2 : Below w.heap.size w w' := ((hB.alloc hz1 _).alloc (by simp; omega) _).trans (hb'.mono (by omega))
                have hv2 : Vec w' (w.heap.size + 1) 64 9 ad' (N + 1) cap' (fcells (l ++ [f.putI i])) := by
                  rw [fcells_append, fcells_one]; exact hv'
                go_roundw
                case rel => exact ⟨i + q, ad', cap', N + 1, k, l ++ [f.putI i], by omega, by go_num, rfl, by have := HN2.out; simp; omega, by omega, by have := HK.out; omega, HS.out, hv2, hR2, h2⟩
                case measure => have := HS9.out; simp [intOf]; omega
            · have he : s.drop i = [] := List.drop_of_length_le (by rw [HS9.out]; omega)
              have hfr : framed s = (l, i) := by rw [← HL.out, he, frF_nil]; simp
              rw [hfr] at HC
              simp only at HC
              rw [if_neg hlt] at HC
              have hkd : ∀ f ∈ l, Kd f := by have := frF_kd s.length 4 (s.drop 4); unfold framed at hfr; rw [hfr] at this; exact this
              have hvl := fvec_lies hv HN2.out
              have hNb : N ≤ 1099511627776 := by omega
              have HKD : Hid (∀ f ∈ l, Kd f) := hkd
              clear HL HK he hfr hkd hNi
              generalize hwr : wr = w5 at *
              clear hwr
              have hwz := hR.lt
              go_wp2_with fail
              clear hlt hzn hi hvl
              have HGP : Hid (w.heap.size < w5.heap.size) := hwz
              have HNE : Hid (∀ q, ad = some q → q.block ≠ w5.heap.size) := fun q hq e => by
                obtain ⟨_, cur, hc⟩ := hv.typed q.block (by rw [hq]; rfl)
                have := (Array.getElem?_eq_some_iff.1 hc).1
                omega
              have hst : Bx (w5.alloc (.cells #[.int .i64 0, .int .i64 0, .int .i64 0, .int .i64 0, .int .i64 0, .int .i64 0, .int .i64 0, .bool false, .string ⟨#[]⟩] 64)) w5.heap.size 64 fd0.cells ∧ Bx (w5.alloc (.cells #[.int .i64 0, .int .i64 0, .int .i64 0, .int .i64 0, .int .i64 0, .int .i64 0, .int .i64 0, .bool false, .string ⟨#[]⟩] 64)) w.heap.size 46 (lnkC 0 0 none 0 0 none 0 0 none 0 0) ∧ Vec (w5.alloc (.cells #[.int .i64 0, .int .i64 0, .int .i64 0, .int .i64 0, .int .i64 0, .int .i64 0, .int .i64 0, .bool false, .string ⟨#[]⟩] 64)) (w.heap.size + 1) 64 9 ad N cap (fcells l) ∧ Below w.heap.size w (w5.alloc (.cells #[.int .i64 0, .int .i64 0, .int .i64 0, .int .i64 0, .int .i64 0, .int .i64 0, .int .i64 0, .bool false, .string ⟨#[]⟩] 64)) := ⟨Bx.new w5 64 #[.int .i64 0, .int .i64 0, .int .i64 0, .int .i64 0, .int .i64 0, .int .i64 0, .int .i64 0, .bool false, .string ⟨#[]⟩], hR.alloc _, hv.keep ((Below.refl _ _).alloc (Nat.le_refl _) _), hB.alloc hB.size _⟩
              have HST : Hid (Bx (w5.alloc (.cells #[.int .i64 0, .int .i64 0, .int .i64 0, .int .i64 0, .int .i64 0, .int .i64 0, .int .i64 0, .bool false, .string ⟨#[]⟩] 64)) w5.heap.size 64 fd0.cells ∧ Bx (w5.alloc (.cells #[.int .i64 0, .int .i64 0, .int .i64 0, .int .i64 0, .int .i64 0, .int .i64 0, .int .i64 0, .bool false, .string ⟨#[]⟩] 64)) w.heap.size 46 (lnkC 0 0 none 0 0 none 0 0 none 0 0) ∧ Vec (w5.alloc (.cells #[.int .i64 0, .int .i64 0, .int .i64 0, .int .i64 0, .int .i64 0, .int .i64 0, .int .i64 0, .bool false, .string ⟨#[]⟩] 64)) (w.heap.size + 1) 64 9 ad N cap (fcells l) ∧ Below w.heap.size w (w5.alloc (.cells #[.int .i64 0, .int .i64 0, .int .i64 0, .int .i64 0, .int .i64 0, .int .i64 0, .int .i64 0, .bool false, .string ⟨#[]⟩] 64))) := hst
              clear hst hv hR hB
              generalize w5.heap.size = gp at *
              go_loopw [13, 14] (fun u _ wr => ∃ (j : Nat) (p : Fd), j ≤ N ∧ u = .int .i64 j ∧ OI l j p ∧ Bx wr gp 64 p.cells ∧ Bx wr w.heap.size 46 (lnkC 0 0 none 0 0 none 0 0 none 0 0) ∧ Vec wr (w.heap.size + 1) 64 9 ad N cap (fcells l) ∧ Below w.heap.size w wr) (fun u _ _ => N - (intOf u).toNat)
              case atStart => exact ⟨0, fd0, Nat.zero_le _, rfl, Or.inl ⟨rfl, rfl⟩, HST.out.1, HST.out.2.1, HST.out.2.2.1, HST.out.2.2.2⟩
              case round =>
                clear HST
                obtain ⟨j, p, hj, rfl, hoi, hP, hR, hv, hB⟩ := hrel
                have HOI : Hid (OI l j p) := hoi
                clear hoi
                have hvl := fvec_lies hv HN2.out
                by_cases hlt : j < N
                · have hjl : j < l.length := by rw [← HN2.out]; exact hlt
                  obtain ⟨b2, o2, hbl2, hix2, d0, d1, d2, d3, d4, d5, d6, d7, d8⟩ := hvl.found cap hlt
                  have HOT : Hid (okB j p (l.getD j fd0) = true → OI l (j + 1) (l.getD j fd0)) := fun h => HOI.out.step hjl h
                  have HOF : Hid (okB j p (l.getD j fd0) = false → ordRd l = some (l.getD j fd0).at_) := fun h => HOI.out.bad hjl h
                  clear HOI hjl hvl
                  generalize l.getD j fd0 = f at *
                  generalize hwr : wr = W at *
                  clear hwr
                  have e0 := hP.cell 0
                  have e1 := hP.cell 1
                  have e2 := hP.cell 2
                  have e3 := hP.cell 3
                  have e4 := hP.cell 4
                  have e5 := hP.cell 5
                  have e6 := hP.cell 6
                  have e7 := hP.cell 7
                  have e8 := hP.cell 8
                  dsimp only [Fd.cells, List.getElem?_cons_zero, List.getElem?_cons_succ] at e0 e1 e2 e3 e4 e5 e6 e7 e8
                  go_wp2_with fail
                  apply merge
                  · intro KEY
                    go_region_law (go_simp; go_at_call 35; refine (fitsC_any p f j _).mono ?_; rintro e w' ⟨rfl, hb'⟩; dsimp only)
                    all_goals
                      have hb9 : Below W.heap.size W w' := Below.trans (Below.drew (Below.refl _ _)) hb'
                      clear hb'
                      revert w'
                      exact KEY.out
                  intro w7 hb7
                  replace hP := hP.below hb7 hP.lt
                  replace hR := hR.below hb7 hR.lt
                  replace hv := hv.keep hb7
                  replace hB := hB.trans (hb7.mono hB.size)
                  replace d0 := (hb7.cell (p := ⟨b2, o2, none⟩) hbl2).trans d0
                  replace d1 := (hb7.cell (p := ⟨b2, o2 + 1, none⟩) hbl2).trans d1
                  replace d2 := (hb7.cell (p := ⟨b2, o2 + 2, none⟩) hbl2).trans d2
                  replace d3 := (hb7.cell (p := ⟨b2, o2 + 3, none⟩) hbl2).trans d3
                  replace d4 := (hb7.cell (p := ⟨b2, o2 + 4, none⟩) hbl2).trans d4
                  replace d5 := (hb7.cell (p := ⟨b2, o2 + 5, none⟩) hbl2).trans d5
                  replace d6 := (hb7.cell (p := ⟨b2, o2 + 6, none⟩) hbl2).trans d6
                  replace d7 := (hb7.cell (p := ⟨b2, o2 + 7, none⟩) hbl2).trans d7
                  replace d8 := (hb7.cell (p := ⟨b2, o2 + 8, none⟩) hbl2).trans d8
                  clear hb7 e0 e1 e2 e3 e4 e5 e6 e7 e8
                  cases hok : okB j p f with
                  | true =>
                    have HOK := HOT.out hok
                    clear HOT HOF hok
                    go_wp2_with (refine wpList_bstore (by rfl) _ _ _ (by rfl) gp 64 (by rfl) _ f.cells (by rfl) hP 9 (by rfl) (by kernel_rfl) (by rfl) (onesF f) ?_; intro w9 hP9 hU9; have hR9 := hR.upd hU9 (fun e => by rw [e] at hR; have := hR.h; rw [hP.h] at this; simp at this); have hv9 := hv.updo hU9 HNE.out; have hB9 := hU9.below hB (Nat.le_of_lt (HGP.out)))
                    go_roundw
                    case rel => exact ⟨j + 1, f, by omega, by go_num, HOK, hP9, hR9, hv9, hB9⟩
                    case measure => simp [intOf]; omega
                  | false =>
                    have HN : Hid (readRd b = ansErr 10 f.at_) := by show _ = _; rw [HC.out, HOF.out hok]
                    clear HOT HOF hok HC
                    have hbn : b2 ≠ w.heap.size := by
                      intro e
                      rw [e, hR.cell] at d8
                      rw [List.getElem?_eq_none (by simp)] at d8
                      cases d8
                    have r0 := hR.cell 0
                    have r1 := hR.cell 1
                    have r2 := hR.cell 2
                    have r3 := hR.cell 3
                    have r4 := hR.cell 4
                    dsimp only [List.getElem?_cons_zero, List.getElem?_cons_succ] at r0 r1 r2 r3 r4
                    have f0 := hR.frozen 0
                    have f1 := hR.frozen 1
                    have f2 := hR.frozen 2
                    have f3 := hR.frozen 3
                    have f4 := hR.frozen 4
                    have HRX : Hid (Bx w7 w.heap.size 46 (lnkC 0 0 none 0 0 none 0 0 none 0 0) ∧ Below w.heap.size w w7) := ⟨hR, hB⟩
                    clear hR hB hP hv
                    go_wp2_with fail
                    go_region_law (fail)
                    all_goals
                      go_wp2_with fail
                    all_goals
                      exact bodyPost_ret (v := .tuple #[.agg (lnkC 0 0 none 0 0 none 0 0 none 0 0).toArray, .int .i64 10, .int .i64 f.at_]) (results_box3 (by rfl) _ _ w.heap.size 46 (lnkC 0 0 none 0 0 none 0 0 none 0 0) _ _ _ (by first | rfl | simp) (bx5 HRX.out.1) (by first | rfl | simp) (by first | rfl | simp) Tryz.underlying46 (by rfl) 5 (by rfl) (by kernel_rfl)) (by first | rfl | simp) ⟨by rw [HN.out]; exact ⟨none, 0, 0, none, 0, 0, none, 0, 0, rfl, Lists.nil _ _⟩, be5 HRX.out.2⟩
                · have hjN : j = N := by omega
                  subst hjN
                  by_cases hz0 : j = 0
                  · have hn0 : ((j : Int) == 0) = true := by simp [hz0]
                    have HN : Hid (readRd b = ansErr 10 4) := by
                      show _ = _; rw [HC.out]
                      have : l = [] := List.eq_nil_of_length_eq_zero (by have := HN2.out; omega)
                      rw [this]; rfl
                    clear HC HOI hz0 hvl
                    go_wp2_with (refine wpList_bstore (by rfl) _ _ _ (by rfl) w.heap.size 46 (by rfl) _ _ (by rfl) hR 5 (by rfl) (by kernel_rfl) (by rfl) (by intro x hx; simp at hx; rcases hx with rfl | rfl | rfl | rfl | rfl <;> rfl) ?_; intro w9 hR9 hU9; replace hR := hR9; replace hB := hU9.below hB (Nat.le_refl _); clear hR9; clear hU9)
                    exact bodyPost_ret (v := .tuple #[.agg (lnkC 0 0 none 0 0 none 0 0 none 0 0).toArray, .int .i64 10, .int .i64 4]) (results_box3 (by rfl) _ _ w.heap.size 46 _ _ _ _ (by rfl) hR (by rfl) (by rfl) Tryz.underlying46 (by rfl) 5 (by rfl) (by kernel_rfl)) rfl ⟨by rw [HN.out]; exact ⟨none, 0, 0, none, 0, 0, none, 0, 0, rfl, Lists.nil _ _⟩, hB⟩
                  · have hn0 : ((j : Int) == 0) = false := by simp [hz0]
                    have hord : ordRd l = none := by have h := HOI.out; rw [HN2.out] at h; exact h.done (by have := HN2.out; omega)
                    have HN : Hid (readRd b = ansOk l) := by show _ = _; rw [HC.out, hord]
                    clear HC HOI
                    have hg3 := hR.lt
                    go_wp2_with fail
                    refine (linked_any l ad j cap _ HN2.out hvl (ordered_of hord) (by omega)).mono ?_
                    rintro e w9 ⟨a1, n1, c1, a2, n2, c2, a3, n3, c3, rfl, hT, hb9⟩
                    replace hR := hR.below hb9 hR.lt
                    have hL := hT.lists
                    replace hB := hB.trans (hb9.mono hB.size)
                    clear hb9 hT hord hvl hv hP
                    go_wp2_with (refine wpList_bstore (by rfl) _ _ _ (by rfl) w.heap.size 46 (by rfl) _ _ (by rfl) hR 5 (by rfl) (by kernel_rfl) (by rfl) (by intro x hx; simp at hx; rcases hx with rfl | rfl | rfl | rfl | rfl <;> rfl) ?_; intro w9 hR9 hU9; replace hR := hR9; replace hB := hU9.below hB (Nat.le_refl _); clear hR9; replace hL := hL.upd hU9 hg3; clear hU9)
                    exact bodyPost_ret (v := .tuple #[.agg (lnkC (l.getD 0 fd0).seq (l.getD 0 fd0).base a1 n1 c1 a2 n2 c2 a3 n3 c3).toArray, .int .i64 0, .int .i64 0]) (results_box3 (by rfl) _ _ w.heap.size 46 _ _ _ _ (by rfl) hR (by rfl) (by rfl) Tryz.underlying46 (by rfl) 5 (by rfl) (by kernel_rfl)) rfl ⟨by rw [HN.out]; exact ⟨a1, _, c1, a2, _, c2, a3, _, c3, rfl, hL.mono (Nat.le_of_lt hg3)⟩, hB⟩
        · have hqb : ((str (fourI (crc pSeal (b.take n)))).toList == (str (b.drop n)).toList) = false := by rw [str_beq, beq_eq_false_iff_ne]; exact hq
          have HN : Hid (readRd b = ansErr 8 0) := by
            show _ = _; rw [HC.out, HSE.out, if_neg]; rw [beq_iff_eq]; exact fun h => hq h.symm
          clear HC HSE hq
          go_wp2_with (refine wpList_bstore (by rfl) _ _ _ (by rfl) w.heap.size 46 (by rfl) _ _ (by rfl) hR 5 (by rfl) (by kernel_rfl) (by rfl) (by intro x hx; simp at hx; rcases hx with rfl | rfl | rfl | rfl | rfl <;> rfl) ?_; intro w9 hR9 hU9; replace hR := hR9; replace hB := hU9.below hB (Nat.le_refl _); clear hR9; clear hU9)
          exact bodyPost_ret (v := .tuple #[.agg (lnkC 0 0 none 0 0 none 0 0 none 0 0).toArray, .int .i64 8, .int .i64 0]) (results_box3 (by rfl) _ _ w.heap.size 46 _ _ _ _ (by rfl) hR (by rfl) (by rfl) Tryz.underlying46 (by rfl) 5 (by rfl) (by kernel_rfl)) rfl ⟨by rw [HN.out]; exact ⟨none, 0, 0, none, 0, 0, none, 0, 0, rfl, Lists.nil _ _⟩, hB⟩
    · have hmk : ((str (b.take 4)).toList == [80, 82, 67, 49]) = false := by rw [str_toList, beq_eq_false_iff_ne]; exact hm
      have HN : Hid (readRd b = ansErr 7 0) := by show _ = _; unfold readRd; rw [if_pos (Or.inr hm)]
      clear hz hm
      go_enter Tryz.func14, Tryz.ntmps14
      go_wp2_with fail
      exact bodyPost_ret (v := .tuple #[.agg (lnkC 0 0 none 0 0 none 0 0 none 0 0).toArray, .int .i64 7, .int .i64 0]) (results_box3 (by rfl) _ _ w.heap.size 46 _ _ _ _ (by rfl) hR (by rfl) (by rfl) Tryz.underlying46 (by rfl) 5 (by rfl) (by kernel_rfl)) rfl ⟨by rw [HN.out]; exact ⟨none, 0, 0, none, 0, 0, none, 0, 0, rfl, Lists.nil _ _⟩, hB⟩
end Go.Proofs.YtdjpkgaicmklmaaGreat

/- sameFound, and what own.kept asks: walked. -/
namespace Go.Proofs.YtdjpkgaicmklmaaGreat
open Go.RowKit

theorem books_lies {Sh : List Value → Prop} {w : World} {B e eb m : Nat} {ad : Option Addr} {cap : Nat} {L : List Bk} (h : Books Sh w B e eb m ad cap L) : Lies w ad L.length (m + 1) (fun i => (L.getD i ⟨none, 0, 0, []⟩).cells) := by
  refine Vec.lies (rows := L.map Bk.cells) h.list ?_ (by simp) _ ?_
  · intro r hr; obtain ⟨x, hx, rfl⟩ := List.mem_map.1 hr; simp [(h.each x hx).len]
  · intro i hi; simp [List.getD, hi]
theorem rep_lies {w : World} {B e m : Nat} {ad : Option Addr} {n cap : Nat} {mk : List Value} (h : Vec w B e m ad n cap (rep n mk)) (hm : mk.length = m) : Lies w ad n m (fun _ => mk) := by
  refine Vec.lies (rows := List.replicate n mk) h ?_ (by simp) _ ?_
  · intro r hr; rw [(List.mem_replicate.1 hr).2]; exact hm
  · intro i hi; simp [List.getD, hi]

end Go.Proofs.YtdjpkgaicmklmaaGreat

/- own.kept, walked: each book's list reads its mark. -/
namespace Go.Proofs.YtdjpkgaicmklmaaGreat
open Go.RowKit

end Go.Proofs.YtdjpkgaicmklmaaGreat

/- The owner writes over what came out: (*parcellaw.own).ofCards, walked. -/
namespace Go.Proofs.YtdjpkgaicmklmaaGreat
open Go.RowKit

end Go.Proofs.YtdjpkgaicmklmaaGreat

/- The owner writes over what came out: (*parcellaw.own).ofEdits, walked. -/
namespace Go.Proofs.YtdjpkgaicmklmaaGreat
open Go.RowKit

end Go.Proofs.YtdjpkgaicmklmaaGreat

/- The owner writes over what came out: (*parcellaw.own).replica, walked. -/
namespace Go.Proofs.YtdjpkgaicmklmaaGreat
open Go.RowKit

theorem Books.old {Sh : List Value → Prop} {w : World} {B e eb m : Nat} {ad : Option Addr} {cap : Nat} {L : List Bk} (h : Books Sh w B e eb m ad cap L) : ∀ x, x ∈ L → ∀ b, x.ad = some b → b.block < w.heap.size := by
  intro x hx b hb
  obtain ⟨_, cur, hc⟩ := (h.each x hx).vec.typed b.block (by rw [hb]; rfl)
  exact (Array.getElem?_eq_some_iff.1 hc).1

theorem bx_six {Sh : List Value → Prop} {w0 w X w6 : World} {B B1 go gm tT e eb m f gr tr : Nat} {oc mk row cs : List Value} {ad : Option Addr} {N cap : Nat} {a4 : Option Addr} {c4 : Nat} {L : List Bk} (hk : Kp (a4.map (·.block)) row X w6) (h : St Sh w0 w B B1 go gm tT e eb m f oc mk ad N cap a4 c4 L) (hG : Bx w gr tr cs) (hb : Below w.heap.size w X) (h1 : eb ≠ tr) : Bx w6 gr tr cs :=
  (hG.below hb hG.lt).kp hk ((hG.below hb hG.lt).apart (h.b.keep hb) h1)
theorem Bx.but3 {w w' : World} {k t go e eb : Nat} {cs : List Value} (b : Bx w k t cs) (hb : But3 go e eb w w') (hk : k ≠ go) (h1 : t ≠ e) (h2 : t ≠ eb) : Bx w' k t cs := ⟨hb.block k _ t hk b.h h1 h2⟩

end Go.Proofs.YtdjpkgaicmklmaaGreat

/- own.replicasKept, walked: each book's list reads its mark. -/
namespace Go.Proofs.YtdjpkgaicmklmaaGreat
open Go.RowKit

end Go.Proofs.YtdjpkgaicmklmaaGreat

/- Reads: called with any bytes, up to very many, it answers true. -/
namespace Go.Proofs.YtdjpkgaicmklmaaGreat
open Go.RowKit

theorem Lists.has {w : World} {B : Nat} {K : List Ck} {C : List Cd} {E : List Ed} {a1 : Option Addr} {n1 c1 : Nat} {a2 : Option Addr} {n2 c2 : Nat} {a3 : Option Addr} {n3 c3 : Nat} (h : Lists w B K C E a1 n1 c1 a2 n2 c2 a3 n3 c3) (h1 : n1 ≤ 1099511627776) (h2 : n2 ≤ 1099511627776) (h3 : n3 ≤ 1099511627776) :
    Has w (repOf K C E) a1 a2 a3 ∧ repV (repOf K C E) a1 a2 a3 c1 c2 c3 = .agg #[.slice a1 n1 c1, .slice a2 n2 c2, .slice a3 n3 c3] := by
  obtain ⟨v1, v2, v3, rfl, rfl, rfl⟩ := h
  refine ⟨⟨kvec_lies v1 rfl, cvec_lies v2 rfl, evec_lies v3 rfl, ?_, ?_, ?_, ?_, ?_, ?_⟩, rfl⟩ <;> simp only [repOf] <;> omega
theorem readRd_few (b : List UInt8) : (readRd b).K.length ≤ b.length ∧ (readRd b).C.length ≤ b.length ∧ (readRd b).E.length ≤ b.length := by
  have hl : ∀ l : List Fd, l.length ≤ b.length → (ansOk l).K.length ≤ b.length ∧ (ansOk l).C.length ≤ b.length ∧ (ansOk l).E.length ≤ b.length := fun l h => ⟨Nat.le_trans (ckOf_le l) h, Nat.le_trans (cdOf_le l) h, Nat.le_trans (edOf_le l) h⟩
  have he : ∀ e p, (ansErr e p).K.length ≤ b.length ∧ (ansErr e p).C.length ≤ b.length ∧ (ansErr e p).E.length ≤ b.length := fun e p => ⟨by simp [ansErr], by simp [ansErr], by simp [ansErr]⟩
  unfold readRd
  split
  · exact he _ _
  · split
    · split
      · exact he _ _
      · split
        · exact he _ _
        · refine hl _ ?_
          have := frF_length (b.take (b.length - 4)).length 4 ((b.take (b.length - 4)).drop 4)
          unfold framed
          refine Nat.le_trans this ?_
          simp
    · exact he _ _

end Go.Proofs.YtdjpkgaicmklmaaGreat

/- Restores: called with any bytes, up to very many, it answers true. -/
namespace Go.Proofs.YtdjpkgaicmklmaaGreat
open Go.RowKit

/-- What Restore answers, out of what Read does. -/
def restOf (x : Ans) : Ans := if x.err = 0 then (if x.seq = 0 then (if (repOf x.K x.C x.E).chk = 0 then ⟨0, 0, 0, 0, x.K, x.C, x.E⟩ else ansErr (repOf x.K x.C x.E).chk 0) else ansErr 11 0) else ansErr x.err x.place
def restRd (b : List UInt8) : Ans := restOf (readRd b)
def RestAns (x : Ans) (B : Nat) (e : Ending) (w' : World) : Prop := ∃ a1 n1 c1 a2 n2 c2 a3 n3 c3, e = .returned (.tuple #[.agg #[.slice a1 n1 c1, .slice a2 n2 c2, .slice a3 n3 c3], .int .i64 x.err, .int .i64 x.place]) ∧ Lists w' B x.K x.C x.E a1 n1 c1 a2 n2 c2 a3 n3 c3
theorem restRd_few (b : List UInt8) : (restRd b).K.length ≤ b.length ∧ (restRd b).C.length ≤ b.length ∧ (restRd b).E.length ≤ b.length := by
  have he : ∀ e p, (ansErr e p).K.length ≤ b.length ∧ (ansErr e p).C.length ≤ b.length ∧ (ansErr e p).E.length ≤ b.length := fun e p => ⟨by simp [ansErr], by simp [ansErr], by simp [ansErr]⟩
  unfold restRd restOf
  split
  · split
    · split
      · exact readRd_few b
      · exact he _ _
    · exact he _ _
  · exact he _ _

abbrev repC (a1 : Option Addr) (n1 c1 : Nat) (a2 : Option Addr) (n2 c2 : Nat) (a3 : Option Addr) (n3 c3 : Nat) : List Value := [.slice a1 n1 c1, .slice a2 n2 c2, .slice a3 n3 c3]

end Go.Proofs.YtdjpkgaicmklmaaGreat

/- Restore of Export is that replica: without the program. -/
namespace Go.Proofs.YtdjpkgaicmklmaaGreat
open Go.RowKit

theorem clockTo_congr {c d : Nat → Ck} {site : Int} : ∀ {n : Nat}, (∀ i, i < n → c i = d i) → clockTo c site n = clockTo d site n
  | 0, _ => rfl
  | n + 1, h => by simp only [clockTo]; rw [clockTo_congr (fun i hi => h i (by omega)), h n (by omega)]
/-- The same replicas are alike to Check. -/
theorem Same.chk {R T : Rep} (h : Same R T) : R.chk = T.chk := by
  have e1 : R.manyB = T.manyB := by unfold Rep.manyB; rw [h.n1, h.n2, h.n3]
  have e2 : R.numB = T.numB := by
    unfold Rep.numB
    rw [anyTo_congr (q := T.num1) (fun i hi => by unfold Rep.num1; rw [h.c i hi]), anyTo_congr (p := R.num2) (q := T.num2) (fun i hi => by unfold Rep.num2; rw [h.d i hi]), anyTo_congr (p := R.num3) (q := T.num3) (fun i hi => by unfold Rep.num3; rw [h.e i hi]), h.n1, h.n2, h.n3]
  have e3 : R.txtB = T.txtB := by
    unfold Rep.txtB
    rw [anyTo_congr (q := T.txt2) (fun i hi => by unfold Rep.txt2; rw [h.d i hi]), anyTo_congr (p := R.txt3) (q := T.txt3) (fun i hi => by unfold Rep.txt3; rw [h.e i hi]), h.n2, h.n3]
  have e4 : R.risB = T.risB := by
    unfold Rep.risB
    rw [anyTo_congr (q := T.ris1) (fun i hi => by unfold Rep.ris1; rw [h.c i (by omega), h.c (i + 1) (by omega)]), anyTo_congr (p := R.ris2) (q := T.ris2) (fun i hi => by unfold Rep.ris2; rw [h.d i (by omega), h.d (i + 1) (by omega)]), h.n1, h.n2]
  have e5 : R.uncB = T.uncB := by
    unfold Rep.uncB
    rw [anyTo_congr (q := T.unc) (fun i hi => by unfold Rep.unc Rep.clk; rw [clockTo_congr h.c, h.d i hi, h.n1]), h.n2]
  have e6 : R.clashB = T.clashB := by
    unfold Rep.clashB
    rw [anyTo_congr (q := T.clash) (fun i hi => by unfold Rep.clash; rw [anyTo_congr (q := fun k => stampB (T.d i) (T.d k)) (fun k hk => by rw [h.d i hi, h.d k (by omega)])]), h.n2]
  unfold Rep.chk
  rw [e1, e2, e3, e4, e5, e6]
theorem same_lists (R : Rep) : Same (repOf ((List.range R.n1).map R.c) ((List.range R.n2).map R.d) ((List.range R.n3).map R.e)) R := by
  refine ⟨by simp [repOf], by simp [repOf], by simp [repOf], fun i hi => ?_, fun i hi => ?_, fun i hi => ?_⟩
  · have : i < R.n1 := by simpa [repOf] using hi
    simp [repOf, List.getD, this]
  · have : i < R.n2 := by simpa [repOf] using hi
    simp [repOf, List.getD, this]
  · have : i < R.n3 := by simpa [repOf] using hi
    simp [repOf, List.getD, this]
/-- Restore of a sound replica's bundle is that replica. -/
theorem restRd_bundle {R : Rep} (h : R.chk = 0) : restRd (bundleB (recsOf 0 0 R)) = ⟨0, 0, 0, 0, (List.range R.n1).map R.c, (List.range R.n2).map R.d, (List.range R.n3).map R.e⟩ := by
  unfold restRd
  rw [readRd_bundle (Rep.fit h) (Rep.rising h) ⟨by decide, by decide⟩ (by decide) (by decide) (fun _ => rfl)]
  simp only [restOf]
  rw [if_pos trivial, if_pos trivial, if_pos (by rw [(same_lists R).chk, h])]
end Go.Proofs.YtdjpkgaicmklmaaGreat

/- Bits of bytes turned over: without the program. -/
namespace Go.Proofs.YtdjpkgaicmklmaaGreat
open Go.RowKit

theorem allBits_get : ∀ (l : List UInt8) (i : Nat), (allBits l)[i]? = (l[i / 8]?).map fun x => x.toNat.testBit (7 - i % 8)
  | [], i => by simp [allBits]
  | x :: l, i => by
    rw [show allBits (x :: l) = bitsOf x ++ allBits l from by rw [show x :: l = [x] ++ l from rfl, allBits_append, allBits_one]]
    by_cases h : i < 8
    · rw [List.getElem?_append_left (by simpa [bitsOf] using h), show i / 8 = 0 by omega]
      have : i = 0 ∨ i = 1 ∨ i = 2 ∨ i = 3 ∨ i = 4 ∨ i = 5 ∨ i = 6 ∨ i = 7 := by omega
      rcases this with rfl | rfl | rfl | rfl | rfl | rfl | rfl | rfl <;> rfl
    · rw [List.getElem?_append_right (by simp [bitsOf]; omega), show i - (bitsOf x).length = i - 8 by simp [bitsOf], allBits_get l (i - 8)]
      rw [show i / 8 = (i - 8) / 8 + 1 by omega, List.getElem?_cons_succ, show (i - 8) % 8 = i % 8 by omega]
theorem bits_byte {x y : UInt8} (h : bitsOf x = bitsOf y) : x = y := by
  simp only [bitsOf, List.cons.injEq, and_true] at h
  obtain ⟨h7, h6, h5, h4, h3, h2, h1, h0⟩ := h
  apply UInt8.toNat_inj.mp
  apply Nat.eq_of_testBit_eq
  intro i
  by_cases hi : i < 8
  · have : i = 0 ∨ i = 1 ∨ i = 2 ∨ i = 3 ∨ i = 4 ∨ i = 5 ∨ i = 6 ∨ i = 7 := by omega
    rcases this with rfl | rfl | rfl | rfl | rfl | rfl | rfl | rfl <;> assumption
  · have hx := x.toNat_lt
    have hy := y.toNat_lt
    have hp : 2 ^ 8 ≤ 2 ^ i := Nat.pow_le_pow_right (by omega) (by omega)
    rw [Nat.testBit_lt_two_pow (by omega), Nat.testBit_lt_two_pow (by omega)]
theorem allBits_inj : ∀ {s t : List UInt8}, allBits s = allBits t → s = t
  | [], [], _ => rfl
  | [], _ :: _, h => by have := congrArg List.length h; rw [allBits_length, allBits_length] at this; simp at this
  | _ :: _, [], h => by have := congrArg List.length h; rw [allBits_length, allBits_length] at this; simp at this
  | x :: s, y :: t, h => by
    rw [show x :: s = [x] ++ s from rfl, show y :: t = [y] ++ t from rfl, allBits_append, allBits_append, allBits_one, allBits_one] at h
    have := List.append_inj h (by simp [bitsOf])
    rw [bits_byte this.1, allBits_inj this.2]

/-- A bit turned over. -/
def flipB (x : UInt8) (r : Nat) : UInt8 := x ^^^ UInt8.ofNat (2 ^ (7 - r))
def flipAt (l : List UInt8) (i : Nat) : List UInt8 := l.set (i / 8) (flipB (l.getD (i / 8) 0) (i % 8))
/-- The first k of the bits that are asked for, from bit a on. -/
def turnB (bit : Nat → Bool) (a : Nat) (s : List UInt8) : Nat → List UInt8
  | 0 => s
  | k + 1 => if bit k = true ∧ (a + k) / 8 < s.length then flipAt (turnB bit a s k) (a + k) else turnB bit a s k
theorem turn_len (bit : Nat → Bool) (a : Nat) (s : List UInt8) : ∀ k, (turnB bit a s k).length = s.length
  | 0 => rfl
  | k + 1 => by
    simp only [turnB]; split
    · simp [flipAt, turn_len bit a s k]
    · exact turn_len bit a s k

theorem flip_bit (x : UInt8) (r q : Nat) (hr : r < 8) (hq : q < 8) : (flipB x r).toNat.testBit (7 - q) = (x.toNat.testBit (7 - q) != decide (q = r)) := by
  unfold flipB
  rw [UInt8.toNat_xor, Nat.testBit_xor]
  have e : (UInt8.ofNat (2 ^ (7 - r))).toNat = 2 ^ (7 - r) := by
    rw [UInt8.toNat_ofNat']
    apply Nat.mod_eq_of_lt
    calc 2 ^ (7 - r) ≤ 2 ^ 7 := Nat.pow_le_pow_right (by omega) (by omega)
      _ < 2 ^ 8 := by decide
  rw [e, Nat.testBit_two_pow]
  congr 1
  exact decide_eq_decide.mpr (by omega)
/-- Turning over one bit leaves the others. -/
theorem flip_bits (l : List UInt8) (i j : Nat) (hi : i / 8 < l.length) : (allBits (flipAt l i))[j]? = ((allBits l)[j]?).map fun x => x != decide (j = i) := by
  rw [allBits_get, allBits_get]
  unfold flipAt
  by_cases hj : j / 8 = i / 8
  · rw [hj, List.getElem?_set_self hi, List.getElem?_eq_getElem hi]
    simp only [Option.map_some, List.getD_eq_getElem?_getD, List.getElem?_eq_getElem hi, Option.getD_some]
    rw [flip_bit _ _ _ (by omega) (by omega)]
    congr 2
    exact decide_eq_decide.mpr (by omega)
  · rw [List.getElem?_set_ne (by omega)]
    have : j ≠ i := fun e => hj (by rw [e])
    simp only [Option.map_map]
    congr 1
    funext x
    simp [this]
theorem turn_bits (bit : Nat → Bool) (a : Nat) (s : List UInt8) (j : Nat) : ∀ k, (allBits (turnB bit a s k))[j]? = ((allBits s)[j]?).map fun x => x != (decide (a ≤ j ∧ j < a + k) && bit (j - a))
  | 0 => by
    have : decide (a ≤ j ∧ j < a + 0) = false := decide_eq_false (by omega)
    rw [this]; simp [turnB]
  | k + 1 => by
    simp only [turnB]
    by_cases hb : bit k = true ∧ (a + k) / 8 < s.length
    · rw [if_pos hb, flip_bits _ _ _ (by rw [turn_len]; exact hb.2), turn_bits bit a s j k, Option.map_map]
      congr 1
      funext x
      simp only [Function.comp_apply]
      by_cases hj : j = a + k
      · rw [hj, show a + k - a = k by omega, hb.1]; simp
      · rw [decide_eq_false hj, show decide (a ≤ j ∧ j < a + (k + 1)) = decide (a ≤ j ∧ j < a + k) from decide_eq_decide.mpr (by omega)]; simp
    · rw [if_neg hb, turn_bits bit a s j k]
      by_cases hj : j = a + k
      · by_cases hb1 : bit k = true
        · have : s.length ≤ (a + k) / 8 := by
            rcases Nat.lt_or_ge ((a + k) / 8) s.length with h | h
            · exact absurd ⟨hb1, h⟩ hb
            · exact h
          rw [List.getElem?_eq_none (by rw [allBits_length]; omega)]; rfl
        · congr 1; funext x
          rw [hj, show a + k - a = k by omega, eq_false_of_ne_true hb1]; simp
      · rw [show decide (a ≤ j ∧ j < a + (k + 1)) = decide (a ≤ j ∧ j < a + k) from decide_eq_decide.mpr (by omega)]
/-- All of it that is turned lies within k bits. -/
theorem turn_parts (bit : Nat → Bool) (a : Nat) (s : List UInt8) (k : Nat) :
    ∃ x e e' c, allBits s = x ++ e ++ c ∧ allBits (turnB bit a s k) = x ++ e' ++ c ∧ e.length = e'.length ∧ e.length ≤ k := by
  have split3 : ∀ l : List Bool, l = l.take a ++ (l.drop a).take k ++ l.drop (a + k) := by
    intro l; rw [List.append_assoc, ← List.drop_drop, List.take_append_drop, List.take_append_drop]
  have hlen : (allBits (turnB bit a s k)).length = (allBits s).length := by rw [allBits_length, allBits_length, turn_len]
  refine ⟨(allBits s).take a, ((allBits s).drop a).take k, ((allBits (turnB bit a s k)).drop a).take k, (allBits s).drop (a + k), split3 _, ?_, by simp [hlen], by simp; omega⟩
  conv => lhs; rw [split3 (allBits (turnB bit a s k))]
  congr 1
  · congr 1
    apply List.ext_getElem?; intro j
    by_cases hj : j < a
    · rw [List.getElem?_take_of_lt hj, List.getElem?_take_of_lt hj, turn_bits, show decide (a ≤ j ∧ j < a + k) = false from decide_eq_false (by omega)]; simp
    · rw [List.getElem?_eq_none (by simp; omega), List.getElem?_eq_none (by simp; omega)]
  · apply List.ext_getElem?; intro j
    rw [List.getElem?_drop, List.getElem?_drop, turn_bits, show decide (a ≤ a + k + j ∧ a + k + j < a + k) = false from decide_eq_false (by omega)]; simp
/-- One bit that is turned over within the bytes: they are others. -/
theorem turn_one (bit : Nat → Bool) (a : Nat) (s : List UInt8) (k i : Nat) (hi : i < k) (hb : bit i = true) (ha : a + i < 8 * s.length) : turnB bit a s k ≠ s := by
  intro h
  have e := turn_bits bit a s (a + i) k
  rw [h, List.getElem?_eq_getElem (by rw [allBits_length]; exact ha), show decide (a ≤ a + i ∧ a + i < a + k) = true from decide_eq_true (by omega), show a + i - a = i by omega, hb] at e
  simp at e

/-- The sum of bytes in which bits within 32 are turned is another. -/
theorem crc_turned {p : Nat} (hp : p < 4294967296) (ho : p % 2 = 1) (bit : Nat → Bool) (a : Nat) (s : List UInt8) (h : turnB bit a s 32 ≠ s) : crc p (turnB bit a s 32) ≠ crc p s := by
  obtain ⟨x, e, e', c, h1, h2, h3, h4⟩ := turn_parts bit a s 32
  intro hc
  have := crc_turn hp ho _ _ x e e' c h1 h2 h3 h4 hc.symm
  rw [this] at h1
  exact h (allBits_inj (h2.trans h1.symm))
/-- What ends in its own sum, with such bits turned, does not. -/
theorem seal_turned {p : Nat} (hp : p < 4294967296) (ho : p % 2 = 1) (bit : Nat → Bool) (a : Nat) (s t : List UInt8) (h : turnB bit a (s ++ fourI (crc p s)) 32 = t ++ fourI (crc p t)) : turnB bit a (s ++ fourI (crc p s)) 32 = s ++ fourI (crc p s) := by
  obtain ⟨x, e, e', c, h1, h2, h3, h4⟩ := turn_parts bit a (s ++ fourI (crc p s)) 32
  have := torn hp ho s t x e e' c h1 (by rw [← h]; exact h2) h3 h4
  rw [this] at h1
  exact allBits_inj (h2.trans h1.symm)
theorem vol_turned {i n : Nat} {s : Nat} {p : List UInt8} (bit : Nat → Bool) (a : Nat) (h : turnB bit a (volB i n s p) 32 ≠ volB i n s p) : volOk (turnB bit a (volB i n s p) 32) = false := by
  obtain ⟨x, e, e', c, h1, h2, h3, h4⟩ := turn_parts bit a (volB i n s p) 32
  refine vol_torn x e e' c h1 h2 h3 h4 ?_
  intro he
  rw [he] at h1
  exact h (allBits_inj (h2.trans h1.symm))
end Go.Proofs.YtdjpkgaicmklmaaGreat

/- A bundle with turned bits is refused; how long a sound replica's bundle is: without the program. -/
namespace Go.Proofs.YtdjpkgaicmklmaaGreat
open Go.RowKit

theorem sum_le (f : Nat → Nat) (c : Nat) : ∀ (l : List Nat), (∀ x ∈ l, f x ≤ c) → (l.map f).sum ≤ l.length * c
  | [], _ => by simp
  | x :: l, h => by
    have := sum_le f c l (fun y hy => h y (by simp [hy]))
    have := h x (by simp)
    simp only [List.map_cons, List.sum_cons, List.length_cons, Nat.add_mul, Nat.one_mul]; omega
theorem Rep.many {R : Rep} (h : R.chk = 0) : R.n1 ≤ 8 ∧ R.n2 ≤ 40 ∧ R.n3 ≤ 16 := by
  have g1 : R.manyB = false := by
    cases hh : R.manyB
    · rfl
    · simp [Rep.chk, hh] at h
  unfold Rep.manyB at g1; simp at g1; omega
/-- A sound replica's bundle can be split. -/
theorem bundle_small {R : Rep} (h : R.chk = 0) : (bundleB (recsOf 0 0 R)).length ≤ 6000 := by
  obtain ⟨m1, m2, m3⟩ := Rep.many h
  have hF := Rep.fit h
  have h1 : ((List.range R.n1).map (fun i => lenF (fdClock (R.c i)))).sum ≤ R.n1 * 28 := by
    have := sum_le (fun i => lenF (fdClock (R.c i))) 28 (List.range R.n1) (fun i _ => by
      have := bytesI_le 9 (R.c i).site; have := bytesI_le 9 (R.c i).count
      show lenF _ ≤ _; rw [lenF_clock]; omega)
    simpa using this
  have h2 : ((List.range R.n2).map (fun i => lenF (fdCard (R.d i)))).sum ≤ R.n2 * 99 := by
    have := sum_le (fun i => lenF (fdCard (R.d i))) 99 (List.range R.n2) (fun i hi => by
      have := bytesI_le 9 (R.d i).site; have := bytesI_le 9 (R.d i).count; have := bytesI_le 9 (R.d i).id; have := (hF.d1 i (List.mem_range.mp hi)).2.2.2
      show lenF _ ≤ _; rw [lenF_card]; omega)
    simpa using this
  have h3 : ((List.range R.n3).map (fun i => lenF (fdEdit (R.e i)))).sum ≤ R.n3 * 78 := by
    have := sum_le (fun i => lenF (fdEdit (R.e i))) 78 (List.range R.n3) (fun i hi => by
      have := bytesI_le 9 (R.e i).id; have := (hF.e1 i (List.mem_range.mp hi)).2
      show lenF _ ≤ _; rw [lenF_edit]; omega)
    simpa using this
  have h0 := lenF_head
  rw [bundleB_length]
  have e : lenL (recsOf 0 0 R) = lenF (fdHead 0 0) + ((List.range R.n1).map (fun i => lenF (fdClock (R.c i)))).sum + ((List.range R.n2).map (fun i => lenF (fdCard (R.d i)))).sum + ((List.range R.n3).map (fun i => lenF (fdEdit (R.e i)))).sum := by
    simp only [lenL, recsOf, recs3, recs2, recs1, List.map_append, List.map_cons, List.map_map, List.sum_append, List.sum_cons, Function.comp_def]
  rw [e]; omega

theorem readRd_sealed {b : List UInt8} (h : (readRd b).err = 0) : b = b.take (b.length - 4) ++ fourI (crc pSeal (b.take (b.length - 4))) := by
  unfold readRd at h
  split at h
  · simp [ansErr] at h
  · split at h
    · rename_i hs
      simp only [sealedB, Bool.and_eq_true, decide_eq_true_eq, beq_iff_eq] at hs
      rw [← hs.2, List.take_append_drop]
    · simp [ansErr] at h
theorem restRd_read {b : List UInt8} (h : (restRd b).err = 0) : (readRd b).err = 0 := by
  unfold restRd restOf at h
  split at h
  · assumption
  · exact h
theorem pSeal_lt : pSeal < 4294967296 := by decide
theorem pSeal_odd : pSeal % 2 = 1 := by decide
/-- A bundle with bits turned over within 32 consecutive ones is refused. -/
theorem read_turned (bit : Nat → Bool) (a : Nat) (l : List Fd) (h : turnB bit a (bundleB l) 32 ≠ bundleB l) : (readRd (turnB bit a (bundleB l) 32)).err ≠ 0 ∧ (restRd (turnB bit a (bundleB l) 32)).err ≠ 0 := by
  have k : (readRd (turnB bit a (bundleB l) 32)).err ≠ 0 := fun h0 => h (seal_turned pSeal_lt pSeal_odd bit a (bodyB l) _ (readRd_sealed h0))
  exact ⟨k, fun h0 => k (restRd_read h0)⟩
end Go.Proofs.YtdjpkgaicmklmaaGreat

/- What Read lets by rises; Replay, Extend and chains: without the program. -/
namespace Go.Proofs.YtdjpkgaicmklmaaGreat
open Go.RowKit

theorem ord_asc : ∀ (l : List Fd) (p : Fd), ordF p l = none → Asc Ck.site (ckOf l) ∧ Asc Cd.id (cdOf l) ∧ (p.kind = 1 → ∀ x ∈ ckOf l, p.site < x.site) ∧
    (p.kind = 2 → ckOf l = [] ∧ ∀ x ∈ cdOf l, p.id < x.id) ∧ (p.kind = 3 → ckOf l = [] ∧ cdOf l = [])
  | [], p, _ => by simp [ckOf, cdOf, Asc]
  | f :: l, p, h => by
    simp only [ordF] at h
    split at h
    · rename_i hf
      obtain ⟨a, b, h1, h2, h3⟩ := ord_asc l f h
      by_cases k1 : f.kind = 1
      · have e1 : ckOf (f :: l) = ⟨f.site, f.count⟩ :: ckOf l := by simp [ckOf, k1]
        have e2 : cdOf (f :: l) = cdOf l := by simp [cdOf, k1]
        have h1 := h1 k1
        simp only [fitB, if_pos k1, Bool.or_eq_true, Bool.and_eq_true, beq_iff_eq, decide_eq_true_eq] at hf
        rw [e1, e2]
        refine ⟨List.pairwise_cons.mpr ⟨fun x hx => h1 x hx, a⟩, b, fun hp x hx => ?_, fun hp => by omega, fun hp => by omega⟩
        rcases List.mem_cons.mp hx with rfl | hx
        · simp only; omega
        · have := h1 x hx; omega
      · by_cases k2 : f.kind = 2
        · have e1 : ckOf (f :: l) = ckOf l := by simp [ckOf, k2]
          have e2 : cdOf (f :: l) = ⟨f.id, f.site, f.count, f.gone, f.text⟩ :: cdOf l := by simp [cdOf, k2]
          obtain ⟨z, h2⟩ := h2 k2
          simp only [fitB, if_neg k1, if_pos k2, Bool.or_eq_true, Bool.and_eq_true, beq_iff_eq, decide_eq_true_eq] at hf
          rw [e1, e2]
          refine ⟨a, List.pairwise_cons.mpr ⟨fun x hx => h2 x hx, b⟩, fun hp x hx => by rw [z] at hx; simp at hx, fun hp => ⟨z, fun x hx => ?_⟩, fun hp => by omega⟩
          rcases List.mem_cons.mp hx with rfl | hx
          · simp only; omega
          · have := h2 x hx; omega
        · by_cases k3 : f.kind = 3
          · have e1 : ckOf (f :: l) = ckOf l := by simp [ckOf, k3]
            have e2 : cdOf (f :: l) = cdOf l := by simp [cdOf, k3]
            obtain ⟨z1, z2⟩ := h3 k3
            rw [e1, e2, z1, z2]; simp [Asc]
          · simp [fitB, k1, k2, k3] at hf
    · cases h
theorem read_asc (b : List UInt8) : Asc Ck.site (readRd b).K ∧ Asc Cd.id (readRd b).C := by
  have he : ∀ e p, Asc Ck.site (ansErr e p).K ∧ Asc Cd.id (ansErr e p).C := fun e p => by simp [ansErr, Asc]
  unfold readRd
  split
  · exact he _ _
  · split
    · split
      · exact he _ _
      · split
        · exact he _ _
        · rename_i hn
          generalize (framed (b.take (b.length - 4))).1 = l at *
          cases l with
          | nil => simp [ordRd] at hn
          | cons f l =>
            simp only [ordRd] at hn
            split at hn
            · rename_i k4
              have h := ord_asc l f hn
              have e1 : ckOf (f :: l) = ckOf l := by simp [ckOf, k4]
              have e2 : cdOf (f :: l) = cdOf l := by simp [cdOf, k4]
              simp only [ansOk]; rw [e1, e2]; exact ⟨h.1, h.2.1⟩
            · cases hn
    · exact he _ _

/-- Lists of a replica. -/
structure Tri where
  K : List Ck
  C : List Cd
  E : List Ed
def Ans.st (x : Ans) : Tri := ⟨x.K, x.C, x.E⟩
def Tri.rep (x : Tri) : Rep := repOf x.K x.C x.E
def layS (a b : Tri) : Tri := ⟨layK Ck.site (fun _ c => c) a.K b.K, layK Cd.id (fun _ c => c) a.C b.C, b.E⟩
def sealR (b : List UInt8) : Int := fourRd (b.drop (b.length - 4))
def seqIx (l : List (List UInt8)) (n : Int) : Nat := l.findIdx (fun b => (readRd b).seq == n)
def linkR (l : List (List UInt8)) (n : Int) : List UInt8 := l.getD (seqIx l n) []
def chainSt (l : List (List UInt8)) : Nat → Tri
  | 0 => (readRd (linkR l 0)).st
  | n + 1 => layS (chainSt l n) (readRd (linkR l ((n + 1 : Nat) : Int))).st
def bad4 (l : List (List UInt8)) (i : Nat) : Bool := (readRd (l.getD i [])).err != 0
def bad5 (l : List (List UInt8)) (i : Nat) : Bool := (l.take i).any fun b => (readRd b).seq == (readRd (l.getD i [])).seq
def bad6 (l : List (List UInt8)) (n : Nat) : Bool := !(l.any fun b => (readRd b).seq == (n : Int))
def bad7 (l : List (List UInt8)) (i : Nat) : Bool := decide (0 < (readRd (l.getD i [])).seq) && sealR (linkR l ((readRd (l.getD i [])).seq - 1)) != (readRd (l.getD i [])).base
def replayRd (l : List (List UInt8)) : Ans :=
  if 16 < l.length then ansErr 1 0 else
  match firstOf (bad4 l) l.length with
  | some i => ansErr (readRd (l.getD i [])).err i
  | none => match firstOf (bad5 l) l.length with
    | some i => ansErr 15 i
    | none => if l.length = 0 ∨ (firstOf (bad6 l) l.length).isSome = true then ansErr 16 0 else
      match firstOf (bad7 l) l.length with
      | some i => ansErr 17 i
      | none => if (chainSt l (l.length - 1)).rep.chk = 0 then ⟨0, 0, 0, 0, (chainSt l (l.length - 1)).K, (chainSt l (l.length - 1)).C, (chainSt l (l.length - 1)).E⟩ else ansErr (chainSt l (l.length - 1)).rep.chk 0

/-- Bundles of a chain, in their order. -/
structure Links (bs : List (List UInt8)) : Prop where
  pos : 0 < bs.length
  few : bs.length ≤ 16
  err : ∀ i, i < bs.length → (readRd (bs.getD i [])).err = 0
  seq : ∀ i, i < bs.length → (readRd (bs.getD i [])).seq = (i : Int)
  base : ∀ i, i + 1 < bs.length → (readRd (bs.getD (i + 1) [])).base = sealR (bs.getD i [])
theorem links_mem {bs : List (List UInt8)} {b : List UInt8} (h : b ∈ bs) : ∃ i, i < bs.length ∧ b = bs.getD i [] := by
  obtain ⟨i, hi, rfl⟩ := List.mem_iff_getElem.mp h
  exact ⟨i, hi, by simp [hi]⟩
theorem Links.link {bs l : List (List UInt8)} (h : Links bs) (hp : l.Perm bs) (n : Nat) (hn : n < bs.length) : linkR l (n : Int) = bs.getD n [] := by
  have hm : bs.getD n [] ∈ l := hp.mem_iff.mpr (volAt_mem hn)
  have ha : seqIx l (n : Int) < l.length := by
    unfold seqIx; rw [List.findIdx_lt_length]; exact ⟨_, hm, by simp only [beq_iff_eq]; exact h.seq n hn⟩
  have hq : (readRd (linkR l (n : Int))).seq = (n : Int) := by
    have := List.findIdx_getElem (w := ha) (p := fun b => (readRd b).seq == (n : Int))
    unfold linkR
    rw [List.getD_eq_getElem?_getD, List.getElem?_eq_getElem ha]
    have e2 := of_decide_eq_true (p := (readRd (l[l.findIdx (fun b => (readRd b).seq == (n : Int))]'ha)).seq = (n : Int)) (by simpa using this)
    exact e2
  have hin : linkR l (n : Int) ∈ l := volAt_mem ha
  obtain ⟨i, hi, e⟩ := links_mem (hp.mem_iff.mp hin)
  have := h.seq i hi
  rw [e, this] at hq
  rw [e, show i = n by omega]
theorem Links.chain {bs l : List (List UInt8)} (h : Links bs) (hp : l.Perm bs) : ∀ n, n < bs.length → chainSt l n = chainSt bs n
  | 0, hn => by
    have h1 := h.link hp 0 hn
    have h2 := h.link (List.Perm.refl bs) 0 hn
    simp only [chainSt]
    rw [show ((0 : Nat) : Int) = 0 from rfl] at h1 h2
    rw [h1, h2]
  | n + 1, hn => by simp only [chainSt]; rw [h.chain hp n (by omega), h.link hp (n + 1) hn, h.link (List.Perm.refl bs) (n + 1) hn]
theorem links_seqs {bs : List (List UInt8)} (h : Links bs) : bs.map (fun b => (readRd b).seq) = (List.range bs.length).map (fun (i : Nat) => (i : Int)) := by
  apply List.ext_getElem?; intro i
  by_cases hi : i < bs.length
  · have := h.seq i hi
    rw [List.getD_eq_getElem?_getD, List.getElem?_eq_getElem hi] at this
    simp [hi]; exact this
  · simp [Nat.le_of_not_lt hi]
/-- A chain, in any order, is replayed to what its states make one over the other. -/
theorem replay_links {bs l : List (List UInt8)} (h : Links bs) (hp : l.Perm bs) (hc : (chainSt bs (bs.length - 1)).rep.chk = 0) :
    replayRd l = ⟨0, 0, 0, 0, (chainSt bs (bs.length - 1)).K, (chainSt bs (bs.length - 1)).C, (chainSt bs (bs.length - 1)).E⟩ := by
  have hl := hp.length_eq
  have pos := h.pos
  have few := h.few
  have hof : ∀ i, i < l.length → ∃ j, j < bs.length ∧ l.getD i [] = bs.getD j [] := fun i hi => links_mem (hp.mem_iff.mp (volAt_mem hi))
  have n4 : ∀ i, i < l.length → bad4 l i = false := by
    intro i hi
    obtain ⟨j, hj, e⟩ := hof i hi
    simp only [bad4]; rw [e, h.err j hj]; rfl
  have hnd : (l.map (fun b => (readRd b).seq)).Nodup := by
    refine (hp.map _).nodup_iff.mpr ?_
    rw [links_seqs h, List.nodup_iff_pairwise_ne, List.pairwise_map]
    refine List.Pairwise.imp ?_ (List.nodup_iff_pairwise_ne.mp (List.nodup_range (n := bs.length)))
    intro a b hab e; omega
  have n5 : ∀ i, i < l.length → bad5 l i = false := by
    intro i hi
    rw [List.nodup_iff_pairwise_ne, List.pairwise_iff_getElem] at hnd
    simp only [bad5, List.any_eq_false, beq_iff_eq]
    intro v hv he
    rw [List.mem_take_iff_getElem] at hv
    obtain ⟨j, hj, rfl⟩ := hv
    refine hnd j i (by simp; omega) (by simpa using hi) (by omega) ?_
    simp only [List.getElem_map]
    rw [he, List.getD_eq_getElem?_getD, List.getElem?_eq_getElem hi]; rfl
  have n6 : ∀ n, n < l.length → bad6 l n = false := by
    intro n hn
    simp only [bad6, Bool.not_eq_false', List.any_eq_true, beq_iff_eq]
    exact ⟨bs.getD n [], hp.mem_iff.mpr (volAt_mem (by omega)), h.seq n (by omega)⟩
  have n7 : ∀ i, i < l.length → bad7 l i = false := by
    intro i hi
    obtain ⟨j, hj, e⟩ := hof i hi
    simp only [bad7]
    rw [e, h.seq j hj]
    cases j with
    | zero => rfl
    | succ j =>
      rw [show ((j + 1 : Nat) : Int) - 1 = (j : Int) by omega, h.link hp j (by omega), h.base j hj]
      simp
  unfold replayRd
  rw [if_neg (by omega), firstOf_none.mpr n4, firstOf_none.mpr n5]
  simp only
  rw [if_neg (by
    rw [firstOf_none.mpr n6]
    rintro (q | q)
    · omega
    · cases q), firstOf_none.mpr n7]
  simp only
  rw [hl, h.chain hp _ (by omega), if_pos hc]
end Go.Proofs.YtdjpkgaicmklmaaGreat

/- Extend: a chain and one link more: without the program. -/
namespace Go.Proofs.YtdjpkgaicmklmaaGreat
open Go.RowKit

instance decCk : DecidableEq Ck := fun a b => match a, b with
  | ⟨i, s⟩, ⟨j, t⟩ => if h : i = j ∧ s = t then isTrue (by rw [h.1, h.2]) else isFalse (fun e => by injection e with e1 e2; exact h ⟨e1, e2⟩)
instance decCd : DecidableEq Cd := fun a b => match a, b with
  | ⟨i, s, c, g, t⟩, ⟨i', s', c', g', t'⟩ => if h : i = i' ∧ s = s' ∧ c = c' ∧ g = g' ∧ t = t' then isTrue (by rw [h.1, h.2.1, h.2.2.1, h.2.2.2.1, h.2.2.2.2]) else isFalse (fun e => by injection e with e1 e2 e3 e4 e5; exact h ⟨e1, e2, e3, e4, e5⟩)

theorem range_getD {α : Type} (l : List α) (d : α) : (List.range l.length).map (fun i => l.getD i d) = l := by
  apply List.ext_getElem?; intro i
  by_cases hi : i < l.length
  · simp [hi]
  · simp [Nat.le_of_not_lt hi]
theorem asc_of {α : Type} (key : α → Int) (d : α) (l : List α) (h : ∀ i, i + 1 < l.length → key (l.getD i d) < key (l.getD (i + 1) d)) : Asc key l := by
  have all : ∀ (i k : Nat), i + k + 1 < l.length → key (l.getD i d) < key (l.getD (i + k + 1) d) := by
    intro i k
    induction k with
    | zero => exact h i
    | succ k ih => intro hk; have := ih (by omega); have := h (i + k + 1) (by omega); rw [show i + (k + 1) + 1 = i + k + 1 + 1 by omega]; omega
  unfold Asc
  rw [List.pairwise_iff_getElem]
  intro i j hi hj hij
  have := all i (j - i - 1) (by omega)
  rw [show i + (j - i - 1) + 1 = j by omega] at this
  simpa [hi, hj] using this
theorem asc_next {α : Type} (key : α → Int) (d : α) {l : List α} (h : Asc key l) (i : Nat) (hi : i + 1 < l.length) : key (l.getD i d) < key (l.getD (i + 1) d) := by
  unfold Asc at h
  rw [List.pairwise_iff_getElem] at h
  have := h i (i + 1) (by omega) hi (by omega)
  simpa [hi, show i < l.length by omega] using this
theorem Tri.asc {r : Tri} (h : r.rep.chk = 0) : Asc Ck.site r.K ∧ Asc Cd.id r.C := by
  have := Rep.rising h
  exact ⟨asc_of Ck.site ck0 r.K (fun i hi => this.c i hi), asc_of Cd.id cd0 r.C (fun i hi => this.d i hi)⟩

def diffS (o r : Tri) : Tri := ⟨r.K.filter (fun c => decide (look Ck.site o.K c.site ≠ some c)), r.C.filter (fun c => decide (look Cd.id o.C c.id ≠ some c)), r.E⟩
def followK (o r : List Ck) : Bool := o.all fun c => match look Ck.site r c.site with
  | some d => decide (c.count ≤ d.count)
  | none => false
def followC (o r : List Cd) : Bool := o.all fun c => match look Cd.id r c.id with
  | some d => laterB d c || decide (d = c)
  | none => false
def followB (o r : Tri) : Bool := followK o.K r.K && followC o.C r.C
theorem follow_has {o r : Tri} (h : followB o r = true) : (∀ x ∈ o.K, ∃ y ∈ r.K, y.site = x.site) ∧ (∀ x ∈ o.C, ∃ y ∈ r.C, y.id = x.id) := by
  simp only [followB, followK, followC, Bool.and_eq_true, List.all_eq_true] at h
  constructor
  · intro x hx
    have := h.1 x hx
    split at this
    · rename_i d hd; exact ⟨d, (look_mem Ck.site hd).1, (look_mem Ck.site hd).2⟩
    · cases this
  · intro x hx
    have := h.2 x hx
    split at this
    · rename_i d hd; exact ⟨d, (look_mem Cd.id hd).1, (look_mem Cd.id hd).2⟩
    · cases this
/-- What changed, laid over what it follows, is it. -/
theorem lay_diffS {o r : Tri} (ho : Asc Ck.site o.K ∧ Asc Cd.id o.C) (hr : Asc Ck.site r.K ∧ Asc Cd.id r.C) (h : followB o r = true) : layS o (diffS o r) = r := by
  obtain ⟨h1, h2⟩ := follow_has h
  have a := lay_diff Ck.site (fun c => decide (look Ck.site o.K c.site ≠ some c)) ho.1 hr.1 h1 (fun c _ hc => by simpa using hc)
  have b := lay_diff Cd.id (fun c => decide (look Cd.id o.C c.id ≠ some c)) ho.2 hr.2 h2 (fun c _ hc => by simpa using hc)
  unfold layS diffS
  simp only
  rw [a, b]
theorem mem_fit {r : Tri} (h : Fit r.rep) : (∀ x ∈ r.K, Num x.site ∧ Num x.count) ∧ (∀ x ∈ r.C, Num x.id ∧ Num x.site ∧ Num x.count ∧ x.text.size ≤ 60) ∧ (∀ x ∈ r.E, Num x.id ∧ x.text.size ≤ 60) := by
  refine ⟨fun x hx => ?_, fun x hx => ?_, fun x hx => ?_⟩
  · obtain ⟨i, hi, rfl⟩ := List.mem_iff_getElem.mp hx
    have := h.c1 i hi; simpa [Tri.rep, repOf, hi] using this
  · obtain ⟨i, hi, rfl⟩ := List.mem_iff_getElem.mp hx
    have := h.d1 i hi; simpa [Tri.rep, repOf, hi] using this
  · obtain ⟨i, hi, rfl⟩ := List.mem_iff_getElem.mp hx
    have := h.e1 i hi; simpa [Tri.rep, repOf, hi] using this
theorem diff_fit {o r : Tri} (hr : r.rep.chk = 0) : Fit (diffS o r).rep := by
  have hF := Rep.fit hr
  obtain ⟨m1, m2, m3⟩ := mem_fit hF
  have l1 : (diffS o r).K.length ≤ r.K.length := List.length_filter_le ..
  have l2 : (diffS o r).C.length ≤ r.C.length := List.length_filter_le ..
  refine ⟨Nat.le_trans l1 hF.n1, Nat.le_trans l2 hF.n2, hF.n3, fun i hi => ?_, fun i hi => ?_, fun i hi => ?_⟩
  · exact m1 _ (List.mem_filter.mp (getD_mem (d := ck0) hi)).1
  · exact m2 _ (List.mem_filter.mp (getD_mem (d := cd0) hi)).1
  · exact m3 _ (getD_mem (d := ed0) hi)
theorem diff_rising {o r : Tri} (hr : r.rep.chk = 0) : Rising (diffS o r).rep := by
  obtain ⟨a, b⟩ := Tri.asc hr
  have a2 : Asc Ck.site (diffS o r).K := List.Pairwise.filter _ a
  have b2 : Asc Cd.id (diffS o r).C := List.Pairwise.filter _ b
  exact ⟨fun i hi => asc_next Ck.site ck0 a2 i hi, fun i hi => asc_next Cd.id cd0 b2 i hi⟩
theorem sealR_bound (b : List UInt8) : 0 ≤ sealR b ∧ sealR b ≤ 4294967295 := by
  unfold sealR fourRd
  generalize b.drop (b.length - 4) = s
  have h0 := (s.getD 0 0).toNat_lt
  have h1 := (s.getD 1 0).toNat_lt
  have h2 := (s.getD 2 0).toNat_lt
  have h3 := (s.getD 3 0).toNat_lt
  omega

/-- The bundle of the next link. -/
def nextB (n : Nat) (last : List UInt8) (o r : Tri) : List UInt8 := bundleB (recsOf (n : Int) (sealR last) (diffS o r).rep)
theorem next_read {n : Nat} (h0 : 0 < n) (h16 : n ≤ 16) {last : List UInt8} {o r : Tri} (hr : r.rep.chk = 0) : readRd (nextB n last o r) = ⟨n, sealR last, 0, 0, (diffS o r).K, (diffS o r).C, (diffS o r).E⟩ := by
  have hs := sealR_bound last
  unfold nextB
  rw [readRd_bundle (diff_fit hr) (diff_rising hr) ⟨by omega, by omega⟩ hs.1 hs.2 (fun h => by omega)]
  simp only [Tri.rep, repOf]
  rw [range_getD, range_getD, range_getD]
theorem get_snoc {bs : List (List UInt8)} {b : List UInt8} (i : Nat) (hi : i < bs.length) : (bs ++ [b]).getD i [] = bs.getD i [] := by
  rw [List.getD_eq_getElem?_getD, List.getElem?_append_left hi, ← List.getD_eq_getElem?_getD]
theorem get_last {bs : List (List UInt8)} {b : List UInt8} : (bs ++ [b]).getD bs.length [] = b := by simp
/-- A chain of one. -/
theorem links_one {R : Rep} (h : R.chk = 0) : Links [bundleB (recsOf 0 0 R)] ∧ chainSt [bundleB (recsOf 0 0 R)] 0 = ⟨(List.range R.n1).map R.c, (List.range R.n2).map R.d, (List.range R.n3).map R.e⟩ := by
  have e := readRd_bundle (Rep.fit h) (Rep.rising h) (s := 0) (b := 0) ⟨by decide, by decide⟩ (by decide) (by decide) (fun _ => rfl)
  have hL : Links [bundleB (recsOf 0 0 R)] := by
    refine ⟨by simp, by simp, fun i hi => ?_, fun i hi => ?_, fun i hi => ?_⟩
    · have : i = 0 := by simpa using hi
      subst this; show (readRd (bundleB (recsOf 0 0 R))).err = 0; rw [e]
    · have : i = 0 := by simpa using hi
      subst this; show (readRd (bundleB (recsOf 0 0 R))).seq = 0; rw [e]
    · simp at hi
  refine ⟨hL, ?_⟩
  have h1 := hL.link (List.Perm.refl _) 0 (by simp)
  simp only [chainSt]
  rw [show ((0 : Nat) : Int) = 0 from rfl] at h1
  rw [h1]
  show (readRd (bundleB (recsOf 0 0 R))).st = _
  rw [e]; rfl
/-- A chain with the next link is one, and makes what was handed in. -/
theorem links_next {bs : List (List UInt8)} {r : Tri} (h : Links bs) (hn : bs.length < 16) (ho : (chainSt bs (bs.length - 1)).rep.chk = 0) (hr : r.rep.chk = 0) (hf : followB (chainSt bs (bs.length - 1)) r = true) :
    Links (bs ++ [nextB bs.length (bs.getD (bs.length - 1) []) (chainSt bs (bs.length - 1)) r]) ∧
    chainSt (bs ++ [nextB bs.length (bs.getD (bs.length - 1) []) (chainSt bs (bs.length - 1)) r]) bs.length = r := by
  have pos := h.pos
  generalize ho' : chainSt bs (bs.length - 1) = o at *
  have e := next_read (n := bs.length) pos (by omega) (last := bs.getD (bs.length - 1) []) (o := o) hr
  generalize hb : nextB bs.length (bs.getD (bs.length - 1) []) o r = b at *
  have hlen : (bs ++ [b]).length = bs.length + 1 := by simp
  have hL : Links (bs ++ [b]) := by
    refine ⟨by simp, by simp; omega, fun i hi => ?_, fun i hi => ?_, fun i hi => ?_⟩
    · rw [hlen] at hi
      by_cases hi2 : i < bs.length
      · rw [get_snoc i hi2]; exact h.err i hi2
      · rw [show i = bs.length by omega, get_last, e]
    · rw [hlen] at hi
      by_cases hi2 : i < bs.length
      · rw [get_snoc i hi2]; exact h.seq i hi2
      · rw [show i = bs.length by omega, get_last, e]
    · rw [hlen] at hi
      rw [get_snoc i (by omega)]
      by_cases hi2 : i + 1 < bs.length
      · rw [get_snoc (i + 1) hi2]; exact h.base i hi2
      · rw [show i + 1 = bs.length by omega, get_last, e, show i = bs.length - 1 by omega]
  refine ⟨hL, ?_⟩
  have hold : ∀ n, n < bs.length → chainSt (bs ++ [b]) n = chainSt bs n := by
    intro n
    induction n with
    | zero =>
      intro hn'
      have h1 := hL.link (List.Perm.refl _) 0 (by simp)
      have h2 := h.link (List.Perm.refl _) 0 hn'
      rw [get_snoc 0 hn'] at h1
      rw [show ((0 : Nat) : Int) = 0 from rfl] at h1 h2
      simp only [chainSt]; rw [h1, h2]
    | succ n ih =>
      intro hn'
      have h1 := hL.link (List.Perm.refl _) (n + 1) (by simp; omega)
      have h2 := h.link (List.Perm.refl _) (n + 1) hn'
      rw [get_snoc (n + 1) hn'] at h1
      simp only [chainSt]; rw [ih (by omega), h1, h2]
  obtain ⟨k, hk⟩ : ∃ k, bs.length = k + 1 := ⟨bs.length - 1, by omega⟩
  have h1 := hL.link (List.Perm.refl _) bs.length (by simp)
  rw [get_last] at h1
  have h3 : chainSt (bs ++ [b]) bs.length = layS (chainSt (bs ++ [b]) k) (readRd (linkR (bs ++ [b]) (bs.length : Nat))).st := by rw [hk]; rfl
  rw [h3, h1, hold k (by omega), show k = bs.length - 1 by omega, ho', e]
  exact lay_diffS (Tri.asc ho) (Tri.asc hr) hf

/-- What Extend answers. -/
structure Xt where
  b : List UInt8
  err : Int
  place : Int
def extendRd (l : List (List UInt8)) (r : Tri) : Xt :=
  if (replayRd l).err = 0 then
    if 16 ≤ l.length then ⟨[], 1, 0⟩
    else if r.rep.chk = 0 then
      if followB (replayRd l).st r = true then ⟨nextB l.length (linkR l ((l.length - 1 : Nat) : Int)) (replayRd l).st r, 0, 0⟩ else ⟨[], 18, 0⟩
    else ⟨[], r.rep.chk, 0⟩
  else ⟨[], (replayRd l).err, (replayRd l).place⟩
theorem extend_links {bs l : List (List UInt8)} {r : Tri} (h : Links bs) (hp : l.Perm bs) (hn : bs.length < 16) (ho : (chainSt bs (bs.length - 1)).rep.chk = 0) (hr : r.rep.chk = 0) (hf : followB (chainSt bs (bs.length - 1)) r = true) :
    extendRd l r = ⟨nextB bs.length (bs.getD (bs.length - 1) []) (chainSt bs (bs.length - 1)) r, 0, 0⟩ := by
  have pos := h.pos
  have e := replay_links h hp ho
  have e1 : (replayRd l).err = 0 := by rw [e]
  have e2 : (replayRd l).st = chainSt bs (bs.length - 1) := by rw [e]; rfl
  unfold extendRd
  rw [if_pos e1, e2, hp.length_eq, if_neg (by omega), if_pos hr, if_pos hf, h.link hp _ (by omega)]
end Go.Proofs.YtdjpkgaicmklmaaGreat

/- Replicas that have seen some first writes: merged, and one that has seen more follows: without the program. -/
namespace Go.Proofs.YtdjpkgaicmklmaaGreat
open Go.RowKit

def triS (S : Seen) (i : Nat) (E : List Ed) : Tri := ⟨clocksTo (runS S i).1 8, (runS S i).2, E⟩
def EdOk (E : List Ed) : Prop := ∀ x ∈ E, (1 ≤ x.id ∧ x.id ≤ 4611686018427387904) ∧ x.text.size ≤ 60
theorem triS_chk (S : Seen) (i : Nat) (hi : i ≤ 40) (E : List Ed) (h : E.length ≤ 16) (h2 : EdOk E) : (triS S i E).rep.chk = 0 := state_chk S i hi E h h2

def clashB2 (a b : List Cd) : Bool := a.any fun x => b.any fun y => decide (x.site = y.site ∧ x.count = y.count ∧ x ≠ y)
def mergeRd (a b : Tri) : Ans :=
  if a.rep.chk = 0 then
    if b.rep.chk = 0 then
      if clashB2 a.C b.C = true then ansErr 6 0
      else if 8 < (mergeK a.K b.K).length ∨ 40 < (mergeC a.C b.C).length ∨ 16 < (bothE a.E b.E).length then ansErr 1 0
      else ⟨0, 0, 0, 0, mergeK a.K b.K, mergeC a.C b.C, bothE a.E b.E⟩
    else ansErr b.rep.chk 0
  else ansErr a.rep.chk 0
theorem merge_states {S T M : Seen} (h : Most S T M) (i : Nat) (hi : i ≤ 40) (D E : List Ed) (hD : D.length ≤ 16) (hE : E.length ≤ 16) (hD2 : EdOk D) (hE2 : EdOk E) (hb : (bothE D E).length ≤ 16) :
    mergeRd (triS S i D) (triS T i E) = ⟨0, 0, 0, 0, (triS M i (bothE D E)).K, (triS M i (bothE D E)).C, bothE D E⟩ := by
  have c1 := triS_chk S i hi D hD hD2
  have c2 := triS_chk T i hi E hE hE2
  have hc : mergeC (triS S i D).C (triS T i E).C = (runS M i).2 := most_cards h i
  have hk : mergeK (triS S i D).K (triS T i E).K = clocksTo (runS M i).1 8 := merge_clocks _ _ _ (fun k hk => most_counts h i k hk)
  have hcl : clashB2 (triS S i D).C (triS T i E).C = false := by
    simp only [clashB2, List.any_eq_false, decide_eq_true_eq, Bool.not_eq_true]
    intro x hx y hy e
    have hy := run_isW T h.p2 i y hy
    rw [h.w2] at hy
    exact e.2.2 (isW_sole S.w x y (run_isW S h.p1 i x hx) hy e.1 e.2.1)
  have l1 := clocksTo_length (runS M i).1 8
  have l2 := runS_cards M i
  unfold mergeRd
  rw [if_pos c1, if_pos c2, if_neg (by rw [hcl]; decide), hc, hk, if_neg]
  · rfl
  · show ¬ (_ ∨ _ ∨ 16 < (bothE D E).length); omega

/-- One sees all that another sees. -/
structure Less (S T : Seen) : Prop where
  w : T.w = S.w
  lim : ∀ k, k < 8 → limS S k ≤ limS T k
  p1 : ∀ k, 0 ≤ limS S k
  p2 : ∀ k, 0 ≤ limS T k
theorem Less.most {S T : Seen} (h : Less S T) : Most S T T := ⟨h.w, h.w, fun k hk => by have := h.lim k hk; omega, h.p1, h.p2, h.p2⟩
theorem less_follows {S T : Seen} (h : Less S T) (i : Nat) (D E : List Ed) : followB (triS S i D) (triS T i E) = true := by
  simp only [followB, followK, followC, Bool.and_eq_true, List.all_eq_true]
  constructor
  · intro x hx
    obtain ⟨k, hk, rfl, h0⟩ := clocks_mem hx
    have hm := most_counts h.most i k hk
    have : look Ck.site (triS T i E).K (siteL.getD k 0) = some ⟨siteL.getD k 0, (runS T i).1.getD k 0⟩ := by
      show look Ck.site (clocksTo (runS T i).1 8) _ = _
      rw [clocks_look _ k (by omega) hk, if_pos (by omega)]
    rw [show (⟨siteL.getD k 0, (runS S i).1.getD k 0⟩ : Ck).site = siteL.getD k 0 from rfl, this]
    simp only [decide_eq_true_eq]; omega
  · intro x hx
    have hl := most_look h.most x.id i
    rw [look_some Cd.id (run_asc S i) hx] at hl
    show (match look Cd.id (runS T i).2 x.id with | some d => laterB d x || decide (d = x) | none => false) = true
    cases hd : look Cd.id (runS T i).2 x.id with
    | none => rw [hd] at hl; cases hl
    | some d =>
      rw [hd] at hl
      simp only [over, Option.some.injEq] at hl
      simp only [Bool.or_eq_true, decide_eq_true_eq]
      unfold keepC at hl
      cases hlt : laterB d x with
      | true => exact Or.inl rfl
      | false => rw [hlt] at hl; exact Or.inr hl
/-- One that has seen nothing follows just nothing. -/
theorem nothing_follows {S Z : Seen} (i : Nat) (hz : ∀ k, k < 8 → limS Z k = 0) (p : ∀ k, 0 ≤ limS Z k) (D E : List Ed) : followB (triS S i D) (triS Z i E) = decide ((triS S i D).K.length = 0) := by
  have hZK : clocksTo (runS Z i).1 8 = [] := by
    cases hh : clocksTo (runS Z i).1 8 with
    | nil => rfl
    | cons x l =>
      obtain ⟨k, hk, _, h0⟩ := clocks_mem (show x ∈ clocksTo (runS Z i).1 8 by rw [hh]; simp)
      rw [counts_min Z p k hk, hz k hk] at h0; omega
  by_cases h0 : (triS S i D).K.length = 0
  · rw [decide_eq_true h0]
    have hK : clocksTo (runS S i).1 8 = [] := List.length_eq_zero_iff.mp h0
    have hC : (runS S i).2 = [] := by
      cases hh : (runS S i).2 with
      | nil => rfl
      | cons x l =>
        have hg := (runS_good S i).1 x (by rw [hh]; simp)
        obtain ⟨k, hk, _, h1, h2⟩ := hg.site
        have := clocks_look (runS S i).1 k (n := 8) (by omega) hk
        rw [hK, if_pos (by omega)] at this; cases this
    simp [followB, followK, followC, triS, hK, hC]
  · rw [decide_eq_false h0]
    cases hh : clocksTo (runS S i).1 8 with
    | nil => exact absurd (by simp [triS, hh]) h0
    | cons x l => simp [followB, followK, triS, hh, hZK, look]
end Go.Proofs.YtdjpkgaicmklmaaGreat

/- How the reference merges: clocks over all sites, cards over all numbers: it is the merge of rising lists: without the program. -/
namespace Go.Proofs.YtdjpkgaicmklmaaGreat
open Go.RowKit

/-- The count of a site. -/
def clkOf (K : List Ck) (s : Int) : Int := match look Ck.site K s with
  | some c => c.count
  | none => 0
def mostC (a b : List Ck) (s : Int) : Int := max (clkOf a s) (clkOf b s)
/-- The greater clocks of both, over the sites up to n. -/
def refClk (a b : List Ck) : Nat → List Ck
  | 0 => []
  | n + 1 => if 0 < mostC a b ((n : Int) + 1) then refClk a b n ++ [⟨(n : Int) + 1, mostC a b ((n : Int) + 1)⟩] else refClk a b n
theorem refClk_mem {a b : List Ck} {x : Ck} : ∀ {n : Nat}, x ∈ refClk a b n → 1 ≤ x.site ∧ x.site ≤ n ∧ 0 < x.count ∧ x.count = mostC a b x.site
  | 0, h => by cases h
  | n + 1, h => by
    simp only [refClk] at h
    split at h
    · rename_i hp
      rcases List.mem_append.1 h with h | h
      · have := refClk_mem h; omega
      · simp at h; subst h; exact ⟨by simp; omega, by simp, hp, rfl⟩
    · have := refClk_mem h; omega
theorem refClk_asc (a b : List Ck) : ∀ n, Asc Ck.site (refClk a b n)
  | 0 => List.Pairwise.nil
  | n + 1 => by
    simp only [refClk]
    split
    · refine List.pairwise_append.2 ⟨refClk_asc a b n, List.pairwise_singleton _ _, fun x hx y hy => ?_⟩
      simp at hy; subst hy
      have := refClk_mem hx; simp; omega
    · exact refClk_asc a b n
theorem refClk_has {a b : List Ck} {s : Nat} (hs : 0 < mostC a b ((s : Int) + 1)) : ∀ {n : Nat}, s < n → (⟨(s : Int) + 1, mostC a b ((s : Int) + 1)⟩ : Ck) ∈ refClk a b n
  | 0, h => by omega
  | n + 1, h => by
    by_cases e : s = n
    · subst e; simp [refClk, hs]
    · have := refClk_has hs (n := n) (by omega)
      simp only [refClk]; split
      · exact List.mem_append_left _ this
      · exact this
theorem clkOf_look {K : List Ck} (s : Int) (hp : ∀ x ∈ K, 1 ≤ x.count) : (look Ck.site K s = none ∧ clkOf K s = 0) ∨ ∃ c, look Ck.site K s = some c ∧ c.site = s ∧ clkOf K s = c.count ∧ 1 ≤ c.count := by
  unfold clkOf
  cases h : look Ck.site K s with
  | none => exact Or.inl ⟨rfl, rfl⟩
  | some c => exact Or.inr ⟨c, rfl, (look_mem Ck.site h).2, rfl, hp c (look_mem Ck.site h).1⟩
theorem refClk_eq {a b : List Ck} (ha : Asc Ck.site a) (hb : Asc Ck.site b) (pa : ∀ x ∈ a, 1 ≤ x.site ∧ x.site ≤ 200 ∧ 1 ≤ x.count) (pb : ∀ x ∈ b, 1 ≤ x.site ∧ x.site ≤ 200 ∧ 1 ≤ x.count) : refClk a b 200 = mergeK a b := by
  refine asc_ext Ck.site (refClk_asc a b 200) (layK_asc Ck.site (fun o c h => keepK_site o c h) ha) fun s => ?_
  unfold mergeK
  rw [look_lay Ck.site (fun o c h => keepK_site o c h) ha hb]
  have h1 := clkOf_look (K := a) s (fun x hx => (pa x hx).2.2)
  have h2 := clkOf_look (K := b) s (fun x hx => (pb x hx).2.2)
  have key : ∀ c : Ck, c.site = s → 1 ≤ s → s ≤ 200 → 0 < c.count → c.count = mostC a b s → look Ck.site (refClk a b 200) s = some c := by
    intro c hs h3 h4 h5 h6
    obtain ⟨m, hm⟩ : ∃ m : Nat, s = (m : Int) + 1 := ⟨(s - 1).toNat, by omega⟩
    have := refClk_has (a := a) (b := b) (s := m) (by rw [← hm, ← h6]; exact h5) (n := 200) (by omega)
    rw [← hm, ← h6] at this
    have e : (⟨s, c.count⟩ : Ck) = c := by rw [← hs]
    rw [e] at this
    have := look_some Ck.site (refClk_asc a b 200) this
    rw [hs] at this; exact this
  rcases h1 with ⟨e1, z1⟩ | ⟨c, e1, s1, z1, p1⟩
  · rcases h2 with ⟨e2, z2⟩ | ⟨d, e2, s2, z2, p2⟩
    · rw [e1, e2]
      have : look Ck.site (refClk a b 200) s = none := look_none Ck.site (fun x hx e => by
        have := refClk_mem hx
        rw [e] at this; unfold mostC at this; omega)
      rw [this]; rfl
    · have r := pb d (look_mem Ck.site e2).1
      rw [e1, e2, key d s2 (by omega) (by omega) (by omega) (by unfold mostC; omega)]; rfl
  · have r := pa c (look_mem Ck.site e1).1
    rcases h2 with ⟨e2, z2⟩ | ⟨d, e2, s2, z2, p2⟩
    · rw [e1, e2, key c s1 (by omega) (by omega) (by omega) (by unfold mostC; omega)]; rfl
    · rw [e1, e2]
      simp only [over, keepK]
      split
      · exact key d s2 (by omega) (by omega) (by omega) (by unfold mostC; omega)
      · exact key c s1 (by omega) (by omega) (by omega) (by unfold mostC; omega)

/-- The least number above another among some; 0: none. -/
def lowStep (id n x : Int) : Int := if id < x ∧ (n = 0 ∨ x < n) then x else n
def lowAbove (id : Int) (l : List Int) : Int := l.foldl (lowStep id) 0
theorem low_fold (id : Int) (h0 : 0 ≤ id) : ∀ (l : List Int) (n : Int), (n = 0 ∨ id < n) → (l.foldl (lowStep id) n = 0 ∨ id < l.foldl (lowStep id) n) ∧
    (l.foldl (lowStep id) n = n ∨ l.foldl (lowStep id) n ∈ l) ∧ (∀ x ∈ l, id < x → l.foldl (lowStep id) n ≤ x ∧ l.foldl (lowStep id) n ≠ 0) ∧ (n ≠ 0 → l.foldl (lowStep id) n ≤ n ∧ l.foldl (lowStep id) n ≠ 0)
  | [], n, hn => ⟨hn, Or.inl rfl, fun x hx => (by cases hx), fun h => ⟨Int.le_refl _, h⟩⟩
  | y :: l, n, hn => by
    simp only [List.foldl_cons]
    have hs : lowStep id n y = 0 ∨ id < lowStep id n y := by unfold lowStep; split; (right; omega); exact hn
    obtain ⟨h1, h2, h3, h4⟩ := low_fold id h0 l (lowStep id n y) hs
    refine ⟨h1, ?_, ?_, ?_⟩
    · rcases h2 with h2 | h2
      · rw [h2]; unfold lowStep; split
        · right; simp
        · left; rfl
      · right; simp [h2]
    · intro x hx hlt
      rcases List.mem_cons.1 hx with rfl | hx
      · have hne : lowStep id n x ≠ 0 := by unfold lowStep; split; omega; omega
        have hle : lowStep id n x ≤ x := by unfold lowStep; split; omega; omega
        have := h4 hne; omega
      · exact h3 x hx hlt
    · intro hne
      have hne2 : lowStep id n y ≠ 0 := by unfold lowStep; split <;> omega
      have hle : lowStep id n y ≤ n := by unfold lowStep; split <;> omega
      have := h4 hne2; omega
theorem low_none {id : Int} {l : List Int} (h0 : 0 ≤ id) (h : ∀ x ∈ l, x ≤ id) : lowAbove id l = 0 := by
  obtain ⟨h1, h2, _, _⟩ := low_fold id h0 l 0 (Or.inl rfl)
  rcases h2 with h2 | h2
  · exact h2
  · rcases h1 with h1 | h1
    · exact h1
    · have := h _ h2; unfold lowAbove; omega
theorem low_is {id x : Int} {l : List Int} (h0 : 0 ≤ id) (hx : x ∈ l) (hlt : id < x) (hle : ∀ y ∈ l, id < y → x ≤ y) : lowAbove id l = x := by
  obtain ⟨h1, h2, h3, _⟩ := low_fold id h0 l 0 (Or.inl rfl)
  have := h3 x hx hlt
  unfold lowAbove
  rcases h2 with h2 | h2
  · omega
  · rcases h1 with h1 | h1
    · omega
    · have := hle _ h2 h1; omega

/-- The numbers of the cards of both. -/
def idsOf (a b : List Cd) : List Int := a.map Cd.id ++ b.map Cd.id
/-- The card of a number that the reference takes. -/
def takeC (a b : List Cd) (id : Int) : Cd := match look Cd.id a id, look Cd.id b id with
  | none, some y => y
  | some x, none => x
  | some x, some y => if laterB y x then y else x
  | none, none => ⟨0, 0, 0, false, ⟨#[]⟩⟩
theorem take_look {a b : List Cd} {id : Int} {c : Cd} (h : over keepC (look Cd.id a id) (look Cd.id b id) = some c) : takeC a b id = c := by
  unfold takeC
  cases h1 : look Cd.id a id with
  | none =>
    cases h2 : look Cd.id b id with
    | none => rw [h1, h2] at h; cases h
    | some y => rw [h1, h2] at h; simpa [over] using h
  | some x =>
    cases h2 : look Cd.id b id with
    | none => rw [h1, h2] at h; simpa [over] using h
    | some y => rw [h1, h2] at h; simpa [over, keepC] using h
theorem merge_ids {a b : List Cd} (ha : Asc Cd.id a) (hb : Asc Cd.id b) (id : Int) : (∃ c ∈ mergeC a b, c.id = id) ↔ id ∈ idsOf a b := by
  have hm : Asc Cd.id (mergeC a b) := layK_asc Cd.id (fun o c h => keepC_id o c h) ha
  have hl := look_lay Cd.id (fun o c h => keepC_id o c h) ha hb id
  unfold idsOf
  rw [List.mem_append, List.mem_map, List.mem_map]
  constructor
  · rintro ⟨c, hc, rfl⟩
    have := look_some Cd.id hm hc
    rw [show mergeC a b = layK Cd.id keepC a b from rfl, hl] at this
    cases h1 : look Cd.id a c.id with
    | some x => exact Or.inl ⟨x, (look_mem Cd.id h1).1, (look_mem Cd.id h1).2⟩
    | none =>
      cases h2 : look Cd.id b c.id with
      | some y => exact Or.inr ⟨y, (look_mem Cd.id h2).1, (look_mem Cd.id h2).2⟩
      | none => rw [h1, h2] at this; cases this
  · intro h
    have hs : ∃ c, over keepC (look Cd.id a id) (look Cd.id b id) = some c := by
      rcases h with ⟨x, hx, rfl⟩ | ⟨x, hx, rfl⟩
      · rw [look_some Cd.id ha hx]
        cases look Cd.id b x.id with
        | none => exact ⟨_, rfl⟩
        | some y => exact ⟨_, rfl⟩
      · rw [look_some Cd.id hb hx]
        cases look Cd.id a x.id with
        | none => exact ⟨_, rfl⟩
        | some y => exact ⟨_, rfl⟩
    obtain ⟨c, hc⟩ := hs
    rw [← hl] at hc
    exact ⟨c, (look_mem Cd.id hc).1, (look_mem Cd.id hc).2⟩
/-- The k-th number is the least above the one ahead of it; its card is the merged one. -/
def idAt (M : List Cd) (k : Nat) : Int := match M[k]? with
  | some c => c.id
  | none => 0
theorem low_first {a b : List Cd} (ha : Asc Cd.id a) (hb : Asc Cd.id b) (p : ∀ c ∈ mergeC a b, 0 < c.id) : lowAbove 0 (idsOf a b) = idAt (mergeC a b) 0 := by
  have hm : Asc Cd.id (mergeC a b) := layK_asc Cd.id (fun o c h => keepC_id o c h) ha
  unfold idAt
  cases hM : mergeC a b with
  | nil =>
    show lowAbove 0 (idsOf a b) = 0
    refine low_none (Int.le_refl _) fun x hx => ?_
    obtain ⟨c, hc, _⟩ := (merge_ids ha hb x).2 hx
    rw [hM] at hc; cases hc
  | cons c M =>
    rw [hM] at hm p
    show lowAbove 0 (idsOf a b) = c.id
    refine low_is (Int.le_refl _) ((merge_ids ha hb c.id).1 ⟨c, by rw [hM]; simp, rfl⟩) (p c (by simp)) fun y hy _ => ?_
    obtain ⟨d, hd, rfl⟩ := (merge_ids ha hb y).2 hy
    rw [hM] at hd
    rcases List.mem_cons.1 hd with rfl | hd
    · exact Int.le_refl _
    · have := (List.pairwise_cons.1 hm).1 d hd; omega
theorem low_next {a b : List Cd} (ha : Asc Cd.id a) (hb : Asc Cd.id b) (p : ∀ c ∈ mergeC a b, 0 < c.id) (k : Nat) (hk : k < (mergeC a b).length) :
    lowAbove (idAt (mergeC a b) k) (idsOf a b) = idAt (mergeC a b) (k + 1) ∧ 0 < idAt (mergeC a b) k ∧ takeC a b (idAt (mergeC a b) k) = (mergeC a b)[k] := by
  have hm : Asc Cd.id (mergeC a b) := layK_asc Cd.id (fun o c h => keepC_id o c h) ha
  have hl := look_lay Cd.id (fun o c h => keepC_id o c h) ha hb
  have hp : ∀ i j (hi : i < (mergeC a b).length) (hj : j < (mergeC a b).length), i < j → (mergeC a b)[i].id < (mergeC a b)[j].id := fun i j hi hj hij => List.pairwise_iff_getElem.1 hm i j hi hj hij
  have e0 : idAt (mergeC a b) k = (mergeC a b)[k].id := by unfold idAt; rw [List.getElem?_eq_getElem hk]
  have p0 := p _ (List.getElem_mem hk)
  rw [e0]
  refine ⟨?_, p0, take_look ?_⟩
  · unfold idAt
    by_cases h1 : k + 1 < (mergeC a b).length
    · rw [List.getElem?_eq_getElem h1]
      show lowAbove _ (idsOf a b) = (mergeC a b)[k + 1].id
      refine low_is (by omega) ((merge_ids ha hb _).1 ⟨_, List.getElem_mem h1, rfl⟩) (hp k (k + 1) hk h1 (by omega)) fun y hy hlt => ?_
      obtain ⟨d, hd, rfl⟩ := (merge_ids ha hb y).2 hy
      obtain ⟨j, hj, rfl⟩ := List.mem_iff_getElem.1 hd
      rcases Nat.lt_trichotomy j (k + 1) with h | h | h
      · rcases Nat.lt_or_ge j k with h2 | h2
        · have := hp j k hj hk h2; omega
        · have : j = k := by omega
          subst this; omega
      · subst h; exact Int.le_refl _
      · have := hp (k + 1) j h1 hj h; omega
    · rw [List.getElem?_eq_none (by omega)]
      show lowAbove _ (idsOf a b) = 0
      refine low_none (by omega) fun y hy => ?_
      obtain ⟨d, hd, rfl⟩ := (merge_ids ha hb y).2 hy
      obtain ⟨j, hj, rfl⟩ := List.mem_iff_getElem.1 hd
      rcases Nat.lt_or_ge j k with h2 | h2
      · have := hp j k hj hk h2; omega
      · have : j = k := by omega
        subst this; exact Int.le_refl _
  · rw [← hl]
    exact look_some Cd.id hm (List.getElem_mem hk)
end Go.Proofs.YtdjpkgaicmklmaaGreat

