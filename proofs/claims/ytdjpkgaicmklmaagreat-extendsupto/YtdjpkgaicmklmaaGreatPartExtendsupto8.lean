/- Texts of the proof, one behind the other; what each holds is said at its head. -/
import Derived.Test.YtdjpkgaicmklmaaGreatPartExtendsupto7
import Derived.Test.YtdjpkgaicmklmaaGreatPartExtendsupto6
import Derived.Test.YtdjpkgaicmklmaaGreatPartExtendsupto4
import Derived.Test.YtdjpkgaicmklmaaGreatPartExtendsupto5
import Derived.Deep.RegionHeld3
import Derived.Deep.DeepCutAuto
import Derived.Test.YtdjpkgaicmklmaaGreatPartExtendsupto3
import Derived.Deep.RegionLaw
/- hasEdit, mergedEdits, sameCard, Clashing of the program: walked. -/
namespace Go.Proofs.YtdjpkgaicmklmaaGreat
open Go.RowKit

abbrev edV (x : Ed) : Value := .agg #[.int .i64 x.id, .string x.text]

set_option maxRecDepth 100000 in
set_option maxHeartbeats 4000000 in
theorem sameCard_any (x y : Cd) (w : World) :
    Calls Tryz.prog 74 #[cdV x, cdV y] w fun e w' => e = .returned (.bool (decide (x = y))) ∧ Below w.heap.size w w' := by
  obtain ⟨hA, hB, hs, hb⟩ := two_boxes w 39 39 x.cells.toArray y.cells.toArray
  have a0 := hA.cell 0; have a1 := hA.cell 1; have a2 := hA.cell 2; have a3 := hA.cell 3; have a4 := hA.cell 4
  have b0 := hB.cell 0; have b1 := hB.cell 1; have b2 := hB.cell 2; have b3 := hB.cell 3; have b4 := hB.cell 4
  dsimp only [List.getElem?_cons_zero, List.getElem?_cons_succ] at a0 a1 a2 a3 a4 b0 b1 b2 b3 b4
  have HBL : Hid (Below w.heap.size w ((w.alloc (.cells x.cells.toArray 39)).alloc (.cells y.cells.toArray 39))) := hb
  have HST : Hid (stampB x y = (x.site == y.site && x.count == y.count)) := rfl
  have HA : Hid (∀ w', Below ((w.alloc (.cells x.cells.toArray 39)).alloc (.cells y.cells.toArray 39)).heap.size ((w.alloc (.cells x.cells.toArray 39)).alloc (.cells y.cells.toArray 39)) w' → (w'.cell? ⟨w.heap.size, 3, none⟩ = some (.bool x.gone) ∧ w'.cell? ⟨w.heap.size, 4, none⟩ = some (.string x.text)) ∧ (w'.cell? ⟨w.heap.size + 1, 3, none⟩ = some (.bool y.gone) ∧ w'.cell? ⟨w.heap.size + 1, 4, none⟩ = some (.string y.text)) ∧ Below w.heap.size w w') := fun w' h =>
    ⟨⟨(hA.below h hA.lt).cell 3, (hA.below h hA.lt).cell 4⟩, ⟨(hB.below h hB.lt).cell 3, (hB.below h hB.lt).cell 4⟩, hb.trans (h.mono hb.size)⟩
  clear hA hB hs hb
  by_cases he : x = y
  · subst he
    have HS2 : Hid (stampB x x = true) := by show _ = _; rw [HST.out]; simp
    clear HST
    go_enter Tryz.func74, Tryz.ntmps74
    go_wp2_with fail
    refine (sameStamp_any x x _).mono ?_
    rintro e w1 ⟨rfl, hb1⟩
    rw [HS2.out]
    obtain ⟨⟨p3, p4⟩, ⟨q3, q4⟩, hbw⟩ := HA.out w1 hb1
    clear hb1
    go_wp2_with fail
    go_ret
    exact ⟨by simp, hbw⟩
  · have HD : Hid (decide (x = y) = false) := by show _ = _; simp [he]
    have hne := cd_ne he
    clear he
    rcases hne with hne | ⟨r1, hne⟩ | ⟨r1, r2, hne⟩ | ⟨r1, r2, r3, hne⟩ | ⟨r1, r2, r3, r4, hne⟩
    · have qi : (x.id == y.id) = false := by rw [beq_eq_false_iff_ne]; exact hne
      clear hne HST
      go_enter Tryz.func74, Tryz.ntmps74
      go_wp2_with fail
      go_ret
      exact ⟨by rw [HD.out]; rfl, HBL.out⟩
    · have qi : (x.id == y.id) = true := by simp [r1]
      have HS2 : Hid (stampB x y = false) := by show _ = _; rw [HST.out]; simp [hne]
      clear hne HST r1
      go_enter Tryz.func74, Tryz.ntmps74
      go_wp2_with fail
      refine (sameStamp_any x y _).mono ?_
      rintro e w1 ⟨rfl, hb1⟩
      rw [HS2.out]
      obtain ⟨⟨p3, p4⟩, ⟨q3, q4⟩, hbw⟩ := HA.out w1 hb1
      clear hb1
      go_wp2_with fail
      go_ret
      exact ⟨by rw [HD.out]; rfl, hbw⟩
    · have qi : (x.id == y.id) = true := by simp [r1]
      have HS2 : Hid (stampB x y = false) := by show _ = _; rw [HST.out]; simp [hne]
      clear hne HST r1 r2
      go_enter Tryz.func74, Tryz.ntmps74
      go_wp2_with fail
      refine (sameStamp_any x y _).mono ?_
      rintro e w1 ⟨rfl, hb1⟩
      rw [HS2.out]
      obtain ⟨⟨p3, p4⟩, ⟨q3, q4⟩, hbw⟩ := HA.out w1 hb1
      clear hb1
      go_wp2_with fail
      go_ret
      exact ⟨by rw [HD.out]; rfl, hbw⟩
    · have qi : (x.id == y.id) = true := by simp [r1]
      have qg : (x.gone == y.gone) = false := by rw [beq_eq_false_iff_ne]; exact hne
      have HS2 : Hid (stampB x y = true) := by show _ = _; rw [HST.out]; simp [r2, r3]
      clear hne HST r1 r2 r3
      go_enter Tryz.func74, Tryz.ntmps74
      go_wp2_with fail
      refine (sameStamp_any x y _).mono ?_
      rintro e w1 ⟨rfl, hb1⟩
      rw [HS2.out]
      obtain ⟨⟨p3, p4⟩, ⟨q3, q4⟩, hbw⟩ := HA.out w1 hb1
      clear hb1
      go_wp2_with fail
      go_ret
      exact ⟨by rw [HD.out]; rfl, hbw⟩
    · have qi : (x.id == y.id) = true := by simp [r1]
      have qg : (x.gone == y.gone) = true := by simp [r4]
      have hnb := ba_beq hne
      have hnl := bl_beq hne
      have HS2 : Hid (stampB x y = true) := by show _ = _; rw [HST.out]; simp [r2, r3]
      clear hne HST r1 r2 r3 r4
      go_enter Tryz.func74, Tryz.ntmps74
      go_wp2_with fail
      refine (sameStamp_any x y _).mono ?_
      rintro e w1 ⟨rfl, hb1⟩
      rw [HS2.out]
      obtain ⟨⟨p3, p4⟩, ⟨q3, q4⟩, hbw⟩ := HA.out w1 hb1
      clear hb1
      go_wp2_with fail
      go_ret
      exact ⟨by rw [HD.out]; rfl, hbw⟩
end Go.Proofs.YtdjpkgaicmklmaaGreat

/- What the walks of the merges share. -/
namespace Go.Proofs.YtdjpkgaicmklmaaGreat
open Go.RowKit

/-- What Merge answers. -/
def MergeAns (x : Ans) (Bs : Nat) (e : Ending) (w' : World) : Prop := ∃ a1 n1 c1 a2 n2 c2 a3 n3 c3, e = .returned (.tuple #[.agg #[.slice a1 n1 c1, .slice a2 n2 c2, .slice a3 n3 c3], .int .i64 x.err]) ∧ Lists w' Bs x.K x.C x.E a1 n1 c1 a2 n2 c2 a3 n3 c3
theorem tri_chk (R : Rep) : R.tri.rep.chk = R.chk := (same_lists R).chk
/-- Two replicas that were handed in, and the result's variable. -/
structure M3 (w : World) (x y z : List Value) (wr : World) : Prop where
  a : Bx wr w.heap.size 27 x
  b : Bx wr (w.heap.size + 1) 27 y
  r : Bx wr (w.heap.size + 2) 27 z
  sz : w.heap.size + 3 ≤ wr.heap.size
  old : Below w.heap.size w wr
theorem M3.step {w : World} {x y z : List Value} {wr w' : World} (h : M3 w x y z wr) (hb : Below wr.heap.size wr w') : M3 w x y z w' :=
  ⟨h.a.below hb h.a.lt, h.b.below hb h.b.lt, h.r.below hb h.r.lt, Nat.le_trans h.sz hb.size, h.old.trans (hb.mono h.old.size)⟩
theorem M3.start (w : World) (x y z : Array Value) : M3 w x.toList y.toList z.toList (((w.alloc (.cells x 27)).alloc (.cells y 27)).alloc (.cells z 27)) := by
  obtain ⟨h1, h2, h3, h4⟩ := two_boxes w 27 27 x y
  have h5 := Bx.new ((w.alloc (.cells x 27)).alloc (.cells y 27)) 27 z
  rw [h3] at h5
  refine ⟨h1.alloc _, h2.alloc _, h5, ?_, h4.alloc h4.size _⟩
  show ((((w.alloc (.cells x 27)).alloc (.cells y 27)).heap.push _).size) ≥ _
  simp [h3]
theorem M3.put {w : World} {x y z z' : List Value} {wr w' : World} (h : M3 w x y z wr) (hu : Upd (w.heap.size + 2) wr w') (hr : Bx w' (w.heap.size + 2) 27 z') : M3 w x y z' w' :=
  ⟨h.a.upd hu (by omega), h.b.upd hu (by omega), hr, by rw [hu.size]; exact h.sz, hu.below h.old (by omega)⟩
theorem out_keep {Y w' : World} {cs : Array Value} {t : TypeId} (hb : Below (Y.alloc (.cells cs t)).heap.size (Y.alloc (.cells cs t)) w') : Bx w' Y.heap.size t cs.toList := (Bx.new Y t cs).below hb (Bx.new Y t cs).lt
theorem out_keep2 {Y w' : World} {cs : Array Value} {t : TypeId} (hb : Below (Y.alloc (.cells cs t)).drew.heap.size (Y.alloc (.cells cs t)).drew w') : Bx w' Y.heap.size t cs.toList := ((Bx.new Y t cs).drewN 1).below hb (Bx.new Y t cs).lt
theorem clash_no {a b : List Cd} (h : ∀ i, i < a.length → ∀ j, j < b.length → ¬ ((a.getD i cd0).site = (b.getD j cd0).site ∧ (a.getD i cd0).count = (b.getD j cd0).count ∧ a.getD i cd0 ≠ b.getD j cd0)) : clashB2 a b = false := by
  simp only [clashB2, List.any_eq_false, decide_eq_true_eq, Bool.not_eq_true]
  intro x hx y hy
  obtain ⟨i, hi, rfl⟩ := List.mem_iff_getElem.1 hx
  obtain ⟨j, hj, rfl⟩ := List.mem_iff_getElem.1 hy
  have := h i hi j hj
  simpa [List.getD, hi, hj] using this
theorem clash_yes {a b : List Cd} {i j : Nat} (hi : i < a.length) (hj : j < b.length) (h : (a.getD i cd0).site = (b.getD j cd0).site ∧ (a.getD i cd0).count = (b.getD j cd0).count ∧ a.getD i cd0 ≠ b.getD j cd0) : clashB2 a b = true := by
  simp only [clashB2, List.any_eq_true, decide_eq_true_eq]
  refine ⟨a[i], List.getElem_mem hi, b[j], List.getElem_mem hj, ?_⟩
  simpa [List.getD, hi, hj] using h
theorem tri_card (R : Rep) (i : Nat) (h : i < R.n2) : R.tri.C.getD i cd0 = R.d i := by simp [Rep.tri, List.getD, h]
theorem tri_edit (R : Rep) (i : Nat) (h : i < R.n3) : R.tri.E.getD i ed0 = R.e i := by simp [Rep.tri, List.getD, h]
theorem tri_len (R : Rep) : R.tri.K.length = R.n1 ∧ R.tri.C.length = R.n2 ∧ R.tri.E.length = R.n3 := by simp [Rep.tri]

/-- The merged replica in its variable, as far as it is made. -/
structure MO (W wx : World) (g Bc : Nat) (A B : Rep) (adK : Option Addr) (NK capK : Nat) (adC : Option Addr) (NC capC : Nat) (adE : Option Addr) (NE capE : Nat) (C : List Cd) : Prop where
  old : Below W.heap.size W wx
  o : Bx wx g 27 (repC adK NK capK adC NC capC adE NE capE)
  nk : NK = (refClk A.tri.K B.tri.K 200).length
  nc : NC = C.length
  ne : NE = (bothE A.tri.E B.tri.E).length
  k : Vec wx W.heap.size 37 2 adK NK capK (kcells (refClk A.tri.K B.tri.K 200))
  c : Vec wx Bc 39 5 adC NC capC (ccells C)
  e : Vec wx W.heap.size 41 2 adE NE capE (ecells (bothE A.tri.E B.tri.E))
theorem mo_new (Bc : Nat) {W wE : World} {A B : Rep} {adK adE : Option Addr} {NK capK NE capE : Nat} (h1 : NK = (refClk A.tri.K B.tri.K 200).length) (h2 : NE = (bothE A.tri.E B.tri.E).length) (hk : Vec wE W.heap.size 37 2 adK NK capK (kcells (refClk A.tri.K B.tri.K 200))) (he : Vec wE W.heap.size 41 2 adE NE capE (ecells (bothE A.tri.E B.tri.E))) (hb : Below W.heap.size W wE) :
    MO W (wE.alloc (.cells #[.slice adK NK capK, .slice none 0 0, .slice adE NE capE] 27)) wE.heap.size Bc A B adK NK capK none 0 0 adE NE capE [] :=
  ⟨hb.alloc hb.size _, Bx.new _ _ _, h1, rfl, h2, hk.keep ((Below.refl _ _).alloc (Nat.le_refl _) _), Vec.nil _ _ _ _, he.keep ((Below.refl _ _).alloc (Nat.le_refl _) _)⟩
theorem mo_set (Bc : Nat) {W wE : World} {A B : Rep} {adK adE : Option Addr} {NK capK NE capE g : Nat} (h1 : NK = (refClk A.tri.K B.tri.K 200).length) (h2 : NE = (bothE A.tri.E B.tri.E).length) (hk : Vec wE W.heap.size 37 2 adK NK capK (kcells (refClk A.tri.K B.tri.K 200))) (he : Vec wE W.heap.size 41 2 adE NE capE (ecells (bothE A.tri.E B.tri.E))) (hb : Below W.heap.size W wE) (ob : Bx wE g 27 (repC none 0 0 none 0 0 none 0 0)) (hg : W.heap.size ≤ g) :
    MO W (((wE.setCell ⟨g, 0, none⟩ (.slice adK NK capK)).setCell ⟨g, 1, none⟩ (.slice none 0 0)).setCell ⟨g, 2, none⟩ (.slice adE NE capE)) g Bc A B adK NK capK none 0 0 adE NE capE [] := by
  have hu : Upd g wE (((wE.setCell ⟨g, 0, none⟩ (.slice adK NK capK)).setCell ⟨g, 1, none⟩ (.slice none 0 0)).setCell ⟨g, 2, none⟩ (.slice adE NE capE)) := (((Upd.refl g wE).setCell _ rfl _).setCell _ rfl _).setCell _ rfl _
  exact ⟨hu.below hb hg, ((ob.setCell 0 _).setCell 1 _).setCell 2 _, h1, rfl, h2, hk.updo hu (fun b hb e1 => ob.apart hk (by decide) (by rw [hb]; simp [e1])), Vec.nil _ _ _ _, he.updo hu (fun b hb e1 => ob.apart he (by decide) (by rw [hb]; simp [e1]))⟩

theorem MO.step {W wx w' : World} {g Bc : Nat} {A B : Rep} {adK : Option Addr} {NK capK : Nat} {adC : Option Addr} {NC capC : Nat} {adE : Option Addr} {NE capE : Nat} {C : List Cd} (h : MO W wx g Bc A B adK NK capK adC NC capC adE NE capE C) (hb : Below wx.heap.size wx w') : MO W w' g Bc A B adK NK capK adC NC capC adE NE capE C :=
  ⟨h.old.trans (hb.mono h.old.size), h.o.below hb h.o.lt, h.nk, h.nc, h.ne, h.k.keep hb, h.c.keep hb, h.e.keep hb⟩
theorem MO.base {W wx : World} {g Bc : Nat} {A B : Rep} {adK : Option Addr} {NK capK : Nat} {adE : Option Addr} {NE capE : Nat} (h : MO W wx g Bc A B adK NK capK none 0 0 adE NE capE []) (Bd : Nat) : MO W wx g Bd A B adK NK capK none 0 0 adE NE capE [] :=
  ⟨h.old, h.o, h.nk, h.nc, h.ne, h.k, Vec.nil _ _ _ _, h.e⟩
theorem vec_low {w : World} {B e m : Nat} {ad : Option Addr} {n cap : Nat} {xs : List Value} (h : Vec w B e m ad n cap xs) : ∀ b, ad = some b → b.block < w.heap.size := by
  intro b hb
  obtain ⟨_, cur, hc⟩ := h.typed b.block (by rw [hb]; rfl)
  exact (Array.getElem?_eq_some_iff.1 hc).1
theorem Vec.low {w w' : World} {B Bc e m : Nat} {ad : Option Addr} {n cap : Nat} {xs : List Value} (h : Vec w B e m ad n cap xs) (hl : ∀ b, ad = some b → b.block < Bc) (hb : Below Bc w w') : Vec w' B e m ad n cap xs := by
  refine ⟨h.1, ?_⟩
  rcases h.2 with h2 | ⟨g, c, cur, hv, hB, hg, r⟩
  · exact Or.inl h2
  · have e1 : ad = some ⟨g, 0, none⟩ := by simp at hv; exact hv.1
    exact Or.inr ⟨g, c, cur, hv, hB, by rw [hb.block g (hl _ e1)]; exact hg, r⟩
/-- One card more. -/
theorem MO.push {W w7 w8 : World} {g Bc : Nat} {A B : Rep} {adK : Option Addr} {NK capK : Nat} {adC : Option Addr} {NC capC : Nat} {adE : Option Addr} {NE capE : Nat} {C : List Cd} (h : MO W w7 g Bc A B adK NK capK adC NC capC adE NE capE C) (hb : Below Bc w7 w8) (hBc : W.heap.size ≤ Bc) (lk : ∀ b, adK = some b → b.block < Bc) (le : ∀ b, adE = some b → b.block < Bc) (lg : g < Bc) (hg : W.heap.size ≤ g)
    {x : Cd} {ad' : Option Addr} {cap' : Nat} (hv : Vec w8 Bc 39 5 ad' (NC + 1) cap' (ccells C ++ x.cells)) :
    MO W (w8.setCell ⟨g, 1, none⟩ (.slice ad' (NC + 1) cap')) g Bc A B adK NK capK ad' (NC + 1) cap' adE NE capE (C ++ [x]) := by
  have ho : Bx w8 g 27 (repC adK NK capK adC NC capC adE NE capE) := h.o.below hb lg
  have hu : Upd g w8 (w8.setCell ⟨g, 1, none⟩ (.slice ad' (NC + 1) cap')) := (Upd.refl g w8).setCell _ rfl _
  have hk8 := h.k.low lk hb
  have he8 := h.e.low le hb
  exact ⟨hu.below (h.old.trans (hb.mono hBc)) hg, ho.setCell 1 _, h.nk, by rw [h.nc]; simp, h.ne, hk8.updo hu (fun b hb e1 => ho.apart hk8 (by decide) (by rw [hb]; simp [e1])), by rw [ccells_app, show ccells [x] = x.cells by simp [ccells]]; exact hv.updo hu (fun b hb e1 => ho.apart hv (by decide) (by rw [hb]; simp [e1])), he8.updo hu (fun b hb e1 => ho.apart he8 (by decide) (by rw [hb]; simp [e1]))⟩
theorem heap_newA (W : World) (x : Obj) : (W.alloc x).drew.heap[W.heap.size]? = some x := by show (W.heap.push x)[W.heap.size]? = _; simp
theorem new_atA {X : World} {N : Nat} {cs : List Value} {t : TypeId} (h : X.heap[N]? = some (.cells cs.toArray t)) : ∀ j u, cs[j]? = some u → X.cell? ((⟨N, 0, none⟩ : Addr).add j) = some u := by
  intro j u hu
  rw [addr_add]
  simp [World.cell?, h, hu]
theorem lowTo_eq (A B : Rep) (id : Int) : ∀ k, k ≤ A.n2 + B.n2 → lowTo A B id k = ((idsOf A.tri.C B.tri.C).take k).foldl (lowStep id) 0
  | 0, _ => by simp [lowTo]
  | k + 1, h => by
    have hl : (idsOf A.tri.C B.tri.C).length = A.n2 + B.n2 := by simp [idsOf, Rep.tri]
    rw [List.take_succ_eq_append_getElem (by omega), List.foldl_append, ← lowTo_eq A B id k (by omega)]
    simp only [lowTo, List.foldl_cons, List.foldl_nil]
    congr 1
    unfold idsR idsOf
    split
    · rename_i h1
      rw [List.getElem_append_left (by simp [Rep.tri]; exact h1)]; simp [Rep.tri]
    · rename_i h1
      rw [List.getElem_append_right (by simp [Rep.tri]; omega)]; simp [Rep.tri]
theorem lowR_eq (A B : Rep) (id : Int) : lowR A B id = lowAbove id (idsOf A.tri.C B.tri.C) := by
  have hl : (idsOf A.tri.C B.tri.C).length = A.n2 + B.n2 := by simp [idsOf, Rep.tri]
  unfold lowR lowAbove
  rw [lowTo_eq A B id _ (Nat.le_refl _), List.take_of_length_le (by omega)]
theorem Rep.nums {R : Rep} (h : R.chk = 0) : (∀ i, i < R.n1 → 1 ≤ (R.c i).site ∧ (R.c i).site ≤ 200 ∧ 1 ≤ (R.c i).count) ∧ (∀ i, i < R.n2 → 1 ≤ (R.d i).id) := by
  have g1 : R.manyB = false := by
    cases hh : R.manyB
    · rfl
    · simp [Rep.chk, hh] at h
  have g2 : R.numB = false := by
    cases hh : R.numB
    · rfl
    · simp [Rep.chk, g1, hh] at h
  unfold Rep.numB at g2
  simp only [Bool.or_eq_false_iff] at g2
  refine ⟨fun i hi => ?_, fun i hi => ?_⟩
  · cases hn : R.num1 i with
    | true => rw [anyTo_hit hi hn] at g2; exact absurd g2.1 (by simp)
    | false => simp [Rep.num1, scB, outB] at hn; omega
  · cases hn : R.num2 i with
    | true => rw [anyTo_hit hi hn] at g2; exact absurd g2.2.1 (by simp)
    | false => simp [Rep.num2, scB, outB] at hn; omega
theorem tri_good {R : Rep} (h : R.chk = 0) : Asc Cd.id R.tri.C ∧ ∀ x ∈ R.tri.C, 0 < x.id := by
  have h2 : R.tri.rep.chk = 0 := by rw [tri_chk]; exact h
  refine ⟨(Tri.asc h2).2, fun x hx => ?_⟩
  simp only [Rep.tri, List.mem_map, List.mem_range] at hx
  obtain ⟨i, hi, rfl⟩ := hx
  have := (Rep.nums h).2 i hi; omega
theorem tri_clocks {R : Rep} (h : R.chk = 0) : Asc Ck.site R.tri.K ∧ ∀ x ∈ R.tri.K, 1 ≤ x.site ∧ x.site ≤ 200 ∧ 1 ≤ x.count := by
  have h2 : R.tri.rep.chk = 0 := by rw [tri_chk]; exact h
  refine ⟨(Tri.asc h2).1, fun x hx => ?_⟩
  simp only [Rep.tri, List.mem_map, List.mem_range] at hx
  obtain ⟨i, hi, rfl⟩ := hx
  exact (Rep.nums h).1 i hi
/-- Where a number stands among the merged ones. -/
def posU (M : List Cd) (u : Value) : Nat := M.findIdx fun c => c.id == intOf u
theorem posU_at {M : List Cd} (h : Asc Cd.id M) (p : ∀ c ∈ M, 0 < c.id) (k : Nat) (hk : k ≤ M.length) : posU M (.int .i64 (idAt M k)) = k := by
  unfold posU
  rcases Nat.lt_or_ge k M.length with h1 | h1
  · have e : idAt M k = M[k].id := by unfold idAt; rw [List.getElem?_eq_getElem h1]
    rw [List.findIdx_eq h1]
    refine ⟨by simp [intOf, e], fun j hj => ?_⟩
    have := List.pairwise_iff_getElem.1 h j k (by omega) h1 hj
    simp only [intOf, e, beq_eq_false_iff_ne]
    omega
  · have e : idAt M k = 0 := by unfold idAt; rw [List.getElem?_eq_none h1]
    rw [List.findIdx_eq_length_of_false (fun c hc => by have := p c hc; simp only [intOf, e, beq_eq_false_iff_ne]; omega)]
    omega
theorem look_range (d : Nat → Cd) (id : Int) : ∀ n, look Cd.id ((List.range n).map d) id = (firstOf (fun i => (d i).id == id) n).map d
  | 0 => rfl
  | n + 1 => by
    rw [List.range_succ, List.map_append, look_append, look_range d id n]
    unfold firstOf
    rw [List.range_succ, List.find?_append]
    cases hf : (List.range n).find? (fun i => (d i).id == id) with
    | some i => rfl
    | none =>
      simp only [Option.map_none, Option.none_or, List.map_cons, List.map_nil, look, List.find?_cons, List.find?_nil]
      by_cases e : (d n).id = id
      · simp [e]
      · have : ((d n).id == id) = false := by rw [beq_eq_false_iff_ne]; exact e
        simp [e, this]
theorem look_find (R : Rep) (id : Int) : look Cd.id R.tri.C id = (findR R id).map R.d := look_range R.d id R.n2
theorem find_lt {R : Rep} {id : Int} {i : Nat} (h : findR R id = some i) : i < R.n2 := (firstOf_some.mp h).2.1

theorem layK_len {α : Type} (key : α → Int) (f : α → α → α) : ∀ (b a : List α), (layK key f a b).length ≤ a.length + b.length
  | [], a => by simp [layK]
  | c :: b, a => by
    have h := layK_len key f b (putK key f a c)
    have h2 : ∀ l : List α, (putK key f l c).length ≤ l.length + 1 := by
      intro l
      induction l with
      | nil => simp [putK]
      | cons o l ih => simp only [putK]; split; (simp; omega); split <;> simp
    have := h2 a
    simp only [layK, List.foldl_cons] at h ⊢
    simp; omega
end Go.Proofs.YtdjpkgaicmklmaaGreat

/- Clashing of the program: walked. -/
namespace Go.Proofs.YtdjpkgaicmklmaaGreat
open Go.RowKit

theorem stamp_iff (x y : Cd) : stampB x y = true ↔ x.site = y.site ∧ x.count = y.count := by unfold stampB; simp

end Go.Proofs.YtdjpkgaicmklmaaGreat

/- Over, Merged, Merge of the program: walked. -/
namespace Go.Proofs.YtdjpkgaicmklmaaGreat
open Go.RowKit

set_option maxRecDepth 100000 in
set_option maxHeartbeats 8000000 in
theorem over_any (A D : Tri) (a1 a2 a3 b1 b2 b3 : Option Addr) (k1 k2 k3 l1 l2 l3 : Nat) (w : World) (hA : Has w A.rep a1 a2 a3) (hD : Has w D.rep b1 b2 b3) (hk1 : A.K.length ≤ k1) (hk2 : A.C.length ≤ k2) (b : A.K.length ≤ 1099511627776 ∧ A.C.length ≤ 1099511627776 ∧ D.K.length ≤ 1099511627776 ∧ D.C.length ≤ 1099511627776 ∧ D.E.length ≤ 1099511627776) (hasc : Asc Ck.site D.K ∧ Asc Cd.id D.C) :
    Calls Tryz.prog 69 #[repV A.rep a1 a2 a3 k1 k2 k3, repV D.rep b1 b2 b3 l1 l2 l3] w fun e w' => ∃ c1 n1 d1 c2 n2 d2 c3 n3 d3, e = .returned (.agg #[.slice c1 n1 d1, .slice c2 n2 d2, .slice c3 n3 d3]) ∧ Lists w' w.heap.size (layS A D).K (layS A D).C (layS A D).E c1 n1 d1 c2 n2 d2 c3 n3 d3 ∧ Below w.heap.size w w' := by
  obtain ⟨g1, g2, g3, g4, g5⟩ := b
  have HA : Hid (Has w A.rep a1 a2 a3) := hA
  have HD : Hid (Has w D.rep b1 b2 b3) := hD
  have HASC : Hid (Asc Ck.site D.K ∧ Asc Cd.id D.C) := hasc
  have H0 : Hid (M3 w (repC a1 A.rep.n1 k1 a2 A.rep.n2 k2 a3 A.rep.n3 k3) (repC b1 D.rep.n1 l1 b2 D.rep.n2 l2 b3 D.rep.n3 l3) (repC none 0 0 none 0 0 none 0 0) (((w.alloc (.cells #[.slice a1 A.rep.n1 k1, .slice a2 A.rep.n2 k2, .slice a3 A.rep.n3 k3] 27)).alloc (.cells #[.slice b1 D.rep.n1 l1, .slice b2 D.rep.n2 l2, .slice b3 D.rep.n3 l3] 27)).alloc (.cells #[.slice none 0 0, .slice none 0 0, .slice none 0 0] 27))) := M3.start w _ _ _
  have x0 := H0.out.a.cell 0; have y0 := H0.out.b.cell 0
  dsimp only [List.getElem?_cons_zero, List.getElem?_cons_succ] at x0 y0
  clear hA hD hasc
  go_enter Tryz.func69, Tryz.ntmps69
  go_wp2_with fail
  refine (clocksOver_any A.K D.K a1 b1 A.K.length D.K.length k1 l1 _ (HA.out.l1.below H0.out.old) (HD.out.l1.below H0.out.old) rfl rfl (by omega) (by omega) hk1 HASC.out.1).mono ?_
  rintro e w1 ⟨c1, d1, n1, rfl, hn1, hv1, hb1⟩
  have HM1 := H0.out.step hb1
  have hz0 := H0.out.sz
  have HV1 : Hid (Vec w1 (w.heap.size + 3) 37 2 c1 n1 d1 (kcells (layS A D).K)) := hv1.mono hz0
  have HN1 : Hid (n1 = (layS A D).K.length) := hn1
  clear hv1 hn1 hb1 H0 x0 y0 hz0
  have hM1 : Hid (M3 w (repC a1 A.rep.n1 k1 a2 A.rep.n2 k2 a3 A.rep.n3 k3) (repC b1 D.rep.n1 l1 b2 D.rep.n2 l2 b3 D.rep.n3 l3) (repC none 0 0 none 0 0 none 0 0) w1) := HM1
  clear HM1
  have x1 := hM1.out.a.cell 1; have y1 := hM1.out.b.cell 1
  dsimp only [List.getElem?_cons_zero, List.getElem?_cons_succ] at x1 y1
  go_wp2_with fail
  refine (cardsOver_any A.C D.C a2 b2 A.C.length D.C.length k2 l2 _ (HA.out.l2.below hM1.out.old) (HD.out.l2.below hM1.out.old) rfl rfl (by omega) (by omega) hk2 HASC.out.2).mono ?_
  rintro e w2 ⟨c2, d2, n2, rfl, hn2, hv2, hb2⟩
  have HM2 := hM1.out.step hb2
  have hz0 := hM1.out.sz
  have HV2 : Hid (Vec w2 (w.heap.size + 3) 39 5 c2 n2 d2 (ccells (layS A D).C)) := hv2.mono hz0
  have HV1b : Hid (Vec w2 (w.heap.size + 3) 37 2 c1 n1 d1 (kcells (layS A D).K)) := HV1.out.keep hb2
  have HN2 : Hid (n2 = (layS A D).C.length) := hn2
  clear hv2 hn2 hb2 hM1 HV1 x1 y1 hz0
  have hM2 : Hid (M3 w (repC a1 A.rep.n1 k1 a2 A.rep.n2 k2 a3 A.rep.n3 k3) (repC b1 D.rep.n1 l1 b2 D.rep.n2 l2 b3 D.rep.n3 l3) (repC none 0 0 none 0 0 none 0 0) w2) := HM2
  clear HM2
  have x2 := (hM2.out.b.alloc (.cells #[] 41)).cell 2
  dsimp only [List.getElem?_cons_zero, List.getElem?_cons_succ] at x2
  have hV0 : Hid (Vec (w2.alloc (.cells #[] 41)) w2.heap.size 41 2 (some ⟨w2.heap.size, 0, none⟩) 0 0 []) := Vec.lit w2 w2.heap.size 41 2 0 [] (Nat.le_refl _) (by omega) rfl
  have hz0 := hM2.out.sz
  have HSZ : Hid (w2.heap.size ≤ (w2.alloc (.cells #[] 41)).heap.size) := by show _ ≤ _; simp
  have HLE : Hid (Lies (w2.alloc (.cells #[] 41)) b3 D.E.length 2 (fun i => (D.E.getD i ed0).cells)) := (HD.out.l3.below hM2.out.old).below ((Below.refl _ _).alloc (Nat.le_refl _) _)
  have HR2 : Hid (Bx (w2.alloc (.cells #[] 41)) (w.heap.size + 2) 27 (repC none 0 0 none 0 0 none 0 0)) := hM2.out.r.alloc _
  go_wp2_with (first
    | (at_builtin; refine wpList_pushAll (by rfl) _ _ 25 (by rfl) w2.heap.size 41 2 24 (.agg #[.int .i64 0, .string ⟨#[]⟩]) Tryz.underlying25 (by kernel_rfl) rfl (by decide) _ 0 0 [] (by rfl) hV0.out b3 D.E.length l3 (fun i => (D.E.getD i ed0).cells) (by rfl) HLE.out (fun _ _ => rfl) (fun j _ => ones_ed _) ?_ ?_ ?_ D.E.length ?_ ?_; (omega); (omega); (exact HSZ.out); (omega); intro c3 d3 w3 hv3 hb3 hs3; have hr3 := HR2.out.below hb3 (by omega))
    | (refine wpList_bstore (by rfl) _ _ _ (by rfl) (w.heap.size + 2) 27 (by rfl) _ _ (by rfl) hr3 3 (by rfl) (by kernel_rfl) (by rfl) (by intro x hx; simp at hx; rcases hx with rfl | rfl | rfl <;> rfl) ?_; intro w9 hr9 hu9))
  rw [List.nil_append, range_ecells] at hv3
  have hbA : Below w2.heap.size w2 w3 := ((Below.refl _ w2).alloc (Nat.le_refl _) _).trans hb3
  exact bodyPost_ret (v := .agg #[.slice c1 n1 d1, .slice c2 n2 d2, .slice c3 D.E.length d3]) (results_box1 (by rfl) _ _ (w.heap.size + 2) 27 _ _ (by rfl) hr9 Tryz.underlying27 (by rfl) 3 (by rfl) (by kernel_rfl)) rfl ⟨c1, n1, d1, c2, n2, d2, c3, D.E.length, d3, rfl, ⟨((HV1b.out.keep hbA).upd hu9 (by omega)).mono (by omega), ((HV2.out.keep hbA).upd hu9 (by omega)).mono (by omega), ((hv3.mono hz0).upd hu9 (by omega)).mono (by omega), HN1.out, HN2.out, rfl⟩, hu9.below (hM2.out.old.trans (hbA.mono hM2.out.old.size)) (by omega)⟩

/-- What Merged makes of two. -/
theorem merged_lay {A B : Tri} (hA : A.rep.chk = 0) (hB : B.rep.chk = 0) : layS A ⟨newK A.K B.K, newC A.C B.C, bothE A.E B.E⟩ = ⟨mergeK A.K B.K, mergeC A.C B.C, bothE A.E B.E⟩ := by
  obtain ⟨a1, a2⟩ := Tri.asc hA
  obtain ⟨b1, b2⟩ := Tri.asc hB
  have hn := (Rep.nums hB).1
  have hp : ∀ x ∈ B.K, 1 ≤ x.count := fun x hx => by
    obtain ⟨i, hi, rfl⟩ := List.mem_iff_getElem.1 hx
    have := (hn i hi).2.2
    simpa [Tri.rep, repOf, List.getD, hi] using this
  unfold layS
  simp only
  rw [lay_newK a1 b1 hp, lay_newC a2 b2]
theorem few_of {A : Tri} (h : A.rep.chk = 0) : A.K.length ≤ 8 ∧ A.C.length ≤ 40 ∧ A.E.length ≤ 16 := Rep.many h

end Go.Proofs.YtdjpkgaicmklmaaGreat

/- Links of a chain in memory; SealOf, placeOf, firstTwice of the program: walked. -/
namespace Go.Proofs.YtdjpkgaicmklmaaGreat
open Go.RowKit

/-- A bundle that was read: where its lists lie. -/
structure Sl where
  b : List UInt8
  a1 : Option Addr
  a2 : Option Addr
  a3 : Option Addr
  k1 : Nat
  k2 : Nat
  k3 : Nat
abbrev Sl.seq (s : Sl) : Int := (readRd s.b).seq
abbrev Sl.base (s : Sl) : Int := (readRd s.b).base
abbrev Sl.cells (s : Sl) : List Value := [.int .i64 (readRd s.b).seq, .int .i64 (readRd s.b).base, .slice s.a1 (readRd s.b).K.length s.k1, .slice s.a2 (readRd s.b).C.length s.k2, .slice s.a3 (readRd s.b).E.length s.k3, .int .i64 (sealR s.b)]
def sl0 : Sl := ⟨[], none, none, none, 0, 0, 0⟩
def slc (L : List Sl) : List Value := (L.map Sl.cells).flatten
theorem slc_app (a b : List Sl) : slc (a ++ b) = slc a ++ slc b := by simp [slc]
/-- The lists of one. -/
abbrev Sl.In (w : World) (B : Nat) (s : Sl) : Prop := Lists w B (readRd s.b).K (readRd s.b).C (readRd s.b).E s.a1 (readRd s.b).K.length s.k1 s.a2 (readRd s.b).C.length s.k2 s.a3 (readRd s.b).E.length s.k3
def Sls (w : World) (B : Nat) (L : List Sl) : Prop := ∀ s ∈ L, s.In w B
theorem Sls.keep {w w' : World} {B : Nat} {L : List Sl} (h : Sls w B L) (hb : Below w.heap.size w w') : Sls w' B L := fun s hs => (h s hs).keep hb
theorem Sls.mono {w : World} {B B' : Nat} {L : List Sl} (h : Sls w B L) (hb : B' ≤ B) : Sls w B' L := fun s hs => (h s hs).mono hb
theorem slvec_lies {w : World} {B e : Nat} {ad : Option Addr} {n cap : Nat} {L : List Sl} (h : Vec w B e 6 ad n cap (slc L)) (hn : n = L.length) : Lies w ad n 6 (fun i => (L.getD i sl0).cells) := by
  refine Vec.lies (rows := L.map Sl.cells) h ?_ (by simp [hn]) _ ?_
  · intro r hr; obtain ⟨f, _, rfl⟩ := List.mem_map.1 hr; rfl
  · intro i hi; subst hn; simp [List.getD, hi]
theorem ones6 (s : Sl) : ∀ v, v ∈ s.cells → v.oneCell' = true := by intro v h; simp at h; rcases h with rfl | rfl | rfl | rfl | rfl | rfl <;> rfl
theorem take_sl (L : List Sl) (i : Nat) (h : i < L.length) : L.take (i + 1) = L.take i ++ [L.getD i sl0] := by
  rw [List.take_succ_eq_append_getElem h, List.getD_eq_getElem?_getD, List.getElem?_eq_getElem h]; rfl
/-- Where the link with a Seq stands, or the end. -/
def slIx (L : List Sl) (n : Int) : Nat := L.findIdx fun s => s.seq == n
theorem slIx_hit {L : List Sl} {n : Int} {k : Nat} (hk : k < L.length) (h : ((L.getD k sl0).seq == n) = true) (hno : ∀ j, j < k → ((L.getD j sl0).seq == n) = false) : slIx L n = k := by
  unfold slIx
  rw [List.findIdx_eq hk]
  refine ⟨by simpa [List.getD, hk] using h, fun j hj => ?_⟩
  have := hno j hj
  simpa [List.getD, show j < L.length by omega] using this
theorem slIx_none {L : List Sl} {n : Int} (hno : ∀ j, j < L.length → ((L.getD j sl0).seq == n) = false) : slIx L n = L.length := by
  unfold slIx
  apply List.findIdx_eq_length_of_false
  intro c hc
  obtain ⟨j, hj, rfl⟩ := List.mem_iff_getElem.1 hc
  have := hno j hj
  simpa [List.getD, hj] using this
theorem slIx_le (L : List Sl) (n : Int) : slIx L n ≤ L.length := List.findIdx_le_length
theorem slIx_map (L : List Sl) (n : Int) : seqIx (L.map Sl.b) n = slIx L n := by
  unfold seqIx slIx
  rw [List.findIdx_map]; rfl
theorem Lies.sl {w : World} {a : Option Addr} {n : Nat} {c : Nat → Sl} (h : Lies w a n 6 (fun i => (c i).cells)) (cap : Nat) {k : Nat} (hk : k < n) :
    ∃ b o, b < w.heap.size ∧ (∀ w', (Instr.indexAt 72 (.slice a n cap) (.int .i64 (k : Int))).run Tryz.prog w' = .ok (.pointer (some ⟨b, o, none⟩)) w') ∧
      (w.cell? ⟨b, o, none⟩ = some (.int .i64 (readRd (c k).b).seq) ∧ w.cell? ⟨b, o + 1, none⟩ = some (.int .i64 (readRd (c k).b).base) ∧ w.cell? ⟨b, o + 2, none⟩ = some (.slice (c k).a1 (readRd (c k).b).K.length (c k).k1) ∧ w.cell? ⟨b, o + 3, none⟩ = some (.slice (c k).a2 (readRd (c k).b).C.length (c k).k2) ∧ w.cell? ⟨b, o + 4, none⟩ = some (.slice (c k).a3 (readRd (c k).b).E.length (c k).k3) ∧ w.cell? ⟨b, o + 5, none⟩ = some (.int .i64 (sealR (c k).b))) := by
  obtain ⟨b, o, hb, hi, hc⟩ := h.at cap (P := Tryz.prog) (t := 72) (by kernel_rfl) (by kernel_rfl) hk
  exact ⟨b, o, hb, hi, hc 0 _ (by omega) rfl, hc 1 _ (by omega) rfl, hc 2 _ (by omega) rfl, hc 3 _ (by omega) rfl, hc 4 _ (by omega) rfl, hc 5 _ (by omega) rfl⟩

set_option maxRecDepth 100000 in
set_option maxHeartbeats 4000000 in
theorem sealOf_any (b : List UInt8) (w : World) (hb : b.length ≤ 1099511627776) (h4 : 4 ≤ b.length) :
    Calls Tryz.prog 67 #[.string (str b)] w fun e w' => e = .returned (.int .i64 (sealR b)) ∧ w' = w := by
  have hz := str_size b
  obtain ⟨n, hn⟩ : ∃ n, (str b).size = n + 4 := ⟨(str b).size - 4, by omega⟩
  have hbl : b.length - 4 = n := by omega
  have hx2 : (str b).extract n (n + 4) = str (b.drop n) := by rw [str_extract, List.take_of_length_le (by simp; omega)]
  have hsub : ((n : Int) + 4 - 4) = (n : Int) := by omega
  have hle2 : (n : Int) ≤ (n : Int) + 4 := by omega
  have HS : Hid (sealR b = fourRd (b.drop n)) := by show _ = _; unfold sealR; rw [hbl]
  have HD : Hid ((b.drop n).length = 4) := by show _ = _; simp; omega
  have hnb : n ≤ 1099511627776 := by omega
  have hd0 : ¬ (n : Int) < 0 := by omega
  clear hz hbl
  go_enter Tryz.func67, Tryz.ntmps67
  go_wp2_with fail
  refine (fromFour_any (b.drop n) _ HD.out).mono ?_
  rintro e w1 ⟨rfl, rfl⟩
  go_wp2_with fail
  go_ret
  exact ⟨by rw [HS.out]; rfl, rfl⟩

set_option maxHeartbeats 2000000 in
theorem placeOf_any (L : List Sl) (a : Option Addr) (n cap : Nat) (q : Int) (w : World) (hn : n = L.length) (hn2 : n ≤ 140737488355328) (hL : Lies w a n 6 (fun i => (L.getD i sl0).cells)) :
    Calls Tryz.prog 68 #[.slice a n cap, .int .i64 q] w fun e w' => e = .returned (.int .i64 (slIx L q : Int)) ∧ w' = w := by
  have HL : Hid (n = L.length) := hn
  clear hn
  go_enter Tryz.func68, Tryz.ntmps68
  go_wp2
  go_loop [5] (fun i => ∃ k : Nat, k ≤ n ∧ i = .int .i64 k ∧ (∀ j, j < k → ((L.getD j sl0).seq == q) = false)) (fun i => n - (intOf i).toNat)
  case atStart => exact ⟨0, Nat.zero_le _, rfl, fun j hj => by omega⟩
  case round =>
    obtain ⟨k, hk, rfl, hno⟩ := hrel
    have HN : Hid (∀ j, j < k → ((L.getD j sl0).seq == q) = false) := hno
    clear hno
    by_cases hlt : k < n
    · obtain ⟨b, o, hbl, hix, c0, -⟩ := Lies.sl (c := fun i => L.getD i sl0) hL cap hlt
      have HE : Hid (((L.getD k sl0).seq == q) = true → slIx L q = k) := fun hq => slIx_hit (by rw [← HL.out]; exact hlt) hq HN.out
      have HQ : Hid (((L.getD k sl0).seq == q) = false → ∀ j, j < k + 1 → ((L.getD j sl0).seq == q) = false) := fun hq j hj => by rcases Nat.lt_or_ge j k with h | h; (exact HN.out j h); (rw [show j = k by omega]; exact hq)
      simp only [Sl.seq] at HE HQ
      generalize (readRd (L.getD k sl0).b).seq = c at *
      cases hq : (c == q) with
      | true =>
        have E : Hid (slIx L q = k) := HE.out hq
        go_wp2
        go_ret
        exact ⟨ret_int (by rw [E.out]), rfl⟩
      | false =>
        have E : Hid (∀ j, j < k + 1 → ((L.getD j sl0).seq == q) = false) := HQ.out hq
        go_wp2
        go_round
        case rel => exact ⟨k + 1, by omega, by go_num, E.out⟩
        case measure => simp [intOf]; omega
    · have E : Hid (slIx L q = n) := by
        show _ = _
        rw [HL.out]; exact slIx_none (fun j hj => HN.out j (by have := HL.out; omega))
      go_wp2
      go_ret
      exact ⟨ret_int (by rw [E.out]), rfl⟩

def twB (L : List Sl) (i : Nat) : Bool := decide (slIx L (L.getD i sl0).seq < i)

set_option maxHeartbeats 2000000 in
theorem cfirstTwice_any (L : List Sl) (a : Option Addr) (n cap : Nat) (w : World) (hn : n = L.length) (hn2 : n ≤ 1099511627776) (hL : Lies w a n 6 (fun i => (L.getD i sl0).cells)) :
    Calls Tryz.prog 40 #[.slice a n cap] w fun e w' => e = .returned (.int .i64 (((firstOf (twB L) n).getD n : Nat) : Int)) ∧ w' = w := by
  have HL : Hid (n = L.length) := hn
  have HLI : Hid (Lies w a n 6 (fun i => (L.getD i sl0).cells)) := hL
  clear hn hL
  go_enter Tryz.func40, Tryz.ntmps40
  go_wp2_with fail
  go_loop [3] (fun i => ∃ k : Nat, k ≤ n ∧ i = .int .i64 k ∧ (∀ j, j < k → twB L j = false)) (fun i => n - (intOf i).toNat)
  case atStart => exact ⟨0, Nat.zero_le _, rfl, fun j hj => by omega⟩
  case round =>
    obtain ⟨k, hk, rfl, hno⟩ := hrel
    have HN : Hid (∀ j, j < k → twB L j = false) := hno
    clear hno
    by_cases hlt : k < n
    · obtain ⟨b, o, hbl, hix, c0, -⟩ := Lies.sl (c := fun i => L.getD i sl0) HLI.out cap hlt
      have HT : Hid (twB L k = decide (slIx L (readRd (L.getD k sl0).b).seq < k)) := rfl
      generalize (readRd (L.getD k sl0).b).seq = c at *
      go_wp2_with fail
      refine (placeOf_any L a n cap c _ HL.out (by omega) HLI.out).mono ?_
      rintro e w1 ⟨rfl, rfl⟩
      have hle := slIx_le L c
      have HLE : Hid (slIx L c ≤ n) := by show _ ≤ _; rw [HL.out]; exact hle
      clear hle
      generalize slIx L c = q at *
      by_cases hq : q < k
      · have E : Hid ((firstOf (twB L) n).getD n = k) := by
          show _ = _
          rw [firstOf_some.mpr ⟨by rw [HT.out]; exact decide_eq_true hq, hlt, HN.out⟩]; rfl
        go_wp2_with fail
        go_ret
        exact ⟨ret_int (by rw [E.out]), rfl⟩
      · have E : Hid (∀ j, j < k + 1 → twB L j = false) := fun j hj => by
          rcases Nat.lt_or_ge j k with h | h
          · exact HN.out j h
          · rw [show j = k by omega, HT.out]; exact decide_eq_false hq
        go_wp2_with fail
        go_round
        case rel => exact ⟨k + 1, by omega, by go_num, E.out⟩
        case measure => simp [intOf]; omega
    · have E : Hid ((firstOf (twB L) n).getD n = n) := by
        show _ = _
        rw [firstOf_none.mpr (fun j hj => HN.out j (by omega))]; rfl
      go_wp2_with fail
      go_ret
      exact ⟨ret_int (by rw [E.out]), rfl⟩
end Go.Proofs.YtdjpkgaicmklmaaGreat

/- linksOf of the program: walked. -/
namespace Go.Proofs.YtdjpkgaicmklmaaGreat
open Go.RowKit

def lkN (l : List (List UInt8)) : Nat := (firstOf (bad4 l) l.length).getD l.length
def lkErr (l : List (List UInt8)) : Int := match firstOf (bad4 l) l.length with
  | some i => (readRd (l.getD i [])).err
  | none => 0
theorem read_long {b : List UInt8} (h : (readRd b).err = 0) : 8 ≤ b.length := by
  by_cases h8 : 8 ≤ b.length
  · exact h8
  · exfalso
    have hs : sealedB b = false := by simp [sealedB, h8]
    unfold readRd at h
    split at h
    · simp [ansErr] at h
    · rw [hs] at h
      simp [ansErr] at h
theorem take_bs (l : List (List UInt8)) (i : Nat) (h : i < l.length) : l.take (i + 1) = l.take i ++ [l.getD i []] := by
  rw [List.take_succ_eq_append_getElem h, List.getD_eq_getElem?_getD, List.getElem?_eq_getElem h]; rfl
theorem Vec.kp1 {w w' : World} {B Bs e m : Nat} {ad : Option Addr} {n cap : Nat} {xs row ys : List Value} {a9 : Option Addr} {ns cs ms : Nat} (h : Vec w B e m ad n cap xs) (hv : Vec w Bs 94 ms a9 ns cs ys) (hk : Kp (a9.map (·.block)) row w w') (he : e ≠ 94) : Vec w' B e m ad n cap xs :=
  h.kpo hk (fun b hb hb' => h.apart hv he b hb hb')
theorem Sls.kp {w w' : World} {B Bs ms : Nat} {L : List Sl} {row ys : List Value} {a9 : Option Addr} {ns cs : Nat} (h : Sls w B L) (hv : Vec w Bs 94 ms a9 ns cs ys) (hk : Kp (a9.map (·.block)) row w w') : Sls w' B L := fun s hs =>
  ⟨(h s hs).v1.kp1 hv hk (by decide), (h s hs).v2.kp1 hv hk (by decide), (h s hs).v3.kp1 hv hk (by decide), rfl, rfl, rfl⟩

set_option maxRecDepth 100000 in
set_option maxHeartbeats 8000000 in
theorem linksOf_any (l : List (List UInt8)) (ad0 : Option Addr) (N cap0 : Nat) (w : World) (hL : Lies w ad0 N 1 (fun i => [.string (str (l.getD i []))])) (hN : N = l.length) (hl : ∀ v, v ∈ l → v.length ≤ 1048576) (hb : N ≤ 1048576) :
    Calls Tryz.prog 39 #[.slice ad0 N cap0] w fun e w' => ∃ ad cap k L, e = .returned (.tuple #[.slice ad k cap, .int .i64 (lkErr l)]) ∧ k = L.length ∧ L.map Sl.b = l.take (lkN l) ∧ Vec w' w.heap.size 94 6 ad k cap (slc L) ∧ Sls w' w.heap.size L ∧ Below w.heap.size w w' := by
  have hV0 : Hid (Vec (w.alloc (.cells #[] 94)) w.heap.size 94 6 (some ⟨w.heap.size, 0, none⟩) 0 0 (slc [])) := Vec.lit w w.heap.size 94 6 0 [] (Nat.le_refl _) (by omega) rfl
  have HN : Hid (N = l.length) := hN
  have HL : Hid (∀ v, v ∈ l → v.length ≤ 1048576) := hl
  have HLI : Hid (Lies w ad0 N 1 (fun i => [.string (str (l.getD i []))])) := hL
  clear hN hl hL
  go_enter Tryz.func39, Tryz.ntmps39
  go_wp2_with fail
  go_loopw [4, 5, 6, 7, 8, 9] (fun v u _ _ _ _ wr => ∃ (i : Nat) (ad : Option Addr) (cap : Nat) (L : List Sl), i ≤ N ∧ u = .int .i64 i ∧ v = .slice ad i cap ∧ i = L.length ∧ L.map Sl.b = l.take i ∧ (∀ j, j < i → bad4 l j = false) ∧ Vec wr w.heap.size 94 6 ad i cap (slc L) ∧ Sls wr w.heap.size L ∧ Below w.heap.size w wr) (fun _ u _ _ _ _ _ => N - (intOf u).toNat)
  case atStart => exact ⟨0, _, _, [], by omega, rfl, rfl, rfl, by simp, by intro j hj; omega, hV0.out, (fun s hs => by cases hs), (Below.refl _ _).alloc (Nat.le_refl _) _⟩
  case round =>
    clear hV0
    obtain ⟨i, ad, cap, L, hi, rfl, rfl, hiL, hmap, hbad, hv, hsl, hbw⟩ := hrel
    have HIL : Hid (i = L.length) := hiL
    have HMAP : Hid (L.map Sl.b = l.take i) := hmap
    have HBAD : Hid (∀ j, j < i → bad4 l j = false) := hbad
    clear hiL hmap hbad
    by_cases hlt : i < N
    · obtain ⟨b, o, hbl, hix, hc⟩ := (HLI.out.below hbw).at cap0 (P := Tryz.prog) (t := 22) (by kernel_rfl) (by kernel_rfl) hlt
      have c0 : wr.cell? ⟨b, o, none⟩ = some (.string (str (l.getD i []))) := hc 0 _ (by omega) rfl
      have hil : i < l.length := by rw [← HN.out]; exact hlt
      have hsl1 : (l.getD i []).length ≤ 1048576 := HL.out _ (volAt_mem hil)
      have HT : Hid (l.take (i + 1) = l.take i ++ [l.getD i []]) := take_bs l i hil
      have HB4 : Hid (bad4 l i = ((readRd (l.getD i [])).err != 0)) := rfl
      have HE : Hid ((readRd (l.getD i [])).err ≠ 0 → lkErr l = (readRd (l.getD i [])).err ∧ lkN l = i) := fun h => by
        have : firstOf (bad4 l) l.length = some i := firstOf_some.mpr ⟨by rw [HB4.out]; exact bne_iff_ne.mpr h, hil, HBAD.out⟩
        unfold lkErr lkN; rw [this]; exact ⟨rfl, rfl⟩
      clear hc
      generalize l.getD i [] = s at *
      go_wp2_with fail
      refine (bread_any s _ (by omega)).mono ?_
      rintro e w1 ⟨⟨a1, n1, c1, a2, n2, c2, a3, n3, c3, rfl, hLs⟩, hb1⟩
      obtain ⟨v1, v2, v3, rfl, rfl, rfl⟩ := hLs
      have hbw1 := hbw.trans (hb1.mono hbw.size)
      have HS1 : Hid (Sl.In w1 w.heap.size ⟨s, a1, a2, a3, c1, c2, c3⟩ ∧ Sls w1 w.heap.size L) := ⟨⟨v1.mono hbw.size, v2.mono hbw.size, v3.mono hbw.size, rfl, rfl, rfl⟩, hsl.keep hb1⟩
      have HV1 : Hid (Vec w1 w.heap.size 94 6 ad i cap (slc L)) := hv.keep hb1
      have HBW1 : Hid (Below w.heap.size w w1) := hbw1
      have c01 := (hb1.cell (p := ⟨b, o, none⟩) hbl).trans c0
      have hbl1 : b < w1.heap.size := Nat.lt_of_lt_of_le hbl hb1.size
      clear v1 v2 v3 hv hsl hbw hbw1 hb1 c0 hbl
      by_cases he : (readRd s).err = 0
      · have HE0 : Hid ((readRd s).err = 0) := he
        have H8 : Hid (8 ≤ s.length) := read_long he
        rw [he]
        clear he HE
        have c02 : ∀ ob, (w1.alloc ob).cell? ⟨b, o, none⟩ = some (.string (str s)) := fun ob => (((Below.refl _ w1).alloc (Nat.le_refl _) ob).cell (p := ⟨b, o, none⟩) hbl1).trans c01
        have hX1 := Bx.new w1 46 (lnkC (readRd s).seq (readRd s).base a1 (readRd s).K.length c1 a2 (readRd s).C.length c2 a3 (readRd s).E.length c3).toArray
        have z0 := hX1.cell 0; have z1 := hX1.cell 1; have z2 := hX1.cell 2; have z3 := hX1.cell 3; have z4 := hX1.cell 4
        dsimp only [List.getElem?_cons_zero, List.getElem?_cons_succ] at z0 z1 z2 z3 z4
        go_wp2_with fail
        refine (sealOf_any s _ (by omega) (by have := H8.out; omega)).mono ?_
        rintro e w2 ⟨rfl, rfl⟩
        have hal : Below w1.heap.size w1 (w1.alloc (.cells (lnkC (readRd s).seq (readRd s).base a1 (readRd s).K.length c1 a2 (readRd s).C.length c2 a3 (readRd s).E.length c3).toArray 46)) := (Below.refl _ _).alloc (Nat.le_refl _) _
        have HV2 : Hid (Vec (w1.alloc (.cells (lnkC (readRd s).seq (readRd s).base a1 (readRd s).K.length c1 a2 (readRd s).C.length c2 a3 (readRd s).E.length c3).toArray 46)) w.heap.size 94 6 ad i cap (slc L)) := HV1.out.keep hal
        have HS2 : Hid (Sls (w1.alloc (.cells (lnkC (readRd s).seq (readRd s).base a1 (readRd s).K.length c1 a2 (readRd s).C.length c2 a3 (readRd s).E.length c3).toArray 46)) w.heap.size (L ++ [⟨s, a1, a2, a3, c1, c2, c3⟩])) := fun x hx => by
          rcases List.mem_append.1 hx with h | h
          · exact (HS1.out.2 x h).keep hal
          · simp at h; subst h; exact HS1.out.1.keep hal
        have HBW2 : Hid (Below w.heap.size w (w1.alloc (.cells (lnkC (readRd s).seq (readRd s).base a1 (readRd s).K.length c1 a2 (readRd s).C.length c2 a3 (readRd s).E.length c3).toArray 46))) := HBW1.out.trans (hal.mono HBW1.out.size)
        clear hal HV1 HS1 HBW1 c01 c02 hX1
        have hg4 : bad4 l i = false := by rw [HB4.out, HE0.out]; rfl
        have HBADN : Hid (∀ j, j < i + 1 → bad4 l j = false) := fun j hj => by
          rcases Nat.lt_or_ge j i with h | h
          · exact HBAD.out j h
          · rw [show j = i by omega]; exact hg4
        clear hg4
        generalize w1.alloc (.cells (lnkC (readRd s).seq (readRd s).base a1 (readRd s).K.length c1 a2 (readRd s).C.length c2 a3 (readRd s).E.length c3).toArray 46) = X at *
        have hz2 := HBW2.out.size
        go_wp2_with (at_builtin; refine wpList_pushk (by rfl) _ _ 72 (by rfl) w.heap.size 94 6 96 (.agg #[.int .i64 0, .int .i64 0, .slice none 0 0, .slice none 0 0, .slice none 0 0, .int .i64 0]) Tryz.underlying72 (by kernel_rfl) rfl (by decide) ad i cap _ (by rfl) (HV2.out.keep ((Below.refl _ _).alloc (Nat.le_refl _) _)) _ 1 1 (Sl.cells ⟨s, a1, a2, a3, c1, c2, c3⟩) (by rfl) rfl ?_ ?_ ?_ ?_ ?_ ?_ ?_; (rw [rep_one]; exact new_cells _ _ _); (exact ones6 _); (omega); (omega); (omega); (simp; omega); intro ad' cap' w' hv' hk')
        have hal := (Below.refl X.heap.size X).alloc (Nat.le_refl _) (.cells (Sl.cells ⟨s, a1, a2, a3, c1, c2, c3⟩).toArray 94)
        have hs9 := (HS2.out.keep hal).kp (HV2.out.keep hal) hk'
        have hb9 : Below w.heap.size w w' := hk'.below (HBW2.out.alloc hz2 _) (by simp; omega) (fun q e => by have := (HV2.out.typed q e).1; omega)
        rw [rep_one] at hv'
        go_roundw
        case rel => exact ⟨i + 1, ad', cap', L ++ [⟨s, a1, a2, a3, c1, c2, c3⟩], by omega, by go_num, rfl, by rw [List.length_append, ← HIL.out]; rfl, by rw [List.map_append, HMAP.out, HT.out]; rfl, HBADN.out, by rw [slc_app]; simpa [slc] using hv', hs9, hb9⟩
        case measure => simp [intOf]; omega
      · obtain ⟨e1, e2⟩ := HE.out he
        have E1 : Hid (lkErr l = (readRd s).err) := e1
        have E2 : Hid (lkN l = i) := e2
        have hcb : ((readRd s).err != 0) = true := by simp [he]
        clear he e1 e2 HE
        go_wp2_with fail
        refine bodyPost_ret (v := .tuple #[.slice ad i cap, .int .i64 (readRd s).err]) (by simp [results, Tryz.results39, go_sem]) rfl ⟨ad, cap, i, L, by rw [E1.out], HIL.out, by rw [E2.out]; exact HMAP.out, HV1.out.keep ((Below.refl _ _).alloc (Nat.le_refl _) _), HS1.out.2.keep ((Below.refl _ _).alloc (Nat.le_refl _) _), HBW1.out.alloc HBW1.out.size _⟩
    · obtain rfl : N = i := by omega
      have hno : firstOf (bad4 l) l.length = none := firstOf_none.mpr (fun j hj => HBAD.out j (by rw [HN.out]; exact hj))
      have E1 : Hid (lkErr l = 0) := by show _ = _; unfold lkErr; rw [hno]
      have E2 : Hid (lkN l = N) := by show _ = _; unfold lkN; rw [hno]; exact HN.out.symm
      clear hno
      go_wp2_with fail
      refine bodyPost_ret (v := .tuple #[.slice ad N cap, .int .i64 0]) (by simp [results, Tryz.results39, go_sem]) rfl ?_
      exact ⟨ad, cap, N, L, by rw [E1.out], HIL.out, by rw [E2.out]; exact HMAP.out, hv, hsl, hbw⟩
end Go.Proofs.YtdjpkgaicmklmaaGreat

/- inOrder and firstLoose of the program: walked. -/
namespace Go.Proofs.YtdjpkgaicmklmaaGreat
open Go.RowKit

/-- The links by their Seqs, as far as they are there. -/
def ordTo (L : List Sl) (i : Nat) : List Sl := (List.range i).filterMap fun (n : Nat) => L[slIx L (n : Int)]?
theorem ordTo_hit {L : List Sl} {i : Nat} (h : slIx L (i : Int) < L.length) : ordTo L (i + 1) = ordTo L i ++ [L.getD (slIx L (i : Int)) sl0] := by
  unfold ordTo
  rw [List.range_succ, List.filterMap_append]
  simp [h, List.getD]
theorem ordTo_no {L : List Sl} {i : Nat} (h : ¬ slIx L (i : Int) < L.length) : ordTo L (i + 1) = ordTo L i := by
  unfold ordTo
  rw [List.range_succ, List.filterMap_append]
  simp [h]
theorem ordTo_le (L : List Sl) : ∀ i, (ordTo L i).length ≤ i
  | 0 => by simp [ordTo]
  | i + 1 => by
    have := ordTo_le L i
    by_cases h : slIx L (i : Int) < L.length
    · rw [ordTo_hit h]; simp; omega
    · rw [ordTo_no h]; omega
theorem ordTo_mem {L : List Sl} {i : Nat} {s : Sl} (h : s ∈ ordTo L i) : s ∈ L := by
  unfold ordTo at h
  obtain ⟨n, _, hn⟩ := List.mem_filterMap.1 h
  exact List.mem_of_getElem? hn

set_option maxRecDepth 100000 in
set_option maxHeartbeats 4000000 in
theorem inOrder_any (L : List Sl) (a : Option Addr) (n ca : Nat) (w : World) (hL : Lies w a n 6 (fun i => (L.getD i sl0).cells)) (hn : n = L.length) (hn2 : n ≤ 1048576) :
    Calls Tryz.prog 41 #[.slice a n ca] w fun e w' => ∃ ad cap N, e = .returned (.slice ad N cap) ∧ N = (ordTo L n).length ∧ Vec w' w.heap.size 94 6 ad N cap (slc (ordTo L n)) ∧ Below w.heap.size w w' := by
  have hV0 : Hid (Vec (w.alloc (.cells #[] 94)) w.heap.size 94 6 (some ⟨w.heap.size, 0, none⟩) 0 0 (slc [])) := Vec.lit w w.heap.size 94 6 0 [] (Nat.le_refl _) (by omega) rfl
  have HN : Hid (n = L.length) := hn
  have HL : Hid (Lies w a n 6 (fun i => (L.getD i sl0).cells)) := hL
  clear hn hL
  go_enter Tryz.func41, Tryz.ntmps41
  go_wp2_with fail
  go_loopw [3, 4, 5] (fun v u _ wr => ∃ (i : Nat) (ad : Option Addr) (cap N : Nat), i ≤ n ∧ u = .int .i64 i ∧ v = .slice ad N cap ∧ N = (ordTo L i).length ∧ N ≤ i ∧ Vec wr w.heap.size 94 6 ad N cap (slc (ordTo L i)) ∧ Below w.heap.size w wr) (fun _ u _ _ => n - (intOf u).toNat)
  case atStart => exact ⟨0, _, _, 0, by omega, rfl, rfl, rfl, by omega, hV0.out, (Below.refl _ _).alloc (Nat.le_refl _) _⟩
  case round =>
    clear hV0
    obtain ⟨i, ad, cap, N, hi, rfl, rfl, hN, hNi, hv, hb⟩ := hrel
    have HNN : Hid (N = (ordTo L i).length) := hN
    clear hN
    by_cases hlt : i < n
    · go_wp2_with fail
      refine (placeOf_any L a n ca (i : Int) _ HN.out (by omega) (HL.out.below hb)).mono ?_
      rintro e w1 ⟨rfl, rfl⟩
      have hz := hb.size
      have HBA : Hid (∀ o : Obj, Below w.heap.size w (w1.alloc o)) := fun o => hb.alloc hb.size o
      by_cases hq : slIx L (i : Int) < n
      · have HT : Hid (ordTo L (i + 1) = ordTo L i ++ [L.getD (slIx L (i : Int)) sl0]) := ordTo_hit (by rw [← HN.out]; exact hq)
        obtain ⟨bb, ob, hblb, hixb, e0, e1, e2, e3, e4, e5⟩ := Lies.sl (c := fun i => L.getD i sl0) (HL.out.below hb) ca hq
        generalize slIx L (i : Int) = q at *
        generalize L.getD q sl0 = s at *
        go_wp2_with (at_builtin; refine wpList_push (by rfl) _ _ 72 (by rfl) w.heap.size 94 6 96 (.agg #[.int .i64 0, .int .i64 0, .slice none 0 0, .slice none 0 0, .slice none 0 0, .int .i64 0]) Tryz.underlying72 (by kernel_rfl) rfl (by decide) ad N cap _ (by rfl) (hv.keep ((Below.refl _ _).alloc (Nat.le_refl _) _)) _ _ s.cells (by rfl) rfl ?_ ?_ ?_ ?_ ?_ ?_; exact new_cells _ _ _; exact ones6 _; (omega); (omega); (simp; omega); intro ad' cap' w' hv' hb' hs')
        go_roundw
        case rel => exact ⟨i + 1, ad', cap', N + 1, by omega, by go_num, rfl, by rw [HT.out, List.length_append, ← HNN.out]; rfl, by omega, by rw [HT.out, slc_app]; simpa [slc] using hv', (HBA.out _).trans hb'⟩
        case measure => simp [intOf]; omega
      · have HT : Hid (ordTo L (i + 1) = ordTo L i) := ordTo_no (by rw [← HN.out]; exact hq)
        generalize slIx L (i : Int) = q at *
        go_wp2_with fail
        go_roundw
        case rel => exact ⟨i + 1, ad, cap, N, by omega, by go_num, rfl, by rw [HT.out]; exact HNN.out, by omega, by rw [HT.out]; exact hv, hb⟩
        case measure => simp [intOf]; omega
    · obtain rfl : n = i := by omega
      go_wp2_with fail
      go_ret
      exact ⟨ad, cap, N, rfl, HNN.out, hv, hb⟩

/-- Was it made upon another bundle? -/
def lsB (L O : List Sl) (i : Nat) : Bool := decide (1 ≤ (L.getD i sl0).seq) && (decide ((O.length : Int) < (L.getD i sl0).seq) || (sealR (O.getD ((L.getD i sl0).seq - 1).toNat sl0).b != (L.getD i sl0).base))

set_option maxRecDepth 100000 in
set_option maxHeartbeats 4000000 in
theorem firstLoose_any (L O : List Sl) (a b : Option Addr) (n m ca cb : Nat) (w : World) (hL : Lies w a n 6 (fun i => (L.getD i sl0).cells)) (hO : Lies w b m 6 (fun i => (O.getD i sl0).cells)) (hn : n = L.length) (hm : m = O.length) (hn2 : n ≤ 1048576) (hm2 : m ≤ 1048576) :
    Calls Tryz.prog 42 #[.slice a n ca, .slice b m cb] w fun e w' => e = .returned (.int .i64 (((firstOf (lsB L O) n).getD n : Nat) : Int)) ∧ Below w.heap.size w w' := by
  have HN : Hid (n = L.length) := hn
  have HM : Hid (m = O.length) := hm
  have HL : Hid (Lies w a n 6 (fun i => (L.getD i sl0).cells)) := hL
  have HO : Hid (Lies w b m 6 (fun i => (O.getD i sl0).cells)) := hO
  clear hn hm hL hO
  go_enter Tryz.func42, Tryz.ntmps42
  go_wp2_with fail
  go_loopw [5, 6] (fun u _ wr => ∃ i : Nat, i ≤ n ∧ u = .int .i64 i ∧ (∀ j, j < i → lsB L O j = false) ∧ Below w.heap.size w wr) (fun u _ _ => n - (intOf u).toNat)
  case atStart => exact ⟨0, Nat.zero_le _, rfl, fun j hj => by omega, Below.refl _ _⟩
  case round =>
    obtain ⟨i, hi, rfl, hno, hb⟩ := hrel
    have HNO : Hid (∀ j, j < i → lsB L O j = false) := hno
    clear hno
    by_cases hlt : i < n
    · obtain ⟨bl, ol, hbll, hixl, e0, e1, -⟩ := Lies.sl (c := fun i => L.getD i sl0) (HL.out.below hb) ca hlt
      have HLS : Hid (lsB L O i = (decide (1 ≤ (readRd (L.getD i sl0).b).seq) && (decide ((m : Int) < (readRd (L.getD i sl0).b).seq) || (sealR (O.getD ((readRd (L.getD i sl0).b).seq - 1).toNat sl0).b != (readRd (L.getD i sl0).b).base)))) := by show _ = _; rw [HM.out]; rfl
      have HYES : Hid (lsB L O i = true → (firstOf (lsB L O) n).getD n = i) := fun h => by rw [firstOf_some.mpr ⟨h, hlt, HNO.out⟩]; rfl
      have HGO : Hid (lsB L O i = false → ∀ j, j < i + 1 → lsB L O j = false) := fun h j hj => by
        rcases Nat.lt_or_ge j i with h2 | h2
        · exact HNO.out j h2
        · rw [show j = i by omega]; exact h
      generalize (readRd (L.getD i sl0).b).seq = c at *
      generalize (readRd (L.getD i sl0).b).base = d at *
      clear HNO
      by_cases hc : c < 1
      · have E : Hid (∀ j, j < i + 1 → lsB L O j = false) := HGO.out (by rw [HLS.out, decide_eq_false (by omega)]; rfl)
        clear HLS HYES HGO
        go_wp2_with fail
        go_roundw
        case rel => exact ⟨i + 1, by omega, by go_num, E.out, hb⟩
        case measure => simp [intOf]; omega
      · have HBQ : Hid (∀ q, Below w.heap.size w (wr.drewN q)) := fun q => below_drewN hb q
        by_cases hm3 : (m : Int) < c
        · have hd1 : decide ((m : Int) < c) = true := decide_eq_true hm3
          have E : Hid ((firstOf (lsB L O) n).getD n = i) := HYES.out (by rw [HLS.out, decide_eq_true (show 1 ≤ c by omega), hd1]; rfl)
          clear HLS HYES HGO
          go_wp2_with fail
          go_quiet (fail)
          go_wp2_with fail
          go_ret
          exact ⟨by rw [E.out]; rfl, HBQ.out _⟩
        · have hd1 : decide ((m : Int) < c) = false := decide_eq_false hm3
          obtain ⟨q, rfl⟩ : ∃ q : Nat, c = (q : Int) + 1 := ⟨(c - 1).toNat, by omega⟩
          have hqm : q < m := by omega
          have hsub : (q : Int) + 1 - 1 = (q : Int) := by omega
          obtain ⟨bo, oo, hblo, hixo, -, -, -, -, -, f5⟩ := Lies.sl (c := fun i => O.getD i sl0) (HO.out.below hb) cb hqm
          have hqt : ((q : Int) + 1 - 1).toNat = q := by omega
          rw [hqt, decide_eq_true (show 1 ≤ (q : Int) + 1 by omega), hd1, Bool.true_and, Bool.false_or] at HLS
          generalize sealR (O.getD q sl0).b = sv at *
          clear hqt
          cases hne : (sv != d) with
          | true =>
            have E : Hid ((firstOf (lsB L O) n).getD n = i) := HYES.out (by rw [HLS.out, hne])
            clear HLS HYES HGO
            go_wp2_with fail
            go_quiet (fail)
            go_wp2_with fail
            go_ret
            exact ⟨by rw [E.out]; rfl, HBQ.out _⟩
          | false =>
            have E : Hid (∀ j, j < i + 1 → lsB L O j = false) := HGO.out (by rw [HLS.out, hne])
            clear HLS HYES HGO
            go_wp2_with fail
            go_quiet (fail)
            go_wp2_with fail
            go_roundw
            case rel => exact ⟨i + 1, by omega, by go_num, E.out, HBQ.out _⟩
            case measure => simp [intOf]; omega
    · obtain rfl : n = i := by omega
      have E : Hid ((firstOf (lsB L O) n).getD n = n) := by
        show _ = _
        rw [firstOf_none.mpr (fun j hj => HNO.out j hj)]; rfl
      go_wp2_with fail
      go_ret
      exact ⟨by rw [E.out]; rfl, hb⟩
end Go.Proofs.YtdjpkgaicmklmaaGreat

/- laid of the program: walked. -/
namespace Go.Proofs.YtdjpkgaicmklmaaGreat
open Go.RowKit

/-- States laid one over the other. -/
def foldT (O : List Sl) : Nat → Tri
  | 0 => ⟨[], [], []⟩
  | i + 1 => layS (foldT O i) (readRd (O.getD i sl0).b).st
def sealAt (O : List Sl) : Nat → Int
  | 0 => 0
  | i + 1 => sealR (O.getD i sl0).b
theorem foldT_few (O : List Sl) (h : ∀ s ∈ O, s.b.length ≤ 1048576) : ∀ i, i ≤ O.length → (foldT O i).K.length ≤ i * 1048576 ∧ (foldT O i).C.length ≤ i * 1048576 ∧ (foldT O i).E.length ≤ 1048576
  | 0, _ => by simp [foldT]
  | i + 1, hi => by
    obtain ⟨h1, h2, h3⟩ := foldT_few O h i (by omega)
    have hm : (O.getD i sl0) ∈ O := getD_mem (by omega)
    have hb := h _ hm
    obtain ⟨f1, f2, f3⟩ := readRd_few (O.getD i sl0).b
    have l1 := layK_len Ck.site (fun _ c => c) (readRd (O.getD i sl0).b).K (foldT O i).K
    have l2 := layK_len Cd.id (fun _ c => c) (readRd (O.getD i sl0).b).C (foldT O i).C
    have e : (i + 1) * 1048576 = i * 1048576 + 1048576 := by omega
    refine ⟨?_, ?_, ?_⟩
    · show (layK Ck.site (fun _ c => c) (foldT O i).K (readRd (O.getD i sl0).b).K).length ≤ _; omega
    · show (layK Cd.id (fun _ c => c) (foldT O i).C (readRd (O.getD i sl0).b).C).length ≤ _; omega
    · show (readRd (O.getD i sl0).b).E.length ≤ _; omega
abbrev chC (c1 : Option Addr) (n1 d1 : Nat) (c2 : Option Addr) (n2 d2 : Nat) (c3 : Option Addr) (n3 d3 : Nat) (q : Int) : List Value := [.slice c1 n1 d1, .slice c2 n2 d2, .slice c3 n3 d3, .int .i64 q]
structure LaidI (w : World) (T : Tri) (q : Int) (c1 c2 c3 : Option Addr) (d1 d2 d3 : Nat) (wr : World) : Prop where
  r : Bx wr w.heap.size 53 (chC none 0 0 none 0 0 none 0 0 0)
  c : Bx wr (w.heap.size + 1) 53 (chC c1 T.K.length d1 c2 T.C.length d2 c3 T.E.length d3 q)
  l : Lists wr (w.heap.size + 2) T.K T.C T.E c1 T.K.length d1 c2 T.C.length d2 c3 T.E.length d3
  old : Below w.heap.size w wr
  sz : w.heap.size + 2 ≤ wr.heap.size
theorem LaidI.step {w : World} {T : Tri} {q : Int} {c1 c2 c3 : Option Addr} {d1 d2 d3 : Nat} {wr w' : World} (h : LaidI w T q c1 c2 c3 d1 d2 d3 wr) (hb : Below wr.heap.size wr w') : LaidI w T q c1 c2 c3 d1 d2 d3 w' :=
  ⟨h.r.below hb h.r.lt, h.c.below hb h.c.lt, h.l.keep hb, h.old.trans (hb.mono h.old.size), Nat.le_trans h.sz hb.size⟩

theorem LaidI.set {w : World} {T Tn : Tri} {q : Int} {c1 c2 c3 f1 f2 f3 : Option Addr} {d1 d2 d3 g1 g2 g3 : Nat} {w1 : World} (h : LaidI w T q c1 c2 c3 d1 d2 d3 w1) (hL : Lists w1 (w.heap.size + 2) Tn.K Tn.C Tn.E f1 Tn.K.length g1 f2 Tn.C.length g2 f3 Tn.E.length g3) :
    LaidI w Tn q f1 f2 f3 g1 g2 g3 (((w1.setCell ⟨w.heap.size + 1, 0, none⟩ (.slice f1 Tn.K.length g1)).setCell ⟨w.heap.size + 1, 1, none⟩ (.slice f2 Tn.C.length g2)).setCell ⟨w.heap.size + 1, 2, none⟩ (.slice f3 Tn.E.length g3)) := by
  have hu : Upd (w.heap.size + 1) w1 (((w1.setCell ⟨w.heap.size + 1, 0, none⟩ (.slice f1 Tn.K.length g1)).setCell ⟨w.heap.size + 1, 1, none⟩ (.slice f2 Tn.C.length g2)).setCell ⟨w.heap.size + 1, 2, none⟩ (.slice f3 Tn.E.length g3)) := (((Upd.refl (w.heap.size + 1) w1).setCell _ rfl _).setCell _ rfl _).setCell _ rfl _
  exact ⟨h.r.upd hu (by omega), ((h.c.setCell 0 _).setCell 1 _).setCell 2 _, hL.upd hu (by omega), hu.below h.old (by omega), by rw [hu.size]; exact h.sz⟩

set_option maxRecDepth 100000 in
set_option maxHeartbeats 8000000 in
theorem plaid_any (O : List Sl) (a : Option Addr) (n ca : Nat) (w : World) (hL : Lies w a n 6 (fun i => (O.getD i sl0).cells)) (hn : n = O.length) (hn2 : n ≤ 1048576) (hS : Sls w 0 O) (hl : ∀ s ∈ O, s.b.length ≤ 1048576) :
    Calls Tryz.prog 43 #[.slice a n ca] w fun e w' => ∃ c1 d1 c2 d2 c3 d3, e = .returned (.agg (chC c1 (foldT O n).K.length d1 c2 (foldT O n).C.length d2 c3 (foldT O n).E.length d3 (sealAt O n)).toArray) ∧ Lists w' w.heap.size (foldT O n).K (foldT O n).C (foldT O n).E c1 (foldT O n).K.length d1 c2 (foldT O n).C.length d2 c3 (foldT O n).E.length d3 ∧ Below w.heap.size w w' := by
  obtain ⟨q1, q2, qs, qb⟩ := two_boxes w 53 53 (chC none 0 0 none 0 0 none 0 0 0).toArray (chC none 0 0 none 0 0 none 0 0 0).toArray
  have H0 : Hid (LaidI w (foldT O 0) (sealAt O 0) none none none 0 0 0 ((w.alloc (.cells (chC none 0 0 none 0 0 none 0 0 0).toArray 53)).alloc (.cells (chC none 0 0 none 0 0 none 0 0 0).toArray 53))) := ⟨q1, q2, Lists.nil _ _, qb, by rw [qs]; exact Nat.le_refl _⟩
  clear q1 q2 qs qb
  have HN : Hid (n = O.length) := hn
  have HL : Hid (Lies w a n 6 (fun i => (O.getD i sl0).cells)) := hL
  have HSL : Hid (Sls w 0 O) := hS
  have HF : Hid (∀ i, i ≤ n → (foldT O i).K.length ≤ i * 1048576 ∧ (foldT O i).C.length ≤ i * 1048576 ∧ (foldT O i).E.length ≤ 1048576) := fun i hi => foldT_few O hl i (by rw [← hn]; exact hi)
  have HLB : Hid (∀ i, i < n → (O.getD i sl0).b.length ≤ 1048576) := fun i hi => hl _ (getD_mem (by rw [← hn]; exact hi))
  clear hn hL hS hl
  go_enter Tryz.func43, Tryz.ntmps43
  go_wp2_with fail
  go_loopw [4] (fun u wr => ∃ (i : Nat) (c1 c2 c3 : Option Addr) (d1 d2 d3 : Nat), i ≤ n ∧ u = .int .i64 i ∧ LaidI w (foldT O i) (sealAt O i) c1 c2 c3 d1 d2 d3 wr) (fun u _ => n - (intOf u).toNat)
  case atStart => exact ⟨0, none, none, none, 0, 0, 0, by omega, rfl, H0.out⟩
  case round =>
    clear H0
    obtain ⟨i, c1, c2, c3, d1, d2, d3, hi, rfl, hI⟩ := hrel
    have HI : Hid (LaidI w (foldT O i) (sealAt O i) c1 c2 c3 d1 d2 d3 wr) := hI
    by_cases hlt : i < n
    · have hil : i < O.length := by rw [← HN.out]; exact hlt
      obtain ⟨b, o, hbl, hix, e0, e1, e2, e3, e4, e5⟩ := Lies.sl (c := fun i => O.getD i sl0) HL.out ca hlt
      replace e2 := (hI.old.cell (p := ⟨b, o + 2, none⟩) hbl).trans e2
      replace e3 := (hI.old.cell (p := ⟨b, o + 3, none⟩) hbl).trans e3
      replace e4 := (hI.old.cell (p := ⟨b, o + 4, none⟩) hbl).trans e4
      have hm : (O.getD i sl0) ∈ O := getD_mem hil
      have hin : (O.getD i sl0).In wr 0 := (HSL.out _ hm).keep hI.old
      have hF := HF.out i hi
      have hlb := HLB.out i hlt
      have hfr := readRd_few (O.getD i sl0).b
      have hasc := read_asc (O.getD i sl0).b
      have HT : Hid (foldT O (i + 1) = layS (foldT O i) (readRd (O.getD i sl0).b).st) := rfl
      have HQ : Hid (sealAt O (i + 1) = sealR (O.getD i sl0).b) := rfl
      have hmul : i * 1048576 ≤ 1099511627776 := by have : i * 1048576 ≤ 1048576 * 1048576 := Nat.mul_le_mul_right _ (by omega); omega
      have KO : Hid (∀ X, Below wr.heap.size wr X → Calls Tryz.prog 69 #[.agg #[.slice c1 (foldT O i).K.length d1, .slice c2 (foldT O i).C.length d2, .slice c3 (foldT O i).E.length d3], .agg #[.slice (O.getD i sl0).a1 (readRd (O.getD i sl0).b).K.length (O.getD i sl0).k1, .slice (O.getD i sl0).a2 (readRd (O.getD i sl0).b).C.length (O.getD i sl0).k2, .slice (O.getD i sl0).a3 (readRd (O.getD i sl0).b).E.length (O.getD i sl0).k3]] X fun e w' =>
          ∃ f1 g1 f2 g2 f3 g3, e = .returned (.agg #[.slice f1 (foldT O (i + 1)).K.length g1, .slice f2 (foldT O (i + 1)).C.length g2, .slice f3 (foldT O (i + 1)).E.length g3]) ∧ Lists w' (w.heap.size + 2) (foldT O (i + 1)).K (foldT O (i + 1)).C (foldT O (i + 1)).E f1 (foldT O (i + 1)).K.length g1 f2 (foldT O (i + 1)).C.length g2 f3 (foldT O (i + 1)).E.length g3 ∧ Below wr.heap.size wr w') := fun X hX => by
        have hA := ((HI.out.step hX).l.has (by omega) (by omega) (by omega)).1
        have hD := ((hin.keep hX).has (by omega) (by omega) (by omega)).1
        refine (over_any (foldT O i) (readRd (O.getD i sl0).b).st c1 c2 c3 (O.getD i sl0).a1 (O.getD i sl0).a2 (O.getD i sl0).a3 d1 d2 d3 (O.getD i sl0).k1 (O.getD i sl0).k2 (O.getD i sl0).k3 X hA hD HI.out.l.v1.cap_le HI.out.l.v2.cap_le ⟨by omega, by omega, by show (readRd (O.getD i sl0).b).K.length ≤ _; omega, by show (readRd (O.getD i sl0).b).C.length ≤ _; omega, by show (readRd (O.getD i sl0).b).E.length ≤ _; omega⟩ hasc).mono ?_
        rintro e w' ⟨f1, n1, g1, f2, n2, g2, f3, n3, g3, rfl, hLL, hbb⟩
        obtain ⟨v1, v2, v3, rfl, rfl, rfl⟩ := hLL
        have hzz := (HI.out.step hX).sz
        exact ⟨f1, g1, f2, g2, f3, g3, rfl, ⟨v1.mono hzz, v2.mono hzz, v3.mono hzz, rfl, rfl, rfl⟩, hX.trans (hbb.mono hX.size)⟩
      have e5' : ∀ X, Below w.heap.size w X → X.cell? ⟨b, o + 5, none⟩ = some (.int .i64 (sealR (O.getD i sl0).b)) := fun X hX => (hX.cell (p := ⟨b, o + 5, none⟩) hbl).trans e5
      have HE5 : Hid (∀ X, Below w.heap.size w X → X.cell? ⟨b, o + 5, none⟩ = some (.int .i64 (sealR (O.getD i sl0).b))) := e5'
      clear e5 e5' hF hlb hfr hasc hin hm hil hI hmul e0 e1
      have x0 := HI.out.c.cell 0; have x1 := HI.out.c.cell 1; have x2 := HI.out.c.cell 2
      dsimp only [List.getElem?_cons_zero, List.getElem?_cons_succ] at x0 x1 x2
      obtain ⟨Tn, hTn⟩ : ∃ T, foldT O (i + 1) = T := ⟨_, rfl⟩
      rw [hTn] at KO
      have HTN : Hid (foldT O (i + 1) = Tn) := hTn
      clear hTn HT
      generalize O.getD i sl0 = s at *
      generalize foldT O i = Ti at *
      generalize sealAt O i = qi at *
      go_wp2_with fail
      apply merge
      · intro KEY
        go_region_law (go_simp; go_at_call 69; refine (KO.out _ (by (repeat (first | exact Below.refl _ _ | refine Below.drew ?_)))).mono ?_; rintro e w1 ⟨f1, g1, f2, g2, f3, g3, rfl, hL1, hb1⟩; have ob := HI.out.c.below hb1 HI.out.c.lt; have ob0 := ob.cell 0; have ob1 := ob.cell 1; have ob2 := ob.cell 2; dsimp only [List.getElem?_cons_zero, List.getElem?_cons_succ] at ob0 ob1 ob2; have of0 := ob.frozen 0; have of1 := ob.frozen 1; have of2 := ob.frozen 2; dsimp only)
        all_goals
          have hN := (HI.out.step hb1).set hL1
          generalize (((w1.setCell ⟨w.heap.size + 1, 0, none⟩ (.slice f1 Tn.K.length g1)).setCell ⟨w.heap.size + 1, 1, none⟩ (.slice f2 Tn.C.length g2)).setCell ⟨w.heap.size + 1, 2, none⟩ (.slice f3 Tn.E.length g3)) = W1 at hN ⊢
          clear hL1 hb1 ob ob0 ob1 ob2 of0 of1 of2
          clear w1
          revert f1 g1 f2 g2 f3 g3 W1
          exact KEY.out
      intro f1 g1 f2 g2 f3 g3 W1 hN
      have e6 := HE5.out _ hN.old
      have hC := hN.c
      clear e2 e3 e4 x0 x1 x2 KO
      go_wp2_with (refine wpList_bput (by rfl) _ _ 3 (by rfl) (w.heap.size + 1) 53 3 (by rfl) _ (.int .i64 _) (by rfl) hC (by kernel_rfl) (by simp) (by rfl) (by rfl) ?_; intro w9 hC9 hU9)
      dsimp only [List.set] at hC9
      go_roundw
      case rel => exact ⟨i + 1, f1, f2, f3, g1, g2, g3, by omega, by go_num, by rw [HTN.out, HQ.out]; exact ⟨hN.r.upd hU9 (by omega), hC9, hN.l.upd hU9 (by omega), hU9.below hN.old (by omega), by rw [hU9.size]; exact hN.sz⟩⟩
      case measure => simp [intOf]; omega
    · obtain rfl : n = i := by omega
      have hC := hI.c
      have hr := hI.r
      have hz := hI.sz
      go_wp2_with (first
        | (refine wpList_bload (by rfl) _ _ (by rfl) (w.heap.size + 1) 53 (by rfl) _ hC _ Tryz.underlying53 (by rfl) 4 (by rfl) (by kernel_rfl) ?_)
        | (refine wpList_bstore (by rfl) _ _ _ (by rfl) w.heap.size 53 (by rfl) _ _ (by rfl) hr 4 (by rfl) (by kernel_rfl) (by rfl) (by intro x hx; simp at hx; rcases hx with rfl | rfl | rfl | rfl <;> rfl) ?_; intro w9 hr9 hU9))
      exact bodyPost_ret (v := .agg (chC c1 (foldT O n).K.length d1 c2 (foldT O n).C.length d2 c3 (foldT O n).E.length d3 (sealAt O n)).toArray) (results_box1 (by rfl) _ _ w.heap.size 53 _ _ (by rfl) hr9 Tryz.underlying53 (by rfl) 4 (by rfl) (by kernel_rfl)) rfl ⟨c1, d1, c2, d2, c3, d3, rfl, (hI.l.upd hU9 (by omega)).mono (by omega), hU9.below hI.old (by omega)⟩
end Go.Proofs.YtdjpkgaicmklmaaGreat

/- parcelref.laid: walked. -/
namespace Go.Proofs.YtdjpkgaicmklmaaGreat
open Go.RowKit

theorem Vec.oth {w w' : World} {B e e' m g : Nat} {ad : Option Addr} {n cap : Nat} {xs cs : List Value} (h : Vec w B e m ad n cap xs) (b : Bx w g e' cs) (hu : Upd g w w') (he : e ≠ e') : Vec w' B e m ad n cap xs :=
  h.updo hu (fun x hx e1 => b.apart h he (by rw [hx]; simp [e1]))
abbrev LT (w : World) (B : Nat) (T : Tri) (a1 a2 a3 : Option Addr) (k1 k2 k3 : Nat) : Prop := Lists w B T.K T.C T.E a1 T.K.length k1 a2 T.C.length k2 a3 T.E.length k3
abbrev rpC (a1 : Option Addr) (n1 k1 : Nat) (a2 : Option Addr) (n2 k2 : Nat) (a3 : Option Addr) (n3 k3 : Nat) : List Value := [.slice a1 n1 k1, .slice a2 n2 k2, .slice a3 n3 k3]
/-- What laid's loops keep. -/
structure Ld (w : World) (B : Nat) (D : Tri) (d1 d2 d3 : Option Addr) (l1 l2 l3 : Nat) (K : List Ck) (C : List Cd) (x1 : Option Addr) (c1 : Nat) (x2 : Option Addr) (c2 : Nat) (wr : World) : Prop where
  d : Bx wr (w.heap.size + 1) 27 (rpC d1 D.K.length l1 d2 D.C.length l2 d3 D.E.length l3)
  r : Bx wr (w.heap.size + 2) 27 (rpC none 0 0 none 0 0 none 0 0)
  o : Bx wr (w.heap.size + 3) 27 (rpC x1 K.length c1 x2 C.length c2 d3 D.E.length l3)
  v1 : Vec wr B 37 2 x1 K.length c1 (kcells K)
  v2 : Vec wr B 39 5 x2 C.length c2 (ccells C)
  v3 : Vec wr B 41 2 d3 D.E.length l3 (ecells D.E)
  old : Below w.heap.size w wr
  sz : w.heap.size + 4 ≤ wr.heap.size
theorem Ld.step {w : World} {B : Nat} {D : Tri} {d1 d2 d3 : Option Addr} {l1 l2 l3 : Nat} {K : List Ck} {C : List Cd} {x1 : Option Addr} {c1 : Nat} {x2 : Option Addr} {c2 : Nat} {wr X : World} (h : Ld w B D d1 d2 d3 l1 l2 l3 K C x1 c1 x2 c2 wr) (hb : Below wr.heap.size wr X) : Ld w B D d1 d2 d3 l1 l2 l3 K C x1 c1 x2 c2 X :=
  ⟨h.d.below hb h.d.lt, h.r.below hb h.r.lt, h.o.below hb h.o.lt, h.v1.keep hb, h.v2.keep hb, h.v3.keep hb, h.old.trans (hb.mono h.old.size), Nat.le_trans h.sz hb.size⟩
theorem Ld.set1 {w : World} {B : Nat} {D : Tri} {d1 d2 d3 : Option Addr} {l1 l2 l3 : Nat} {K K' : List Ck} {C : List Cd} {x1 x1' : Option Addr} {c1 c1' : Nat} {x2 : Option Addr} {c2 : Nat} {wr : World} (h : Ld w B D d1 d2 d3 l1 l2 l3 K C x1 c1 x2 c2 wr) (hv : Vec wr B 37 2 x1' K'.length c1' (kcells K')) :
    Ld w B D d1 d2 d3 l1 l2 l3 K' C x1' c1' x2 c2 (wr.setCell ⟨w.heap.size + 3, 0, none⟩ (.slice x1' K'.length c1')) := by
  have hu : Upd (w.heap.size + 3) wr (wr.setCell ⟨w.heap.size + 3, 0, none⟩ (.slice x1' K'.length c1')) := (Upd.refl (w.heap.size + 3) wr).setCell _ rfl _
  exact ⟨h.d.upd hu (by omega), h.r.upd hu (by omega), h.o.setCell 0 _, hv.oth h.o hu (by decide), h.v2.oth h.o hu (by decide), h.v3.oth h.o hu (by decide), hu.below h.old (by omega), by rw [hu.size]; exact h.sz⟩
theorem Ld.set2 {w : World} {B : Nat} {D : Tri} {d1 d2 d3 : Option Addr} {l1 l2 l3 : Nat} {K : List Ck} {C C' : List Cd} {x1 : Option Addr} {c1 : Nat} {x2 x2' : Option Addr} {c2 c2' : Nat} {wr : World} (h : Ld w B D d1 d2 d3 l1 l2 l3 K C x1 c1 x2 c2 wr) (hv : Vec wr B 39 5 x2' C'.length c2' (ccells C')) :
    Ld w B D d1 d2 d3 l1 l2 l3 K C' x1 c1 x2' c2' (wr.setCell ⟨w.heap.size + 3, 1, none⟩ (.slice x2' C'.length c2')) := by
  have hu : Upd (w.heap.size + 3) wr (wr.setCell ⟨w.heap.size + 3, 1, none⟩ (.slice x2' C'.length c2')) := (Upd.refl (w.heap.size + 3) wr).setCell _ rfl _
  exact ⟨h.d.upd hu (by omega), h.r.upd hu (by omega), h.o.setCell 1 _, h.v1.oth h.o hu (by decide), hv.oth h.o hu (by decide), h.v3.oth h.o hu (by decide), hu.below h.old (by omega), by rw [hu.size]; exact h.sz⟩
theorem four_boxes (w : World) (e : Nat) (a b c d : Array Value) : Bx ((((w.alloc (.cells a e)).alloc (.cells b e)).alloc (.cells c e)).alloc (.cells d e)) (w.heap.size + 1) e b.toList ∧ Bx ((((w.alloc (.cells a e)).alloc (.cells b e)).alloc (.cells c e)).alloc (.cells d e)) (w.heap.size + 2) e c.toList ∧ Bx ((((w.alloc (.cells a e)).alloc (.cells b e)).alloc (.cells c e)).alloc (.cells d e)) (w.heap.size + 3) e d.toList ∧
    ((((w.alloc (.cells a e)).alloc (.cells b e)).alloc (.cells c e)).alloc (.cells d e)).heap.size = w.heap.size + 4 ∧ Below w.heap.size w ((((w.alloc (.cells a e)).alloc (.cells b e)).alloc (.cells c e)).alloc (.cells d e)) := by
  have h1 := Bx.new (w.alloc (.cells a e)) e b
  have h2 := Bx.new ((w.alloc (.cells a e)).alloc (.cells b e)) e c
  have h3 := Bx.new (((w.alloc (.cells a e)).alloc (.cells b e)).alloc (.cells c e)) e d
  simp only [World.size_alloc] at h1 h2 h3
  refine ⟨(h1.alloc _).alloc _, h2.alloc _, h3, by simp, ((((Below.refl _ _).alloc (Nat.le_refl _) _).alloc (by simp) _).alloc (by simp; omega) _).alloc (by simp; omega) _⟩

set_option maxRecDepth 100000 in
set_option maxHeartbeats 8000000 in
theorem rlaid_any (O D : Tri) (B : Nat) (a1 a2 a3 d1 d2 d3 : Option Addr) (k1 k2 k3 l1 l2 l3 : Nat) (w : World) (hO : LT w B O a1 a2 a3 k1 k2 k3) (hD : LT w B D d1 d2 d3 l1 l2 l3) (hB : B ≤ w.heap.size) (hasc : Asc Ck.site O.K ∧ Asc Cd.id O.C) (hfew : O.K.length + D.K.length ≤ 1099511627776 ∧ O.C.length + D.C.length ≤ 1099511627776) :
    Calls Tryz.prog 27 #[.agg #[.slice a1 O.K.length k1, .slice a2 O.C.length k2, .slice a3 O.E.length k3], .agg #[.slice d1 D.K.length l1, .slice d2 D.C.length l2, .slice d3 D.E.length l3]] w fun e w' => ∃ f1 g1 f2 g2 f3 g3, e = .returned (.agg #[.slice f1 (layS O D).K.length g1, .slice f2 (layS O D).C.length g2, .slice f3 (layS O D).E.length g3]) ∧ LT w' B (layS O D) f1 f2 f3 g1 g2 g3 ∧ Below w.heap.size w w' := by
  obtain ⟨q1, q2, q3, qs, qb⟩ := four_boxes w 27 (rpC a1 O.K.length k1 a2 O.C.length k2 a3 O.E.length k3).toArray (rpC d1 D.K.length l1 d2 D.C.length l2 d3 D.E.length l3).toArray (rpC none 0 0 none 0 0 none 0 0).toArray (rpC a1 O.K.length k1 a2 O.C.length k2 d3 D.E.length l3).toArray
  have H0 : Hid (Ld w B D d1 d2 d3 l1 l2 l3 (layK Ck.site (fun _ c => c) O.K (D.K.take 0)) O.C a1 k1 a2 k2 ((((w.alloc (.cells (rpC a1 O.K.length k1 a2 O.C.length k2 a3 O.E.length k3).toArray 27)).alloc (.cells (rpC d1 D.K.length l1 d2 D.C.length l2 d3 D.E.length l3).toArray 27)).alloc (.cells (rpC none 0 0 none 0 0 none 0 0).toArray 27)).alloc (.cells (rpC a1 O.K.length k1 a2 O.C.length k2 d3 D.E.length l3).toArray 27))) := by
    rw [List.take_zero]
    exact ⟨q1, q2, q3, hO.v1.keep qb, hO.v2.keep qb, hD.v3.keep qb, qb, by rw [qs]; exact Nat.le_refl _⟩
  have HB : Hid (B ≤ w.heap.size) := hB
  have HL1 : Hid (Lies w d1 D.K.length 2 (fun i => (D.K.getD i ck0).cells)) := kvec_lies hD.v1 rfl
  have HL2 : Hid (Lies w d2 D.C.length 5 (fun i => (D.C.getD i cd0).cells)) := cvec_lies hD.v2 rfl
  have HA1 : Hid (∀ i, Asc Ck.site (layK Ck.site (fun _ c => c) O.K (D.K.take i))) := fun i => layK_asc Ck.site (fun _ _ _ => rfl) hasc.1
  have HA2 : Hid (∀ i, Asc Cd.id (layK Cd.id (fun _ c => c) O.C (D.C.take i))) := fun i => layK_asc Cd.id (fun _ _ _ => rfl) hasc.2
  have HF1 : Hid (∀ i, (layK Ck.site (fun _ c => c) O.K (D.K.take i)).length ≤ 1099511627776) := fun i => by have := layK_len Ck.site (fun _ c => c) (D.K.take i) O.K; have h2 : (D.K.take i).length ≤ D.K.length := by { rw [List.length_take]; omega }; omega
  have HF2 : Hid (∀ i, (layK Cd.id (fun _ c => c) O.C (D.C.take i)).length ≤ 1099511627776) := fun i => by have := layK_len Cd.id (fun _ c => c) (D.C.take i) O.C; have h2 : (D.C.take i).length ≤ D.C.length := by { rw [List.length_take]; omega }; omega
  have hw1 : D.K.length ≤ 1099511627776 := by omega
  have hw2 : D.C.length ≤ 1099511627776 := by omega
  clear q1 q2 q3 qs qb hO hD hB hasc hfew
  go_enter Tryz.func27, Tryz.ntmps27
  go_wp2_with fail
  go_loopw [6] (fun u wr => ∃ (i : Nat) (x1 : Option Addr) (c1 : Nat), i ≤ D.K.length ∧ u = .int .i64 i ∧ Ld w B D d1 d2 d3 l1 l2 l3 (layK Ck.site (fun _ c => c) O.K (D.K.take i)) O.C x1 c1 a2 k2 wr) (fun u _ => D.K.length - (intOf u).toNat)
  case atStart => exact ⟨0, a1, k1, by omega, rfl, H0.out⟩
  case round =>
    clear H0
    obtain ⟨i, x1, c1, hi, rfl, hI⟩ := hrel
    have HI : Hid (Ld w B D d1 d2 d3 l1 l2 l3 (layK Ck.site (fun _ c => c) O.K (D.K.take i)) O.C x1 c1 a2 k2 wr) := hI
    by_cases hlt : i < D.K.length
    · obtain ⟨b, o, hbl, hix, e0, e1⟩ := Lies.clock (c := fun i => D.K.getD i ck0) HL1.out l1 hlt
      replace e0 := (hI.old.cell (p := ⟨b, o, none⟩) hbl).trans e0
      replace e1 := (hI.old.cell (p := ⟨b, o + 1, none⟩) hbl).trans e1
      have HT : Hid (layK Ck.site (fun _ c => c) O.K (D.K.take (i + 1)) = putK Ck.site (fun _ c => c) (layK Ck.site (fun _ c => c) O.K (D.K.take i)) (D.K.getD i ck0)) := by
        show _ = _; rw [take_clock D.K i hlt, lay_snoc]
      have hA := HA1.out i
      have hF := HF1.out i
      generalize D.K.getD i ck0 = c at *
      generalize layK Ck.site (fun _ c => c) O.K (D.K.take i) = L at *
      have KO : Hid (∀ X, Below wr.heap.size wr X → Calls Tryz.prog 59 #[.slice x1 L.length c1, .agg #[.int .i64 c.site, .int .i64 c.count]] X fun e w' => ∃ ad cap N, e = .returned (.slice ad N cap) ∧ N = (putK Ck.site (fun _ c => c) L c).length ∧ Vec w' B 37 2 ad N cap (kcells (putK Ck.site (fun _ c => c) L c)) ∧ Below wr.heap.size wr w') := fun X hX =>
        (rclocked_any L c x1 L.length c1 X (kvec_lies (HI.out.step hX).v1 rfl) rfl hF hA).mono fun e w' ⟨ad, cap, N, h1, h2, h3, h4⟩ => ⟨ad, cap, N, h1, h2, h3.mono (Nat.le_trans HB.out (HI.out.step hX).old.size), hX.trans (h4.mono hX.size)⟩
      clear hA hF
      generalize putK Ck.site (fun _ c => c) L c = M at *
      have x0 := HI.out.o.cell 0
      have y0 := HI.out.d.cell 0
      dsimp only [List.getElem?_cons_zero] at x0 y0
      clear hI
      go_wp2_with fail
      apply merge
      · intro KEY
        go_region_law (go_simp; go_at_call 59; refine (KO.out _ (by (repeat (first | exact Below.refl _ _ | refine Below.drew ?_)))).mono ?_; rintro e w1 ⟨ad', cap', N', rfl, hN', hv', hb'⟩; have ob := HI.out.o.below hb' HI.out.o.lt; have ob0 := ob.cell 0; dsimp only [List.getElem?_cons_zero] at ob0; have of0 := ob.frozen 0; dsimp only)
        all_goals
          subst hN'
          have hN := (HI.out.step hb').set1 hv'
          generalize w1.setCell ⟨w.heap.size + 3, 0, none⟩ (.slice ad' M.length cap') = W1 at hN ⊢
          clear hv' hb' ob ob0 of0
          clear w1
          revert ad' cap' W1
          exact KEY.out
      intro ad' cap' W1 hN
      clear x0 y0 KO HI e0 e1
      go_wp2_with fail
      go_roundw
      case rel => exact ⟨i + 1, ad', cap', by omega, by go_num, by rw [HT.out]; exact hN⟩
      case measure => simp [intOf]; omega
    · obtain rfl : D.K.length = i := by omega
      rw [List.take_length] at HI
      clear hI
      have HK : Hid (layK Ck.site (fun _ c => c) O.K D.K = (layS O D).K) := rfl
      rw [HK.out] at HI
      have H0 : Hid (Ld w B D d1 d2 d3 l1 l2 l3 (layS O D).K (layK Cd.id (fun _ c => c) O.C (D.C.take 0)) x1 c1 a2 k2 wr) := by rw [List.take_zero]; exact HI
      have y0 := HI.out.d.cell 0
      dsimp only [List.getElem?_cons_zero] at y0
      clear HI HK
      go_wp2_with fail
      clear y0
      go_loopw [7] (fun u wr => ∃ (i : Nat) (x2 : Option Addr) (c2 : Nat), i ≤ D.C.length ∧ u = .int .i64 i ∧ Ld w B D d1 d2 d3 l1 l2 l3 (layS O D).K (layK Cd.id (fun _ c => c) O.C (D.C.take i)) x1 c1 x2 c2 wr) (fun u _ => D.C.length - (intOf u).toNat)
      case atStart => exact ⟨0, a2, k2, by omega, rfl, H0.out⟩
      case round =>
        clear H0
        obtain ⟨i, x2, c2, hi, rfl, hI⟩ := hrel
        have HI : Hid (Ld w B D d1 d2 d3 l1 l2 l3 (layS O D).K (layK Cd.id (fun _ c => c) O.C (D.C.take i)) x1 c1 x2 c2 wr) := hI
        by_cases hlt : i < D.C.length
        · obtain ⟨b, o, hbl, hix, e0, e1, e2, e3, e4⟩ := Lies.card (c := fun i => D.C.getD i cd0) HL2.out l2 hlt
          replace e0 := (hI.old.cell (p := ⟨b, o, none⟩) hbl).trans e0
          replace e1 := (hI.old.cell (p := ⟨b, o + 1, none⟩) hbl).trans e1
          replace e2 := (hI.old.cell (p := ⟨b, o + 2, none⟩) hbl).trans e2
          replace e3 := (hI.old.cell (p := ⟨b, o + 3, none⟩) hbl).trans e3
          replace e4 := (hI.old.cell (p := ⟨b, o + 4, none⟩) hbl).trans e4
          have HT : Hid (layK Cd.id (fun _ c => c) O.C (D.C.take (i + 1)) = putK Cd.id (fun _ c => c) (layK Cd.id (fun _ c => c) O.C (D.C.take i)) (D.C.getD i cd0)) := by
            show _ = _; rw [take_card D.C i hlt, lay_snoc]
          have hA := HA2.out i
          have hF := HF2.out i
          generalize D.C.getD i cd0 = c at *
          generalize layK Cd.id (fun _ c => c) O.C (D.C.take i) = L at *
          have KO : Hid (∀ X, Below wr.heap.size wr X → Calls Tryz.prog 60 #[.slice x2 L.length c2, .agg #[.int .i64 c.id, .int .i64 c.site, .int .i64 c.count, .bool c.gone, .string c.text]] X fun e w' => ∃ ad cap N, e = .returned (.slice ad N cap) ∧ N = (putK Cd.id (fun _ c => c) L c).length ∧ Vec w' B 39 5 ad N cap (ccells (putK Cd.id (fun _ c => c) L c)) ∧ Below wr.heap.size wr w') := fun X hX =>
            (rcarded_any L c x2 L.length c2 X (cvec_lies (HI.out.step hX).v2 rfl) rfl hF hA).mono fun e w' ⟨ad, cap, N, h1, h2, h3, h4⟩ => ⟨ad, cap, N, h1, h2, h3.mono (Nat.le_trans HB.out (HI.out.step hX).old.size), hX.trans (h4.mono hX.size)⟩
          clear hA hF
          generalize putK Cd.id (fun _ c => c) L c = M at *
          have x0 := HI.out.o.cell 1
          have y0 := HI.out.d.cell 1
          dsimp only [List.getElem?_cons_zero, List.getElem?_cons_succ] at x0 y0
          clear hI
          go_wp2_with fail
          apply merge
          · intro KEY
            go_region_law (go_simp; go_at_call 60; refine (KO.out _ (by (repeat (first | exact Below.refl _ _ | refine Below.drew ?_)))).mono ?_; rintro e w1 ⟨ad', cap', N', rfl, hN', hv', hb'⟩; have ob := HI.out.o.below hb' HI.out.o.lt; have ob0 := ob.cell 1; dsimp only [List.getElem?_cons_zero, List.getElem?_cons_succ] at ob0; have of0 := ob.frozen 1; dsimp only)
            all_goals
              subst hN'
              have hN := (HI.out.step hb').set2 hv'
              generalize w1.setCell ⟨w.heap.size + 3, 1, none⟩ (.slice ad' M.length cap') = W1 at hN ⊢
              clear hv' hb' ob ob0 of0
              clear w1
              revert ad' cap' W1
              exact KEY.out
          intro ad' cap' W1 hN
          clear x0 y0 KO HI e0 e1 e2 e3 e4
          go_wp2_with fail
          go_roundw
          case rel => exact ⟨i + 1, ad', cap', by omega, by go_num, by rw [HT.out]; exact hN⟩
          case measure => simp [intOf]; omega
        · obtain rfl : D.C.length = i := by omega
          rw [List.take_length] at HI
          clear hI
          have HK : Hid (layK Cd.id (fun _ c => c) O.C D.C = (layS O D).C) := rfl
          rw [HK.out] at HI
          have HE : Hid (D.E = (layS O D).E) := rfl
          have HRes : Hid (∀ X, Upd (w.heap.size + 2) wr X → LT X B (layS O D) x1 x2 d3 c1 c2 l3 ∧ Below w.heap.size w X) := fun X hu => ⟨⟨HI.out.v1.oth HI.out.r hu (by decide), HI.out.v2.oth HI.out.r hu (by decide), HI.out.v3.oth HI.out.r hu (by decide), rfl, rfl, rfl⟩, hu.below HI.out.old (by omega)⟩
          have y1 := HI.out.d.cell 1
          dsimp only [List.getElem?_cons_zero, List.getElem?_cons_succ] at y1
          have hC := HI.out.o
          have hr := HI.out.r
          clear HI HK
          go_wp2_with (first
            | (refine wpList_bload (by rfl) _ _ (by rfl) (w.heap.size + 3) 27 (by rfl) _ hC _ Tryz.underlying27 (by rfl) 3 (by rfl) (by kernel_rfl) ?_)
            | (refine wpList_bstore (by rfl) _ _ _ (by rfl) (w.heap.size + 2) 27 (by rfl) _ _ (by rfl) hr 3 (by rfl) (by kernel_rfl) (by rfl) (by intro x hx; simp at hx; rcases hx with rfl | rfl | rfl <;> rfl) ?_; intro w9 hr9 hU9))
          exact bodyPost_ret (v := .agg (rpC x1 (layS O D).K.length c1 x2 (layS O D).C.length c2 d3 D.E.length l3).toArray) (results_box1 (by rfl) _ _ (w.heap.size + 2) 27 _ _ (by rfl) hr9 Tryz.underlying27 (by rfl) 3 (by rfl) (by kernel_rfl)) rfl ⟨x1, c1, x2, c2, d3, l3, rfl, (HRes.out _ hU9).1, (HRes.out _ hU9).2⟩
end Go.Proofs.YtdjpkgaicmklmaaGreat

/- What the program's chain asks is what the document asks: without the program. -/
namespace Go.Proofs.YtdjpkgaicmklmaaGreat
open Go.RowKit

theorem firstOf_congr {f g : Nat → Bool} {n : Nat} (h : ∀ i, i < n → f i = g i) : firstOf f n = firstOf g n := by
  cases hg : firstOf g n with
  | some i =>
    obtain ⟨h1, h2, h3⟩ := firstOf_some.mp hg
    exact firstOf_some.mpr ⟨by rw [h i h2]; exact h1, h2, fun j hj => by rw [h j (by omega)]; exact h3 j hj⟩
  | none => exact firstOf_none.mpr (fun i hi => by rw [h i hi]; exact firstOf_none.mp hg i hi)
section
variable {L : List Sl} {l : List (List UInt8)} (hm : L.map Sl.b = l)
include hm
theorem sl_len : L.length = l.length := by rw [← hm]; simp
theorem sl_at (i : Nat) : (L.getD i sl0).b = l.getD i [] := by
  rw [← hm]
  by_cases h : i < L.length
  · simp [List.getD, h]
  · simp [List.getD, h, sl0]
theorem sl_ix (n : Int) : slIx L n = seqIx l n := by rw [← hm, slIx_map]
theorem sl_link (n : Int) : (L.getD (slIx L n) sl0).b = linkR l n := by rw [sl_at hm, sl_ix hm]; rfl
omit hm in
theorem sl_found {n : Int} (h : slIx L n < L.length) : (readRd (L.getD (slIx L n) sl0).b).seq = n := by
  have := List.findIdx_getElem (w := h) (p := fun s : Sl => s.seq == n)
  have e : L.getD (slIx L n) sl0 = L[slIx L n] := by simp [List.getD, h]
  rw [e]
  exact eq_of_beq this
theorem tw_bad5 {i : Nat} (hi : i < L.length) : twB L i = bad5 l i := by
  have hq := sl_at hm i
  unfold twB bad5
  rw [Bool.eq_iff_iff, decide_eq_true_iff, List.any_eq_true]
  constructor
  · intro h
    have hf := sl_found (L := L) (n := (L.getD i sl0).seq) (by omega)
    have hl := sl_len hm
    generalize slIx L (L.getD i sl0).seq = q at h hf
    refine ⟨l.getD q [], ?_, ?_⟩
    · rw [List.mem_iff_getElem]
      refine ⟨q, by rw [List.length_take]; omega, ?_⟩
      rw [List.getElem_take]
      simp [List.getD, show q < l.length by omega]
    · rw [← sl_at hm, ← hq, beq_iff_eq]; exact hf
  · rintro ⟨x, hx, he⟩
    obtain ⟨j, hj, rfl⟩ := List.mem_iff_getElem.1 hx
    have hj2 : j < i := by simp at hj; omega
    have hl := sl_len hm
    rw [List.getElem_take] at he
    have hx2 : (L.getD j sl0).b = l[j] := by rw [sl_at hm]; simp [List.getD, show j < l.length by omega]
    rw [← hx2, ← hq] at he
    have : slIx L (L.getD i sl0).seq ≤ j := by
      apply Nat.le_of_not_lt
      intro hlt
      have := List.not_of_lt_findIdx (p := fun s : Sl => s.seq == (L.getD i sl0).seq) (xs := L) hlt
      have e : L.getD j sl0 = L[j]'(by omega) := by simp [List.getD, show j < L.length by omega]
      rw [e] at he
      rw [he] at this
      cases this
    omega
theorem ix_bad6 (n : Nat) : bad6 l n = true ↔ ¬ slIx L (n : Int) < L.length := by
  unfold bad6 slIx
  rw [List.findIdx_lt_length, Bool.not_eq_true', List.any_eq_false, ← hm]
  constructor
  · rintro h ⟨s, hs, he⟩
    exact h s.b (List.mem_map_of_mem hs) he
  · intro h x hx he
    obtain ⟨s, hs, rfl⟩ := List.mem_map.1 hx
    exact h ⟨s, hs, he⟩
omit hm in
theorem ord_full (h : ∀ n : Nat, n < L.length → slIx L (n : Int) < L.length) : ∀ i, i ≤ L.length → ordTo L i = (List.range i).map fun (n : Nat) => L.getD (slIx L (n : Int)) sl0
  | 0, _ => by simp [ordTo]
  | i + 1, hi => by rw [ordTo_hit (h i (by omega)), ord_full h i (by omega), List.range_succ, List.map_append]; rfl
omit hm in
theorem ord_short {k : Nat} (h : ¬ slIx L (k : Int) < L.length) : ∀ i, k < i → (ordTo L i).length < i
  | 0, hk => by omega
  | i + 1, hk => by
    by_cases e : k = i
    · subst e; rw [ordTo_no h]; have := ordTo_le L k; omega
    · have := ord_short h i (by omega)
      by_cases h2 : slIx L (i : Int) < L.length
      · rw [ordTo_hit h2]; simp; omega
      · rw [ordTo_no h2]; omega
/-- Nothing is missing just if all come into the order. -/
theorem missing_iff : (firstOf (bad6 l) l.length).isSome = true ↔ (ordTo L L.length).length < L.length := by
  have hl := sl_len hm
  constructor
  · intro h
    obtain ⟨k, hk⟩ := Option.isSome_iff_exists.1 h
    obtain ⟨h1, h2, _⟩ := firstOf_some.mp hk
    exact ord_short ((ix_bad6 hm k).1 h1) _ (by omega)
  · intro h
    cases hf : firstOf (bad6 l) l.length with
    | some k => rfl
    | none =>
      exfalso
      have hall : ∀ n : Nat, n < L.length → slIx L (n : Int) < L.length := fun n hn => by
        have := firstOf_none.mp hf n (by omega)
        by_cases h2 : slIx L (n : Int) < L.length
        · exact h2
        · rw [(ix_bad6 hm n).2 h2] at this; cases this
      rw [ord_full hall _ (Nat.le_refl _)] at h
      simp at h
omit hm in
theorem all_there (h : ¬ (ordTo L L.length).length < L.length) : ∀ n : Nat, n < L.length → slIx L (n : Int) < L.length := fun n hn => by
  by_cases h2 : slIx L (n : Int) < L.length
  · exact h2
  · exact absurd (ord_short h2 _ hn) h
theorem ord_link (h : ∀ n : Nat, n < L.length → slIx L (n : Int) < L.length) {k : Nat} (hk : k < L.length) : ((ordTo L L.length).getD k sl0).b = linkR l (k : Int) := by
  rw [ord_full h _ (Nat.le_refl _)]
  simp only [List.getD, List.getElem?_map, List.getElem?_range hk, Option.map_some, Option.getD_some]
  exact sl_link hm k
omit hm in
/-- Each Seq lies below their number. -/
theorem seq_below (h : ∀ n : Nat, n < L.length → slIx L (n : Int) < L.length) {i : Nat} (hi : i < L.length) : (0 : Int) ≤ (readRd (L.getD i sl0).b).seq ∧ (readRd (L.getD i sl0).b).seq < (L.length : Int) := by
  have hin : i ∈ (List.range L.length).map fun (n : Nat) => slIx L (n : Int) := by
    refine below_all ?_ ?_ (by simp) hi
    · rw [List.nodup_iff_pairwise_ne, List.pairwise_map]
      refine List.Pairwise.imp_of_mem ?_ List.nodup_range
      intro a b ha hb hab e
      have h1 := sl_found (h a (List.mem_range.1 ha))
      have h2 := sl_found (h b (List.mem_range.1 hb))
      rw [e] at h1
      exact hab (by omega)
    · intro x hx
      obtain ⟨n, hn, rfl⟩ := List.mem_map.1 hx
      exact h n (List.mem_range.1 hn)
  obtain ⟨n, hn, rfl⟩ := List.mem_map.1 hin
  have h1 := sl_found (h n (List.mem_range.1 hn))
  rw [h1]
  have := List.mem_range.1 hn
  omega
theorem ls_bad7 (h : ∀ n : Nat, n < L.length → slIx L (n : Int) < L.length) {i : Nat} (hi : i < L.length) : lsB L (ordTo L L.length) i = bad7 l i := by
  obtain ⟨h0, h1⟩ := seq_below h hi
  have ho : (ordTo L L.length).length = L.length := by rw [ord_full h _ (Nat.le_refl _)]; simp
  have hq := sl_at hm i
  unfold lsB bad7
  rw [ho, ← hq]
  show (decide (1 ≤ (readRd (L.getD i sl0).b).seq) && (decide ((L.length : Int) < (readRd (L.getD i sl0).b).seq) || (sealR ((ordTo L L.length).getD ((readRd (L.getD i sl0).b).seq - 1).toNat sl0).b != (readRd (L.getD i sl0).b).base))) = _
  rw [decide_eq_false (show ¬ (L.length : Int) < (readRd (L.getD i sl0).b).seq by omega), Bool.false_or]
  by_cases hp : 1 ≤ (readRd (L.getD i sl0).b).seq
  · rw [decide_eq_true hp, decide_eq_true (show 0 < (readRd (L.getD i sl0).b).seq by omega)]
    obtain ⟨k, hk⟩ : ∃ k : Nat, (readRd (L.getD i sl0).b).seq - 1 = (k : Int) := ⟨((readRd (L.getD i sl0).b).seq - 1).toNat, by omega⟩
    rw [hk, Int.toNat_natCast, ord_link hm h (by omega)]
  · rw [decide_eq_false hp, decide_eq_false (show ¬ 0 < (readRd (L.getD i sl0).b).seq by omega), Bool.false_and, Bool.false_and]
omit hm in
theorem lay_nil {α : Type} (key : α → Int) {l2 : List α} (ha : Asc key l2) : layK key (fun _ c => c) [] l2 = l2 := by
  refine asc_ext key (layK_asc key (fun o c h => rfl) List.Pairwise.nil) ha fun k => ?_
  rw [look_lay key (fun o c h => rfl) List.Pairwise.nil ha]; rfl
theorem fold_chain (h : ∀ n : Nat, n < L.length → slIx L (n : Int) < L.length) : ∀ k, k < L.length → foldT (ordTo L L.length) (k + 1) = chainSt l k
  | 0, hk => by
    have hr := ord_link hm h hk
    have ha := read_asc (linkR l 0)
    show layS ⟨[], [], []⟩ (readRd ((ordTo L L.length).getD 0 sl0).b).st = (readRd (linkR l 0)).st
    rw [hr]
    show (⟨layK Ck.site (fun _ c => c) [] (readRd (linkR l 0)).K, layK Cd.id (fun _ c => c) [] (readRd (linkR l 0)).C, (readRd (linkR l 0)).E⟩ : Tri) = _
    rw [lay_nil Ck.site ha.1, lay_nil Cd.id ha.2]; rfl
  | k + 1, hk => by
    have ih := fold_chain h k (by omega)
    have hr := ord_link hm h hk
    show layS (foldT (ordTo L L.length) (k + 1)) (readRd ((ordTo L L.length).getD (k + 1) sl0).b).st = layS (chainSt l k) (readRd (linkR l ((k + 1 : Nat) : Int))).st
    rw [ih, hr]
end
end Go.Proofs.YtdjpkgaicmklmaaGreat

/- Links in memory without their seals; parcelref.seq: walked. -/
namespace Go.Proofs.YtdjpkgaicmklmaaGreat
open Go.RowKit

abbrev Sl.c5 (s : Sl) : List Value := [.int .i64 (readRd s.b).seq, .int .i64 (readRd s.b).base, .slice s.a1 (readRd s.b).K.length s.k1, .slice s.a2 (readRd s.b).C.length s.k2, .slice s.a3 (readRd s.b).E.length s.k3]
def slc5 (L : List Sl) : List Value := (L.map Sl.c5).flatten
theorem slc5_app (a b : List Sl) : slc5 (a ++ b) = slc5 a ++ slc5 b := by simp [slc5]
theorem slvec5_lies {w : World} {B e : Nat} {ad : Option Addr} {n cap : Nat} {L : List Sl} (h : Vec w B e 5 ad n cap (slc5 L)) (hn : n = L.length) : Lies w ad n 5 (fun i => (L.getD i sl0).c5) := by
  refine Vec.lies (rows := L.map Sl.c5) h ?_ (by simp [hn]) _ ?_
  · intro r hr; obtain ⟨f, _, rfl⟩ := List.mem_map.1 hr; rfl
  · intro i hi; subst hn; simp [List.getD, hi]
theorem ones5 (s : Sl) : ∀ v, v ∈ s.c5 → v.oneCell' = true := by intro v h; simp at h; rcases h with rfl | rfl | rfl | rfl | rfl <;> rfl
theorem Lies.sl5 {w : World} {a : Option Addr} {n : Nat} {c : Nat → Sl} (h : Lies w a n 5 (fun i => (c i).c5)) (cap : Nat) {k : Nat} (hk : k < n) :
    ∃ b o, b < w.heap.size ∧ (∀ w', (Instr.indexAt 57 (.slice a n cap) (.int .i64 (k : Int))).run Tryz.prog w' = .ok (.pointer (some ⟨b, o, none⟩)) w') ∧
      (w.cell? ⟨b, o, none⟩ = some (.int .i64 (readRd (c k).b).seq) ∧ w.cell? ⟨b, o + 1, none⟩ = some (.int .i64 (readRd (c k).b).base) ∧ w.cell? ⟨b, o + 2, none⟩ = some (.slice (c k).a1 (readRd (c k).b).K.length (c k).k1) ∧ w.cell? ⟨b, o + 3, none⟩ = some (.slice (c k).a2 (readRd (c k).b).C.length (c k).k2) ∧ w.cell? ⟨b, o + 4, none⟩ = some (.slice (c k).a3 (readRd (c k).b).E.length (c k).k3)) := by
  obtain ⟨b, o, hb, hi, hc⟩ := h.at cap (P := Tryz.prog) (t := 57) (by kernel_rfl) (by kernel_rfl) hk
  exact ⟨b, o, hb, hi, hc 0 _ (by omega) rfl, hc 1 _ (by omega) rfl, hc 2 _ (by omega) rfl, hc 3 _ (by omega) rfl, hc 4 _ (by omega) rfl⟩
/-- Where the link with a Seq stands, or -1. -/
def seqR (L : List Sl) (q : Int) : Int := if slIx L q < L.length then (slIx L q : Int) else -1

set_option maxHeartbeats 2000000 in
theorem rseq_any (L : List Sl) (a : Option Addr) (n cap : Nat) (q : Int) (w : World) (hn : n = L.length) (hn2 : n ≤ 140737488355328) (hL : Lies w a n 5 (fun i => (L.getD i sl0).c5)) :
    Calls Tryz.prog 26 #[.slice a n cap, .int .i64 q] w fun e w' => e = .returned (.int .i64 (seqR L q)) ∧ w' = w := by
  have HL : Hid (n = L.length) := hn
  clear hn
  go_enter Tryz.func26, Tryz.ntmps26
  go_wp2
  go_loop [5] (fun i => ∃ k : Nat, k ≤ n ∧ i = .int .i64 k ∧ (∀ j, j < k → ((L.getD j sl0).seq == q) = false)) (fun i => n - (intOf i).toNat)
  case atStart => exact ⟨0, Nat.zero_le _, rfl, fun j hj => by omega⟩
  case round =>
    obtain ⟨k, hk, rfl, hno⟩ := hrel
    have HN : Hid (∀ j, j < k → ((L.getD j sl0).seq == q) = false) := hno
    clear hno
    by_cases hlt : k < n
    · obtain ⟨b, o, hbl, hix, c0, -⟩ := Lies.sl5 (c := fun i => L.getD i sl0) hL cap hlt
      have HE : Hid (((L.getD k sl0).seq == q) = true → seqR L q = (k : Int)) := fun hq => by
        have := slIx_hit (by rw [← HL.out]; exact hlt) hq HN.out
        unfold seqR; rw [this, if_pos (by rw [← HL.out]; exact hlt)]
      have HQ : Hid (((L.getD k sl0).seq == q) = false → ∀ j, j < k + 1 → ((L.getD j sl0).seq == q) = false) := fun hq j hj => by rcases Nat.lt_or_ge j k with h | h; (exact HN.out j h); (rw [show j = k by omega]; exact hq)
      simp only [Sl.seq] at HE HQ
      generalize (readRd (L.getD k sl0).b).seq = c at *
      cases hq : (c == q) with
      | true =>
        have E : Hid (seqR L q = (k : Int)) := HE.out hq
        go_wp2
        go_ret
        exact ⟨ret_int (by rw [E.out]), rfl⟩
      | false =>
        have E : Hid (∀ j, j < k + 1 → ((L.getD j sl0).seq == q) = false) := HQ.out hq
        go_wp2
        go_round
        case rel => exact ⟨k + 1, by omega, by go_num, E.out⟩
        case measure => simp [intOf]; omega
    · have E : Hid (seqR L q = -1) := by
        show _ = _
        have := slIx_none (L := L) (n := q) (fun j hj => HN.out j (by have := HL.out; omega))
        unfold seqR; rw [this, if_neg (Nat.lt_irrefl _)]
      go_wp2
      go_ret
      exact ⟨ret_int (by rw [E.out]), rfl⟩
/-- What the reference's tests say. -/
theorem seq_twice (L : List Sl) {i : Nat} (hi : i < L.length) : seqR L (L.getD i sl0).seq = (slIx L (L.getD i sl0).seq : Int) := by
  unfold seqR
  rw [if_pos]
  have : slIx L (L.getD i sl0).seq ≤ i := by
    apply Nat.le_of_not_lt
    intro hlt
    have := List.not_of_lt_findIdx (p := fun s : Sl => s.seq == (L.getD i sl0).seq) (xs := L) hlt
    have e : L.getD i sl0 = L[i] := by simp [List.getD, hi]
    rw [← e, beq_self_eq_true] at this
    cases this
  omega
theorem seq_hit {L : List Sl} {q : Int} (h : slIx L q < L.length) : seqR L q = (slIx L q : Int) := by unfold seqR; rw [if_pos h]
theorem seq_miss {L : List Sl} {q : Int} (h : ¬ slIx L q < L.length) : seqR L q = -1 := by unfold seqR; rw [if_neg h]
theorem Vec.kq {w w' : World} {B Bs e m : Nat} {ad : Option Addr} {n cap : Nat} {xs row ys : List Value} {a9 : Option Addr} {ns cs ms : Nat} (h : Vec w B e m ad n cap xs) (hv : Vec w Bs 46 ms a9 ns cs ys) (hk : Kp (a9.map (·.block)) row w w') (he : e ≠ 46) : Vec w' B e m ad n cap xs :=
  h.kpo hk (fun b hb hb' => h.apart hv he b hb hb')
theorem Sls.kq {w w' : World} {B Bs ms : Nat} {L : List Sl} {row ys : List Value} {a9 : Option Addr} {ns cs : Nat} (h : Sls w B L) (hv : Vec w Bs 46 ms a9 ns cs ys) (hk : Kp (a9.map (·.block)) row w w') : Sls w' B L := fun s hs =>
  ⟨(h s hs).v1.kq hv hk (by decide), (h s hs).v2.kq hv hk (by decide), (h s hs).v3.kq hv hk (by decide), rfl, rfl, rfl⟩
end Go.Proofs.YtdjpkgaicmklmaaGreat

