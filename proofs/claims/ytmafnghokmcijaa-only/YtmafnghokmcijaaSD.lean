/- parcelkeep.State, walked. -/
import Derived.Test.YtmafnghokmcijaaSC
import Derived.Deep.RegionHeld3
import Derived.Deep.DeepCutAuto
import Derived.Deep.RegionLaw
namespace Go.Proofs.Ytmafnghokmcijaa
open Go.RowKit

/-- The result's cell and the variable r, at the call's first two blocks: three slices. -/
structure Two (w : World) (B : Nat) (x y z : Value) : Prop where
  r0 : ∃ v, w.cell? ⟨B, 0, none⟩ = some v
  r1 : ∃ v, w.cell? ⟨B, 1, none⟩ = some v
  r2 : ∃ v, w.cell? ⟨B, 2, none⟩ = some v
  rf : ∀ j, w.frozen? ⟨B, j, none⟩ = false
  c0 : w.cell? ⟨B + 1, 0, none⟩ = some x
  c1 : w.cell? ⟨B + 1, 1, none⟩ = some y
  c2 : w.cell? ⟨B + 1, 2, none⟩ = some z
  cf : ∀ j, w.frozen? ⟨B + 1, j, none⟩ = false

theorem Two.below {w w' : World} {B C : Nat} {x y z : Value} (h : Two w B x y z) (hb : Below C w w') (hB : B + 2 ≤ C) : Two w' B x y z := by
  have hc : ∀ b j, b < B + 2 → w'.cell? ⟨b, j, none⟩ = w.cell? ⟨b, j, none⟩ := fun b j hl => hb.cell (p := ⟨b, j, none⟩) (Nat.lt_of_lt_of_le hl hB)
  have hf : ∀ b j, b < B + 2 → w'.frozen? ⟨b, j, none⟩ = w.frozen? ⟨b, j, none⟩ := fun b j hl => hb.frozen (p := ⟨b, j, none⟩) (Nat.lt_of_lt_of_le hl hB)
  exact ⟨by rw [hc _ _ (by omega)]; exact h.r0, by rw [hc _ _ (by omega)]; exact h.r1, by rw [hc _ _ (by omega)]; exact h.r2, fun j => by rw [hf _ _ (by omega)]; exact h.rf j,
    by rw [hc _ _ (by omega)]; exact h.c0, by rw [hc _ _ (by omega)]; exact h.c1, by rw [hc _ _ (by omega)]; exact h.c2, fun j => by rw [hf _ _ (by omega)]; exact h.cf j⟩

/-- What the first loop keeps. -/
structure Inv1 (w0 : World) (gc : Nat) (cn : List Int) (cards : List Cd) (ad : Option Addr) (N cap : Nat) (wr : World) : Prop where
  bel : Below w0.heap.size w0 wr
  two : Two wr w0.heap.size (.slice none 0 0) (.slice ad N cap) (.slice none 0 0)
  cnt : Own wr gc 3 1 (irows cn)
  crd : Vec wr (gc + 1) 59 5 ad N cap (ccells cards)
  len : cards.length = N
  lo : w0.heap.size + 2 ≤ gc

theorem two_start (w w2 : World) {C : Nat} (h : Below C ((w.alloc (.cells #[.slice none 0 0, .slice none 0 0, .slice none 0 0] 26)).alloc (.cells #[.slice none 0 0, .slice none 0 0, .slice none 0 0] 26)) w2) (hC : w.heap.size + 2 ≤ C) :
    Two w2 w.heap.size (.slice none 0 0) (.slice none 0 0) (.slice none 0 0) := by
  refine Two.below (w := (w.alloc (.cells #[.slice none 0 0, .slice none 0 0, .slice none 0 0] 26)).alloc (.cells #[.slice none 0 0, .slice none 0 0, .slice none 0 0] 26)) ⟨⟨_, by simp; rfl⟩, ⟨_, by simp; rfl⟩, ⟨_, by simp; rfl⟩, fun j => by simp, by simp, by simp, by simp, fun j => by simp⟩ h hC

/-- The counts turned. -/
theorem Inv1.count {w0 : World} {gc : Nat} {cn : List Int} {cards : List Cd} {ad : Option Addr} {N cap : Nat} {wr : World} (h : Inv1 w0 gc cn cards ad N cap wr) (k : Nat) (x : Int) :
    Inv1 w0 gc (cn.set k x) cards ad N cap (wr.setCell ⟨gc, k, none⟩ (.int .i64 x)) := by
  have hlo := h.lo
  refine ⟨h.bel.setCell (p := ⟨gc, k, none⟩) (by show w0.heap.size ≤ gc; omega) _, ?_, irows_set h.cnt k x, h.crd.setBelow _ (by show gc < gc + 1; omega) _, h.len, h.lo⟩
  have hb : Below gc wr (wr.setCell ⟨gc, k, none⟩ (.int .i64 x)) := (Below.refl _ _).setCell (p := ⟨gc, k, none⟩) (Nat.le_refl _) _
  exact h.two.below hb hlo
theorem Inv1.step {w0 : World} {gc : Nat} {cn : List Int} {cards : List Cd} {ad : Option Addr} {N cap : Nat} {wr w' : World} (h : Inv1 w0 gc cn cards ad N cap wr) (hb : Below wr.heap.size wr w') : Inv1 w0 gc cn cards ad N cap w' := by
  have hg := h.cnt.lt
  have hlo := h.lo
  exact ⟨h.bel.trans (hb.mono h.bel.size), h.two.below hb (by omega), h.cnt.below hb hg, h.crd.keep hb, h.len, h.lo⟩

theorem Two.set0 {w : World} {B : Nat} {x y z : Value} (h : Two w B x y z) (v : Value) : Two (w.setCell ⟨B + 1, 0, none⟩ v) B v y z := by
  obtain ⟨⟨u0, r0⟩, ⟨u1, r1⟩, ⟨u2, r2⟩, rf, c0, c1, c2, cf⟩ := h
  exact ⟨⟨u0, by rw [World.cell?_setCell_far _ _ _ _ (by simp)]; exact r0⟩, ⟨u1, by rw [World.cell?_setCell_far _ _ _ _ (by simp)]; exact r1⟩, ⟨u2, by rw [World.cell?_setCell_far _ _ _ _ (by simp)]; exact r2⟩, fun j => by rw [World.frozen?_setCell]; exact rf j,
    by simp [go_sem, c0], by simp [go_sem, c1], by simp [go_sem, c2], fun j => by rw [World.frozen?_setCell]; exact cf j⟩
theorem Two.set1 {w : World} {B : Nat} {x y z : Value} (h : Two w B x y z) (v : Value) : Two (w.setCell ⟨B + 1, 1, none⟩ v) B x v z := by
  obtain ⟨⟨u0, r0⟩, ⟨u1, r1⟩, ⟨u2, r2⟩, rf, c0, c1, c2, cf⟩ := h
  exact ⟨⟨u0, by rw [World.cell?_setCell_far _ _ _ _ (by simp)]; exact r0⟩, ⟨u1, by rw [World.cell?_setCell_far _ _ _ _ (by simp)]; exact r1⟩, ⟨u2, by rw [World.cell?_setCell_far _ _ _ _ (by simp)]; exact r2⟩, fun j => by rw [World.frozen?_setCell]; exact rf j,
    by simp [go_sem, c0], by simp [go_sem, c1], by simp [go_sem, c2], fun j => by rw [World.frozen?_setCell]; exact cf j⟩
theorem Two.set2 {w : World} {B : Nat} {x y z : Value} (h : Two w B x y z) (v : Value) : Two (w.setCell ⟨B + 1, 2, none⟩ v) B x y v := by
  obtain ⟨⟨u0, r0⟩, ⟨u1, r1⟩, ⟨u2, r2⟩, rf, c0, c1, c2, cf⟩ := h
  exact ⟨⟨u0, by rw [World.cell?_setCell_far _ _ _ _ (by simp)]; exact r0⟩, ⟨u1, by rw [World.cell?_setCell_far _ _ _ _ (by simp)]; exact r1⟩, ⟨u2, by rw [World.cell?_setCell_far _ _ _ _ (by simp)]; exact r2⟩, fun j => by rw [World.frozen?_setCell]; exact rf j,
    by simp [go_sem, c0], by simp [go_sem, c1], by simp [go_sem, c2], fun j => by rw [World.frozen?_setCell]; exact cf j⟩

/-- The cards turned. -/
theorem Inv1.place {w0 : World} {gc : Nat} {cn : List Int} {cards cards' : List Cd} {ad ad' : Option Addr} {N N' cap cap' : Nat} {wr w' : World} (h : Inv1 w0 gc cn cards ad N cap wr) (hb : Below wr.heap.size wr w')
    (hv : Vec w' wr.heap.size 59 5 ad' N' cap' (ccells cards')) (hl : cards'.length = N') : Inv1 w0 gc cn cards' ad' N' cap' (w'.setCell ⟨w0.heap.size + 1, 1, none⟩ (.slice ad' N' cap')) := by
  have hlo := h.lo
  have hg := h.cnt.lt
  have h2 := h.step hb
  exact ⟨h2.bel.setCell (p := ⟨w0.heap.size + 1, 1, none⟩) (by simp) _, h2.two.set1 _, h2.cnt.setOther _ (by show w0.heap.size + 1 ≠ gc; omega) _, (hv.mono (by omega)).setBelow _ (by show w0.heap.size + 1 < gc + 1; omega) _, hl, hlo⟩

/-- What the later loops keep: ws the world at the first one's end. -/
structure Inv (w0 ws : World) (gc : Nat) (x y z : Value) (wr : World) : Prop where
  bel : Below w0.heap.size w0 wr
  two : Two wr w0.heap.size x y z
  mid : ∀ k, gc ≤ k → k < ws.heap.size → wr.heap[k]? = ws.heap[k]?
  lo : w0.heap.size + 2 ≤ gc
  hi : gc < ws.heap.size
  sz : ws.heap.size ≤ wr.heap.size
theorem Inv.start {w0 : World} {gc : Nat} {x y z : Value} {ws : World} (h1 : Below w0.heap.size w0 ws) (h2 : Two ws w0.heap.size x y z) (h3 : w0.heap.size + 2 ≤ gc) (h4 : gc < ws.heap.size) : Inv w0 ws gc x y z ws :=
  ⟨h1, h2, fun _ _ _ => rfl, h3, h4, Nat.le_refl _⟩
theorem Inv.step {w0 ws : World} {gc : Nat} {x y z : Value} {wr w' : World} (h : Inv w0 ws gc x y z wr) (hb : Below ws.heap.size wr w') : Inv w0 ws gc x y z w' := by
  have h1 := h.bel.size
  have h2 := h.hi
  have h3 := h.lo
  exact ⟨h.bel.trans (hb.mono (by omega)), h.two.below hb (by omega), fun k a b => (hb.block k b).trans (h.mid k a b), h.lo, h.hi, Nat.le_trans h.sz hb.size⟩
theorem Inv.set0 {w0 ws : World} {gc : Nat} {x y z : Value} {wr : World} (h : Inv w0 ws gc x y z wr) (v : Value) : Inv w0 ws gc v y z (wr.setCell ⟨w0.heap.size + 1, 0, none⟩ v) := by
  have h3 := h.lo
  exact ⟨h.bel.setCell (p := ⟨w0.heap.size + 1, 0, none⟩) (by simp) _, h.two.set0 _, fun k a b => (Below.heap_setCell _ _ _ _ (by show k ≠ w0.heap.size + 1; omega)).trans (h.mid k a b), h3, h.hi, by simpa [World.setCell] using h.sz⟩
theorem Inv.set2 {w0 ws : World} {gc : Nat} {x y z : Value} {wr : World} (h : Inv w0 ws gc x y z wr) (v : Value) : Inv w0 ws gc x y v (wr.setCell ⟨w0.heap.size + 1, 2, none⟩ v) := by
  have h3 := h.lo
  exact ⟨h.bel.setCell (p := ⟨w0.heap.size + 1, 2, none⟩) (by simp) _, h.two.set2 _, fun k a b => (Below.heap_setCell _ _ _ _ (by show k ≠ w0.heap.size + 1; omega)).trans (h.mid k a b), h3, h.hi, by simpa [World.setCell] using h.sz⟩
theorem Inv.vec {w0 ws : World} {gc : Nat} {x y z : Value} {wr : World} (h : Inv w0 ws gc x y z wr) {B e m : Nat} {ad : Option Addr} {n cap : Nat} {xs : List Value} (hv : Vec ws B e m ad n cap xs) (hB : gc ≤ B) : Vec wr B e m ad n cap xs := by
  refine ⟨hv.1, ?_⟩
  rcases hv.2 with h2 | ⟨g, c, cur, hv, hb, hg, r⟩
  · exact Or.inl h2
  · exact Or.inr ⟨g, c, cur, hv, hb, by rw [h.mid g (by omega) (Array.getElem?_eq_some_iff.1 hg).1]; exact hg, r⟩
theorem Inv.own {w0 ws : World} {gc : Nat} {x y z : Value} {wr : World} (h : Inv w0 ws gc x y z wr) {e m : Nat} {rows : List (List Value)} (hv : Own ws gc e m rows) : Own wr gc e m rows :=
  ⟨hv.even, by rw [h.mid gc (Nat.le_refl _) hv.lt]; exact hv.block⟩

/-- A card in a block of its own. -/
structure CardAt (w : World) (g : Nat) (i s c : Int) (b : Bool) (t : ByteArray) : Prop where
  c0 : w.cell? ⟨g, 0, none⟩ = some (.int .i64 i)
  c1 : w.cell? ⟨g, 1, none⟩ = some (.int .i64 s)
  c2 : w.cell? ⟨g, 2, none⟩ = some (.int .i64 c)
  c3 : w.cell? ⟨g, 3, none⟩ = some (.bool b)
  c4 : w.cell? ⟨g, 4, none⟩ = some (.string t)
  cf : ∀ j, w.frozen? ⟨g, j, none⟩ = false

theorem cardAt_of {w : World} {g : Nat} {i s c : Int} {b : Bool} {t : ByteArray} (h : w.heap[g]? = some (.cells #[.int .i64 i, .int .i64 s, .int .i64 c, .bool b, .string t] 59)) : CardAt w g i s c b t := by
  refine ⟨?_, ?_, ?_, ?_, ?_, fun j => ?_⟩ <;> simp [World.cell?, World.frozen?, h]

theorem heap_new3 (W : World) (o1 o2 x : Obj) : (((W.alloc o1).alloc o2).alloc x).drew.heap[W.heap.size + 1 + 1]? = some x := by
  show (((W.heap.push o1).push o2).push x)[W.heap.size + 1 + 1]? = _
  rw [Array.getElem?_push, if_pos (by simp)]
theorem heap_new2 (W : World) (o1 o2 x : Obj) : (((W.alloc o1).alloc x).alloc o2).drew.heap[W.heap.size + 1]? = some x := by
  show (((W.heap.push o1).push x).push o2)[W.heap.size + 1]? = _
  rw [Array.getElem?_push, if_neg (by simp), Array.getElem?_push, if_pos (by simp)]
theorem heap_new1 (W : World) (o1 o2 x : Obj) : (((W.alloc x).alloc o1).alloc o2).drew.heap[W.heap.size]? = some x := by
  show (((W.heap.push x).push o1).push o2)[W.heap.size]? = _
  rw [Array.getElem?_push, if_neg (by simp <;> omega), Array.getElem?_push, if_neg (by simp), Array.getElem?_push, if_pos rfl]

theorem heap_newL (W : World) (o1 x : Obj) : ((W.alloc o1).alloc x).drew.heap[W.heap.size + 1]? = some x := by
  show ((W.heap.push o1).push x)[W.heap.size + 1]? = _
  rw [Array.getElem?_push, if_pos (by simp)]
theorem new_at {X : World} {N : Nat} {cs : List Value} {t : TypeId} (h : X.heap[N]? = some (.cells cs.toArray t)) : ∀ j u, cs[j]? = some u → X.cell? ((⟨N, 0, none⟩ : Addr).add j) = some u := by
  intro j u hj
  rw [addr_add]
  simp [World.cell?, h, hj]

theorem set3' (wr : World) (b : Nat) (x y z u0 u1 u2 : Value) (h0 : wr.cell? ⟨b, 0, none⟩ = some u0) (h1 : wr.cell? ⟨b, 1, none⟩ = some u1) (h2 : wr.cell? ⟨b, 2, none⟩ = some u2) :
    ∃ X, X = (((wr.setCell ⟨b, 0, none⟩ x).setCell ⟨b, 1, none⟩ y).setCell ⟨b, 2, none⟩ z) ∧ X.cell? ⟨b, 0, none⟩ = some x ∧ X.cell? ⟨b, 1, none⟩ = some y ∧ X.cell? ⟨b, 2, none⟩ = some z ∧
      (∀ w0, Below b w0 wr → Below b w0 X) ∧ (∀ B e m ad n cap xs, Vec wr B e m ad n cap xs → b < B → Vec X B e m ad n cap xs) := by
  refine ⟨_, rfl, ?_, ?_, ?_, fun w0 h => ?_, fun B e m ad n cap xs h hB => ?_⟩
  · simp [go_sem, h0]
  · simp [go_sem, h1]
  · simp [go_sem, h2]
  · exact ((h.setCell (p := ⟨b, 0, none⟩) (Nat.le_refl _) _).setCell (p := ⟨b, 1, none⟩) (Nat.le_refl _) _).setCell (p := ⟨b, 2, none⟩) (Nat.le_refl _) _
  · exact ((h.setBelow ⟨b, 0, none⟩ hB _).setBelow ⟨b, 1, none⟩ hB _).setBelow ⟨b, 2, none⟩ hB _
theorem has_of {X : World} {B : Nat} {a1 a2 a3 : Option Addr} {N1 N2 N3 c1 c2 c3 : Nat} {K : List Ck} {C : List Cd} {E : List Ed} (h1 : Vec X B 57 2 a1 N1 c1 (kcells K)) (h2 : Vec X B 59 5 a2 N2 c2 (ccells C)) (h3 : Vec X B 61 2 a3 N3 c3 (ecells E))
    (e1 : K.length = N1) (e2 : C.length = N2) (e3 : E.length = N3) (b1 : N1 ≤ 1000) (b2 : N2 ≤ 1000) (b3 : N3 ≤ 1000) : Has X (repOf K C E) a1 a2 a3 ∧ repV (repOf K C E) a1 a2 a3 c1 c2 c3 = .agg #[.slice a1 N1 c1, .slice a2 N2 c2, .slice a3 N3 c3] := by
  subst e1 e2 e3
  refine ⟨⟨kvec_lies h1 rfl, cvec_lies h2 rfl, evec_lies h3 rfl, ?_, ?_, ?_, ?_, ?_, ?_⟩, rfl⟩ <;> simp only [repOf] <;> omega

set_option maxRecDepth 100000 in
set_option maxHeartbeats 8000000 in
theorem state_any (S : Seen) (aw am ae : Option Addr) (cw cm ce ne : Nat) (ef : Nat → Wr) (w : World)
    (hW : Lies w aw S.n 4 (fun i => (S.w i).cells)) (hM : Lies w am S.m 1 (iCells S.f)) (hE : Lies w ae ne 4 (fun i => (ef i).cells))
    (kw : S.n ≤ cw) (kn : S.n ≤ 140737488355328) (_km : S.m ≤ 140737488355328) (ke : ne ≤ 140737488355328)
    (iw : ∀ i, i < S.n → I64 (S.w i).site ∧ I64 (S.w i).id) (im : ∀ i, i < S.m → I64 (S.f i)) (ie : ∀ i, i < ne → I64 (ef i).id) :
    Calls Try.prog 19 #[.slice aw S.n cw, .slice am S.m cm, .slice ae ne ce] w fun e w' =>
      ∃ a1 a2 a3 k1 k2 k3, e = .returned (repV (stateR S ne ef) a1 a2 a3 k1 k2 k3) ∧ Has w' (stateR S ne ef) a1 a2 a3 ∧ Below w.heap.size w w' := by
  go_enter Try.func19, Try.ntmps19
  go_wp2_with fail
  refine (first_any aw S.n cw _ kw).mono ?_
  rintro e w1 ⟨rfl, rfl⟩
  have hlo : min S.n 40 ≤ 40 := by omega
  have hlo2 : min S.n 40 ≤ S.n := by omega
  have HR : Hid (∀ i, i < min S.n 40 → i < S.n) := fun i h => by omega
  generalize hNN : min S.n 40 = NN at *
  have HNN : Hid (min S.n 40 = NN) := hNN
  clear hNN
  go_wp2_with (first
    | (at_make; refine wpList_make_ones (by rfl) _ _ 45 (by rfl) 3 (.int .i64 0) 8 Try.underlying45 (by kernel_rfl) rfl 8 8 rfl (by rfl) (by rfl) ?_ ?_ ?_; (omega); (omega); intro gc ac w2 ec hgc hgl oc hbc))
  simp only [World.size_alloc] at hgc
  have hI0 : Inv1 w gc (runS S 0).1 (runS S 0).2 none 0 0 w2 := by
    refine ⟨?_, two_start w w2 hbc (by simp), ?_, Vec.nil _ _ _ _, rfl, by omega⟩
    · exact (((Below.refl _ w).alloc (Nat.le_refl _) _).alloc (by simp) _).trans (hbc.mono (by simp; omega))
    · exact oc
  clear hbc oc hgl hgc
  go_loopw [10, 11, 12, 13] (fun v _ _ _ wr => ∃ (i : Nat) (ad : Option Addr) (N cap : Nat), i ≤ NN ∧ v = .int .i64 i ∧ Inv1 w gc (runS S i).1 (runS S i).2 ad N cap wr) (fun v _ _ _ _ => NN - (intOf v).toNat)
  case atStart => exact ⟨0, none, 0, 0, Nat.zero_le _, rfl, hI0⟩
  case round =>
    clear hI0
    obtain ⟨i, ad, N, cap, hi, rfl, hI⟩ := hrel
    by_cases hlt : i < NN
    · have hiS := HR.out i hlt
      obtain ⟨b, o, hbl, hix, d0, d1, d2, d3⟩ := (hW.take NN hlo2).wr cw hlt
      have c0 := (hI.bel.cell (p := ⟨b, o, none⟩) hbl).trans d0
      obtain ⟨q1, q2⟩ := iw i hiS
      have hrun : runS S (i + 1) = stepS S (runS S i) (S.w i) := rfl
      have HRun : Hid (runS S (i + 1) = stepS S (runS S i) (S.w i)) := hrun
      have hcl := runS_length S i
      have hcb := runS_counts S i (siteIx (S.w i))
      have hcr := runS_cards S i
      clear hrun
      generalize runS S i = st at *
      generalize hx : S.w i = x at *
      have HX : Hid (S.w i = x) := hx
      clear hx
      have hkx := siteIx_lt x
      have hkp := siteIx_eq x
      have HKP : Hid (pickI x.site 8 = (siteIx x : Int)) := hkp
      clear hkp
      have hMr := hM.below hI.bel
      have xi := fun w' => Own.idx ec (P := Try.prog) (t := 45) (m := 1) 8 8 (by kernel_rfl) (by kernel_rfl) (k := siteIx x) hkx (siteIx x : Int) rfl w'
      obtain ⟨cc, cf⟩ := irows_at hI.cnt (siteIx x) (by rw [hcl]; exact hkx)
      go_wp2_with fail
      refine (pick_any _ 8 _ q1 (by decide) (by decide)).mono ?_
      rintro e w3 ⟨rfl, h3⟩
      obtain rfl := h3.symm
      rw [HKP.out]
      go_wp2_with fail
      refine (seen_any am S.m cm S.f (siteIx x) _ hMr im).mono ?_
      rintro e w4 ⟨rfl, h4⟩
      obtain rfl := h4.symm
      generalize hk : siteIx x = k at *
      have HK : Hid (siteIx x = k) := hk
      clear hk
      generalize hsn : seenI S.m S.f k = sn at *
      have HSN : Hid (seenI S.m S.f k = sn) := hsn
      clear hsn
      generalize hcv : st.1.getD k 0 = cv at *
      have HCV : Hid (st.1.getD k 0 = cv) := hcv
      clear hcv
      obtain ⟨hc0, hc1⟩ := hcb
      by_cases hge : sn ≤ cv
      · have hstep : stepS S st x = st := by unfold stepS; rw [HK.out, HSN.out, HCV.out, if_pos hge]
        have HST : Hid (runS S (i + 1) = st) := by show _ = _; rw [HRun.out, hstep]
        clear hstep
        go_wp2_with fail
        go_roundw
        case rel => exact ⟨i + 1, ad, N, cap, by omega, by go_num, by rw [HST.out]; exact hI⟩
        case measure => simp [intOf]; omega
      · have hI2 := hI.count k (cv + 1)
        have hstep : stepS S st x = (st.1.set k (cv + 1), placedL st.2 (cardOf x k (cv + 1))) := by unfold stepS; rw [HK.out, HSN.out, HCV.out, if_neg hge]
        have HST : Hid (runS S (i + 1) = (st.1.set k (cv + 1), placedL st.2 (cardOf x k (cv + 1)))) := by show _ = _; rw [HRun.out, hstep]
        clear hstep
        have HI2 : Hid (Inv1 w gc (st.1.set k (cv + 1)) st.2 ad N cap (wr.setCell ⟨gc, k, none⟩ (.int .i64 (cv + 1)))) := hI2
        clear hI2
        have hkl : k < (st.1.set k (cv + 1)).length := by rw [List.length_set, hcl]; exact hkx
        have hcnt : ∀ wX, Inv1 w gc (st.1.set k (cv + 1)) st.2 ad N cap wX → wX.cell? ⟨gc, k, none⟩ = some (.int .i64 (cv + 1)) := fun wX hX => by
          have := (irows_at hX.cnt k hkl).1
          rw [this]; simp [List.getD, hcl, hkx]
        have HCN : Hid (∀ wX, Inv1 w gc (st.1.set k (cv + 1)) st.2 ad N cap wX → wX.cell? ⟨gc, k, none⟩ = some (.int .i64 (cv + 1))) := hcnt
        clear hcnt
        go_upto_region 11 with fail
        generalize wr.setCell ⟨gc, k, none⟩ (.int .i64 (cv + 1)) = W at *
        clear c0 cc cf hI hMr
        have e1 := (HI2.out.bel.cell (p := ⟨b, o + 1, none⟩) hbl).trans d1
        have e2 := (HI2.out.bel.cell (p := ⟨b, o + 2, none⟩) hbl).trans d2
        have e3 := HCN.out _ HI2.out
        have hbW : b < W.heap.size := by have := HI2.out.bel.size; omega
        have hgW : gc < W.heap.size := HI2.out.cnt.lt
        have hsite : siteOf (k : Int) = siteL.getD k 0 := by
          unfold siteOf pickI; rw [if_neg (by omega)]
          congr 1; omega
        have HSI : Hid (siteOf (k : Int) = siteL.getD k 0) := hsite
        have ikk : I64 (k : Int) := ⟨by omega, by omega⟩
        clear hsite
        have HSof : Hid (∀ wX, Below W.heap.size W wX → wX.cell? ⟨b, o + 1, none⟩ = some (.int .i64 x.id) ∧ wX.cell? ⟨b, o + 2, none⟩ = some (.bool x.gone) ∧ wX.cell? ⟨gc, k, none⟩ = some (.int .i64 (cv + 1))) := fun wX hX =>
          ⟨(hX.cell (p := ⟨b, o + 1, none⟩) hbW).trans e1, (hX.cell (p := ⟨b, o + 2, none⟩) hbW).trans e2, (hX.cell (p := ⟨gc, k, none⟩) hgW).trans e3⟩
        go_cut [13] (fun v wx => ∃ g, v = .pointer (some ⟨g, 0, none⟩) ∧ W.heap.size ≤ g ∧ g < wx.heap.size ∧ Below W.heap.size W wx ∧ CardAt wx g (numOf x.id) (siteL.getD k 0) (cv + 1) x.gone ⟨#[]⟩)
        case first =>
          go_region_held3 (fun w' => w'.cell? ⟨b, o + 1, none⟩ = some (.int .i64 x.id) ∧ w'.cell? ⟨b, o + 2, none⟩ = some (.bool x.gone) ∧ w'.cell? ⟨gc, k, none⟩ = some (.int .i64 (cv + 1)))
            (first | (go_keep; done) | (refine HSof.out _ ?_; repeat (first | exact Below.refl _ _ | refine Below.drew ?_ | refine Below.alloc ?_ (by simp <;> omega) _ | refine Below.setCell ?_ (by simp <;> omega) _)))
            (first
              | (go_at_call 43; refine (number_keep _ _ q2).mono ?_; rintro e w' ⟨rfl, rfl⟩)
              | (go_at_call 44; refine (site_keep _ _ ikk).mono ?_; rintro e w' ⟨rfl, rfl⟩))
          all_goals go_wp2_with fail
          all_goals go_meet
          all_goals rw [← HSI.out]
          all_goals refine ⟨_, rfl, by omega, by simp <;> omega, ?_, ?_⟩
          all_goals first
            | ((repeat (first | exact Below.refl _ _ | refine Below.drew ?_ | refine Below.alloc ?_ (by simp <;> omega) _)); done)
            | (refine cardAt_of ?_; first | exact heap_new3 _ _ _ _ | exact heap_new2 _ _ _ _ | exact heap_new1 _ _ _ _)
        case rest =>
          obtain ⟨g, rfl, hg1, hg2, hbx, ⟨f0, f1, f2, f3, f4, ff⟩⟩ := hcut
          have hIx := HI2.out.step hbx
          have e4 := (hIx.bel.cell (p := ⟨b, o + 3, none⟩) hbl).trans d3
          have zg : gc < wc.heap.size := hIx.cnt.lt
          clear e1 e2 e3 HSof hbW
          generalize hsl : siteL.getD k 0 = sl at *
          have HSL : Hid (siteL.getD k 0 = sl) := hsl
          clear hsl
          have ff3 := ff 3
          have ff4 := ff 4
          have hr1 := hIx.two.c1
          by_cases hgone : x.gone = true
          · have hcd : cardOf x k (cv + 1) = ⟨numOf x.id, sl, cv + 1, true, ⟨#[]⟩⟩ := by unfold cardOf; rw [if_pos hgone, HSL.out, hgone]
            have HCD : Hid (cardOf x k (cv + 1) = ⟨numOf x.id, sl, cv + 1, true, ⟨#[]⟩⟩) := hcd
            clear hcd
            go_wp2_with fail
            rw [show (Value.agg #[.int .i64 (numOf x.id), .int .i64 sl, .int .i64 (cv + 1), .bool true, .string ⟨#[]⟩]) = cdV (cardOf x k (cv + 1)) by rw [HCD.out]]
            refine (placed_any st.2 (cardOf x k (cv + 1)) (gc + 1) ad N cap _ hIx.crd hIx.len (by have := hIx.len; omega)).mono ?_
            rintro e w5 ⟨ad', cap', N', rfl, hN', hv5, hb5⟩
            have hI5 := hIx.place hb5 hv5 hN'.symm
            have hr5 := (hIx.step hb5).two.c1
            have hf5 := (hIx.step hb5).two.cf 1
            clear hN'
            go_wp2_with fail
            go_roundw
            case rel => exact ⟨i + 1, ad', N', cap', by omega, by go_num, by rw [HST.out]; exact hI5⟩
            case measure => simp [intOf]; omega
          · have hgo : x.gone = false := by simpa using hgone
            have hcd : cardOf x k (cv + 1) = ⟨numOf x.id, sl, cv + 1, false, cutB x.text⟩ := by unfold cardOf; rw [if_neg hgone, HSL.out, hgo]
            have HCD : Hid (cardOf x k (cv + 1) = ⟨numOf x.id, sl, cv + 1, false, cutB x.text⟩) := hcd
            clear hcd
            go_wp2_with fail
            refine (cut_any x.text _).mono ?_
            rintro e w3 ⟨rfl, h3⟩
            obtain rfl := h3.symm
            generalize hct : cutB x.text = ct at *
            have hI3 := HI2.out.step (hbx.setCell (p := ⟨g, 4, none⟩) hg1 (.string ct))
            have hr3 := hI3.two.c1
            clear hIx hr1
            go_wp2_with fail
            rw [show (Value.agg #[.int .i64 (numOf x.id), .int .i64 sl, .int .i64 (cv + 1), .bool false, .string ct]) = cdV (cardOf x k (cv + 1)) by rw [HCD.out]]
            have hIx := hI3
            refine (placed_any st.2 (cardOf x k (cv + 1)) (gc + 1) ad N cap _ hIx.crd hIx.len (by have := hIx.len; omega)).mono ?_
            rintro e w5 ⟨ad', cap', N', rfl, hN', hv5, hb5⟩
            have hI5 := hIx.place hb5 hv5 hN'.symm
            have hr5 := (hIx.step hb5).two.c1
            have hf5 := (hIx.step hb5).two.cf 1
            clear hN'
            go_wp2_with fail
            go_roundw
            case rel => exact ⟨i + 1, ad', N', cap', by omega, by go_num, by rw [HST.out]; exact hI5⟩
            case measure => simp [intOf]; omega
    · obtain rfl : i = NN := by omega
      have hrun : runS S (min S.n 40) = runS S i := by rw [HNN.out]
      have HRun : Hid (runS S (min S.n 40) = runS S i) := hrun
      have hcl := runS_length S i
      have hcr := runS_cards S i
      have hcb := runS_counts S i
      clear hrun HNN HR
      generalize runS S i = st at *
      have hJ0 : Inv w wr gc (.slice none 0 0) (.slice ad N cap) (.slice none 0 0) wr := Inv.start hI.bel hI.two hI.lo hI.cnt.lt
      have HO : Hid (Own wr gc 3 1 (irows st.1)) := hI.cnt
      have HV : Hid (Vec wr (gc + 1) 59 5 ad N cap (ccells st.2)) := hI.crd
      have HL : Hid (st.2.length = N) := hI.len
      clear hI
      go_wp2_with fail
      rename World => ws
      go_loopw [14] (fun v wx => ∃ (k : Nat) (a1 : Option Addr) (N1 cap1 : Nat), k ≤ 8 ∧ v = .int .i64 k ∧ Inv w ws gc (.slice a1 N1 cap1) (.slice ad N cap) (.slice none 0 0) wx ∧ Vec wx ws.heap.size 57 2 a1 N1 cap1 (kcells (clocksTo st.1 k)) ∧ (clocksTo st.1 k).length = N1) (fun v _ => 8 - (intOf v).toNat)
      case atStart => exact ⟨0, none, 0, 0, Nat.zero_le _, rfl, hJ0, Vec.nil _ _ _ _, rfl⟩
      case round =>
        clear hJ0
        obtain ⟨k, a1, N1, cap1, hk, rfl, hJ, hV1, hL1⟩ := hrel
        have HL1 : Hid ((clocksTo st.1 k).length = N1) := hL1
        have hN1 : N1 ≤ k := by have := clocksTo_length st.1 k; omega
        clear hL1
        by_cases hlt : k < 8
        · obtain ⟨cc, cf⟩ := irows_at (hJ.own HO.out) k (by rw [hcl]; exact hlt)
          have xi := fun w' => Own.idx ec (P := Try.prog) (t := 45) (m := 1) 8 8 (by kernel_rfl) (by kernel_rfl) (k := k) hlt (k : Int) rfl w'
          have HC : Hid (clocksTo st.1 (k + 1) = clocksTo st.1 k ++ (if 0 < st.1.getD k 0 then [⟨siteL.getD k 0, st.1.getD k 0⟩] else [])) := rfl
          generalize hcv : st.1.getD k 0 = cv at *
          clear hcv
          by_cases hp : 0 < cv
          · have hC : clocksTo st.1 (k + 1) = clocksTo st.1 k ++ [⟨siteL.getD k 0, cv⟩] := by rw [HC.out, if_pos hp]
            have HC : Hid (clocksTo st.1 (k + 1) = clocksTo st.1 k ++ [⟨siteL.getD k 0, cv⟩]) := hC
            clear hC
            have hsite : siteOf (k : Int) = siteL.getD k 0 := by
              unfold siteOf pickI; rw [if_neg (by omega)]
              congr 1; omega
            have HSI : Hid (siteOf (k : Int) = siteL.getD k 0) := hsite
            clear hsite
            have ikk : I64 (k : Int) := ⟨by omega, by omega⟩
            go_upto_region 19 with fail
            rename World => W
            have hr0 := hJ.two.c0
            have hrf := hJ.two.cf 0
            have hBW : w.heap.size + 1 < W.heap.size := by have := hJ.sz; have := hJ.hi; have := hJ.lo; omega
            have hgW : gc < W.heap.size := by have := hJ.sz; have := hJ.hi; omega
            have hsz := hJ.sz
            have hgl := hJ.lo
            have HSof : Hid (∀ wX, Below ws.heap.size W wX → wX.cell? ⟨gc, k, none⟩ = some (.int .i64 cv)) := fun wX hX => (hX.cell (p := ⟨gc, k, none⟩) hJ.hi).trans cc
            have hr0a : ∀ o, (W.alloc o).cell? ⟨w.heap.size + 1, 0, none⟩ = some (.slice a1 N1 cap1) := fun o => (((Below.refl _ W).alloc (Nat.le_refl _) o).cell (p := ⟨w.heap.size + 1, 0, none⟩) hBW).trans hr0
            have hr0b : ∀ o o', ((W.alloc o).alloc o').cell? ⟨w.heap.size + 1, 0, none⟩ = some (.slice a1 N1 cap1) := fun o o' => ((((Below.refl _ W).alloc (Nat.le_refl _) o).alloc (by simp) o').cell (p := ⟨w.heap.size + 1, 0, none⟩) hBW).trans hr0
            have HV1 : Hid (∀ wX, Below W.heap.size W wX → Vec wX ws.heap.size 57 2 a1 N1 cap1 (kcells (clocksTo st.1 k))) := fun wX hX => hV1.keep hX
            clear hV1
            have hc0a : ∀ o, (W.alloc o).cell? ⟨gc, k, none⟩ = some (.int .i64 cv) := fun o => HSof.out _ ((Below.refl _ W).alloc (by omega) o)
            go_region_law
              (first
                | (go_simp; go_at_call 44; refine (site_keep _ _ ikk).mono ?_; rintro e w' ⟨rfl, rfl⟩; dsimp only)
                | (refine step_push (by rfl) _ _ 22 (by rfl) ws.heap.size 57 2 16 (.agg #[.int .i64 0, .int .i64 0]) Try.underlying22 (by kernel_rfl) rfl (by decide) a1 N1 cap1 _ (by rfl) (HV1.out _ ?_) _ _ [.int .i64 (siteOf (k : Int)), .int .i64 cv] (by rfl) rfl ?_ ?_ ?_ ?_ ?_ ?_; (repeat (first | exact Below.refl _ _ | refine Below.drew ?_ | refine Below.alloc ?_ (by first | omega | (simp; done) | (simp; omega)) _)); (exact new_at (heap_newL _ _ _)); (intro v h; simp at h; rcases h with rfl | rfl <;> rfl); (omega); (omega); (simp; omega); intro a2 cap2 w6 hv6 hb6' hs6; have hb6 : Below ws.heap.size W w6 := Below.trans (by repeat (first | exact Below.refl _ _ | refine Below.drew ?_ | refine Below.alloc ?_ (by first | omega | (simp; done) | (simp; omega)) _)) hb6'; have hf6 := (hJ.step hb6).two.cf 0; have hr6 := (hJ.step hb6).two.c0))
            all_goals
              have hJ6 := (hJ.step hb6).set0 (.slice a2 (N1 + 1) cap2)
              have hv7 := hv6.setBelow ⟨w.heap.size + 1, 0, none⟩ (by show w.heap.size + 1 < ws.heap.size; have := hJ.hi; omega) (.slice a2 (N1 + 1) cap2)
              go_wp2_with fail
              go_roundw
              case rel => exact ⟨k + 1, a2, N1 + 1, cap2, by omega, by go_num, hJ6, by rw [HC.out, kcells_append, ← HSI.out]; exact hv7, by rw [HC.out, List.length_append, HL1.out]; rfl⟩
              case measure => simp [intOf]; omega
          · have hC : clocksTo st.1 (k + 1) = clocksTo st.1 k := by rw [HC.out, if_neg hp, List.append_nil]
            have HC : Hid (clocksTo st.1 (k + 1) = clocksTo st.1 k) := hC
            clear hC
            go_wp2_with fail
            go_roundw
            case rel => exact ⟨k + 1, a1, N1, cap1, by omega, by go_num, hJ, by rw [HC.out]; exact hV1, by rw [HC.out]; exact HL1.out⟩
            case measure => simp [intOf]; omega
        · obtain rfl : k = 8 := by omega
          have hZ0 : ∀ wX, wX = wr → Inv w wX gc (.slice a1 N1 cap1) (.slice ad N cap) (.slice none 0 0) wX := fun wX e => by
            subst e; exact Inv.start hJ.bel hJ.two hJ.lo (by have := hJ.hi; have := hJ.sz; omega)
          have hZ := hZ0 wr rfl
          have HW1 : Hid (Vec wr (gc + 1) 57 2 a1 N1 cap1 (kcells (clocksTo st.1 8))) := hV1.mono hJ.hi
          have HW2 : Hid (Vec wr (gc + 1) 59 5 ad N cap (ccells st.2)) := hJ.vec HV.out (by omega)
          clear hJ hV1 hZ0 HV HO
          go_wp2_with fail
          rename World => ws3
          go_loopw [15] (fun v wx => ∃ (k : Nat) (a3 : Option Addr) (cap3 : Nat), k ≤ ne ∧ k ≤ 8 ∧ v = .int .i64 k ∧ Inv w ws3 gc (.slice a1 N1 cap1) (.slice ad N cap) (.slice a3 k cap3) wx ∧ Vec wx ws3.heap.size 61 2 a3 k cap3 (ecells (editsTo ef k))) (fun v _ => 8 - (intOf v).toNat)
          case atStart => exact ⟨0, none, 0, Nat.zero_le _, Nat.zero_le _, rfl, hZ, Vec.nil _ _ _ _⟩
          case round =>
            clear hZ
            obtain ⟨k, a3, cap3, hk, hk8, rfl, hJ, hV3⟩ := hrel
            by_cases hlt : k < ne ∧ k < 8
            · obtain ⟨hl1, hl2⟩ := hlt
              obtain ⟨b, o, hbl, hix, d0, d1, d2, d3⟩ := hE.wr ce hl1
              have q2 := ie k hl1
              have HC : Hid (editsTo ef (k + 1) = editsTo ef k ++ [⟨numOf (ef k).id, cutB (ef k).text⟩]) := editsTo_succ ef k
              generalize hx : ef k = x at *
              clear hx
              go_upto_region 23 with fail
              rename World => W
              have hr0 := hJ.two.c2
              have hrf := hJ.two.cf 2
              have hsz := hJ.sz
              have hgl := hJ.lo
              have hgh := hJ.hi
              have hBW : w.heap.size + 1 < W.heap.size := by omega
              have hbW : b < W.heap.size := by omega
              have e1 := (hJ.bel.cell (p := ⟨b, o + 1, none⟩) hbl).trans d1
              have e3 := (hJ.bel.cell (p := ⟨b, o + 3, none⟩) hbl).trans d3
              have HSof : Hid (∀ wX, Below ws3.heap.size W wX → wX.cell? ⟨b, o + 1, none⟩ = some (.int .i64 x.id) ∧ wX.cell? ⟨b, o + 3, none⟩ = some (.string x.text)) := fun wX hX => ⟨(hX.cell (p := ⟨b, o + 1, none⟩) (by show b < _; omega)).trans e1, (hX.cell (p := ⟨b, o + 3, none⟩) (by show b < _; omega)).trans e3⟩
              have hr0a : ∀ o, (W.alloc o).cell? ⟨w.heap.size + 1, 2, none⟩ = some (.slice a3 k cap3) := fun o => (((Below.refl _ W).alloc (Nat.le_refl _) o).cell (p := ⟨w.heap.size + 1, 2, none⟩) hBW).trans hr0
              have hr0b : ∀ o o', ((W.alloc o).alloc o').cell? ⟨w.heap.size + 1, 2, none⟩ = some (.slice a3 k cap3) := fun o o' => ((((Below.refl _ W).alloc (Nat.le_refl _) o).alloc (by simp) o').cell (p := ⟨w.heap.size + 1, 2, none⟩) hBW).trans hr0
              have HV1 : Hid (∀ wX, Below W.heap.size W wX → Vec wX ws3.heap.size 61 2 a3 k cap3 (ecells (editsTo ef k))) := fun wX hX => hV3.keep hX
              clear hV3 d0 d1 d2 d3
              generalize hct : cutB x.text = ct at *
              have HCT : Hid (cutB x.text = ct) := hct
              clear hct
              have hc0a : ∀ o', (W.alloc o').cell? ⟨b, o + 1, none⟩ = some (.int .i64 x.id) := fun o' => (HSof.out _ ((Below.refl _ W).alloc (by omega) o')).1
              have hc0b : ∀ o', (W.alloc o').cell? ⟨b, o + 3, none⟩ = some (.string x.text) := fun o' => (HSof.out _ ((Below.refl _ W).alloc (by omega) o')).2
              go_region_law
                (first
                  | (go_simp; go_at_call 43; refine (number_keep _ _ q2).mono ?_; rintro e w' ⟨rfl, rfl⟩; dsimp only)
                  | (go_simp; go_at_call 45; refine (cut_any x.text _).mono ?_; rintro e w' ⟨rfl, rfl⟩; rw [HCT.out]; dsimp only)
                  | (refine step_push (by rfl) _ _ 24 (by rfl) ws3.heap.size 61 2 24 (.agg #[.int .i64 0, .string ⟨#[]⟩]) Try.underlying24 (by kernel_rfl) rfl (by decide) a3 k cap3 _ (by rfl) (HV1.out _ ?_) _ _ [.int .i64 (numOf x.id), .string ct] (by rfl) rfl ?_ ?_ ?_ ?_ ?_ ?_; (repeat (first | exact Below.refl _ _ | refine Below.drew ?_ | refine Below.alloc ?_ (by first | omega | (simp; done) | (simp; omega)) _)); (exact new_at (heap_newL _ _ _)); (intro v h; simp at h; rcases h with rfl | rfl <;> rfl); (omega); (omega); (simp; omega); intro a2 cap2 w6 hv6 hb6' hs6; have hb6 : Below ws3.heap.size W w6 := Below.trans (by repeat (first | exact Below.refl _ _ | refine Below.drew ?_ | refine Below.alloc ?_ (by first | omega | (simp; done) | (simp; omega)) _)) hb6'; have hf6 := (hJ.step hb6).two.cf 2; have hr6 := (hJ.step hb6).two.c2))
              all_goals
                have hJ6 := (hJ.step hb6).set2 (.slice a2 (k + 1) cap2)
                have hv7 := hv6.setBelow ⟨w.heap.size + 1, 2, none⟩ (by show w.heap.size + 1 < ws3.heap.size; have := hJ.hi; omega) (.slice a2 (k + 1) cap2)
                go_wp2_with fail
                go_roundw
                case rel => (repeat apply Exists.intro); exact ⟨⟨k + 1, a2, cap2, by omega, by omega, by go_num, hJ6, by rw [HC.out, ecells_append]; exact hv7⟩, rfl⟩
                case measure => simp [intOf]; omega
            · have HKK : Hid (min ne 8 = k) := by show _ = _; omega
              have hd : k < 8 → ¬ k < ne := by omega
              obtain ⟨⟨v0, r0⟩, ⟨v1, r1⟩, ⟨v2, r2⟩, rf, c0, c1, c2, cf⟩ := hJ.two
              have rf0 := rf 0; have rf1 := rf 1; have rf2 := rf 2
              obtain ⟨X, hX, x0, x1, x2, xb, xv⟩ := set3' wr w.heap.size (.slice a1 N1 cap1) (.slice ad N cap) (.slice a3 k cap3) _ _ _ r0 r1 r2
              have HX : Hid (X = (((wr.setCell ⟨w.heap.size, 0, none⟩ (.slice a1 N1 cap1)).setCell ⟨w.heap.size, 1, none⟩ (.slice ad N cap)).setCell ⟨w.heap.size, 2, none⟩ (.slice a3 k cap3))) := hX
              clear hX
              have hlo1 : w.heap.size < gc + 1 := by have := hJ.lo; omega
              have H1 := xv _ _ _ _ _ _ _ (hJ.vec HW1.out (by omega)) hlo1
              have H2 := xv _ _ _ _ _ _ _ (hJ.vec HW2.out (by omega)) hlo1
              have H3 := xv _ _ _ _ _ _ _ (hV3.mono (show gc + 1 ≤ _ from hJ.hi)) hlo1
              have HB : Hid (Below w.heap.size w X) := xb _ hJ.bel
              obtain ⟨hH, hR⟩ := has_of H1 H2 H3 HL1.out HL.out (by simp [editsTo]) (by omega) (by have := HL.out; omega) (by omega)
              have hS : stateR S ne ef = repOf (clocksTo st.1 8) st.2 (editsTo ef k) := by unfold stateR; rw [HRun.out, HKK.out]
              have HH : Hid (Has X (stateR S ne ef) a1 ad a3) := by show Has _ _ _ _ _; rw [hS]; exact hH
              have HR2 : Hid (repV (stateR S ne ef) a1 ad a3 cap1 cap cap3 = .agg #[.slice a1 N1 cap1, .slice ad N cap, .slice a3 k cap3]) := by show _ = _; rw [hS]; exact hR
              clear hH hR hS H1 H2 H3 xb xv hV3 HW1 HW2 hJ
              by_cases hlt8 : k < 8
              · have hkn := hd hlt8
                clear hd hlt
                go_wp2_with fail
                rw [← HX.out]
                refine bodyPost_ret (v := .agg #[.slice a1 N1 cap1, .slice ad N cap, .slice a3 k cap3]) ?_ rfl ⟨a1, ad, a3, cap1, cap, cap3, by rw [HR2.out], HH.out, HB.out⟩
                simp [results, Try.results19, go_sem, x0, x1, x2]
              · clear hd hlt
                go_wp2_with fail
                all_goals
                  rw [← HX.out]
                  refine bodyPost_ret (v := .agg #[.slice a1 N1 cap1, .slice ad N cap, .slice a3 k cap3]) ?_ rfl ⟨a1, ad, a3, cap1, cap, cap3, by rw [HR2.out], HH.out, HB.out⟩
                  simp [results, Try.results19, go_sem, x0, x1, x2]
end Go.Proofs.Ytmafnghokmcijaa
