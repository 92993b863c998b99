/- Texts of the proof, one behind the other; what each holds is said at its head. -/
import Derived.Test.YtdjpkgaicmklmabPartChained8
import Derived.Test.YtdjpkgaicmklmabPartChained2
import Derived.Test.YtdjpkgaicmklmabPartChained0
import Derived.Test.YtdjpkgaicmklmabPartChained3
import Derived.Lib.AppendStr
import Derived.Test.YtdjpkgaicmklmabPartChained1
import Derived.Test.YtdjpkgaicmklmabPartChained4
import Derived.Test.YtdjpkgaicmklmabPartChained5
import Derived.Lib.ConvBytes
import Derived.Deep.RegionLaw
import Derived.Laws.BitsAllLaws
/- parcelkeep.Joined: called with any writes and numbers it answers true. -/
namespace Go.Proofs.Ytdjpkgaicmklmab
open Go.RowKit

/-- Replicas in variables. -/
structure Rv where
  g : Nat
  T : Tri
  a1 : Option Addr
  a2 : Option Addr
  a3 : Option Addr
  k1 : Nat
  k2 : Nat
  k3 : Nat
abbrev Rv.cells (v : Rv) : List Value := [.slice v.a1 v.T.K.length v.k1, .slice v.a2 v.T.C.length v.k2, .slice v.a3 v.T.E.length v.k3]
structure Rv.Ok (w : World) (B : Nat) (v : Rv) : Prop where
  b : Bx w v.g 28 v.cells
  l : Lists w B v.T.K v.T.C v.T.E v.a1 v.T.K.length v.k1 v.a2 v.T.C.length v.k2 v.a3 v.T.E.length v.k3
  few : v.T.K.length ≤ 1000 ∧ v.T.C.length ≤ 1000 ∧ v.T.E.length ≤ 1000
  lo : B ≤ v.g
theorem Rv.Ok.h {w : World} {B : Nat} {v : Rv} (h : v.Ok w B) : Has w v.T.rep v.a1 v.a2 v.a3 := (h.l.has (by have := h.few; omega) (by have := h.few; omega) (by have := h.few; omega)).1
theorem Rv.Ok.caps {w : World} {B : Nat} {v : Rv} (h : v.Ok w B) : v.T.K.length ≤ v.k1 ∧ v.T.C.length ≤ v.k2 := ⟨h.l.v1.cap_le, h.l.v2.cap_le⟩
theorem Rv.Ok.step {w w' : World} {B : Nat} {v : Rv} (h : v.Ok w B) (hb : Below w.heap.size w w') : v.Ok w' B := ⟨h.b.below hb h.b.lt, h.l.keep hb, h.few, h.lo⟩
theorem Rv.Ok.c {w : World} {B : Nat} {v : Rv} (h : v.Ok w B) : w.cell? ⟨v.g, 0, none⟩ = some (.slice v.a1 v.T.K.length v.k1) ∧ w.cell? ⟨v.g, 1, none⟩ = some (.slice v.a2 v.T.C.length v.k2) ∧ w.cell? ⟨v.g, 2, none⟩ = some (.slice v.a3 v.T.E.length v.k3) := ⟨h.b.cell 0, h.b.cell 1, h.b.cell 2⟩
theorem Lists.put {w w' : World} {B g : Nat} {cs : List Value} {K : List Ck} {C : List Cd} {E : List Ed} {a1 : Option Addr} {n1 c1 : Nat} {a2 : Option Addr} {n2 c2 : Nat} {a3 : Option Addr} {n3 c3 : Nat} (h : Lists w B K C E a1 n1 c1 a2 n2 c2 a3 n3 c3) (hx : Bx w g 28 cs) (hu : Upd g w w') : Lists w' B K C E a1 n1 c1 a2 n2 c2 a3 n3 c3 :=
  ⟨h.v1.updo hu (fun b hb e1 => hx.apart h.v1 (by decide) (by rw [hb]; simp [e1])), h.v2.updo hu (fun b hb e1 => hx.apart h.v2 (by decide) (by rw [hb]; simp [e1])), h.v3.updo hu (fun b hb e1 => hx.apart h.v3 (by decide) (by rw [hb]; simp [e1])), h.e1, h.e2, h.e3⟩
theorem Rv.Ok.put {w w' : World} {B g : Nat} {cs : List Value} {v : Rv} (h : v.Ok w B) (hx : Bx w g 28 cs) (hu : Upd g w w') (hg : v.g ≠ g) : v.Ok w' B := ⟨h.b.upd hu hg, h.l.put hx hu, h.few, h.lo⟩
theorem Rv.Ok.new {w : World} {B : Nat} {T : Tri} {a1 a2 a3 : Option Addr} {k1 k2 k3 : Nat} (h : Lists w B T.K T.C T.E a1 T.K.length k1 a2 T.C.length k2 a3 T.E.length k3) (hf : T.K.length ≤ 1000 ∧ T.C.length ≤ 1000 ∧ T.E.length ≤ 1000) (hB : B ≤ w.heap.size) : (⟨w.heap.size, T, a1, a2, a3, k1, k2, k3⟩ : Rv).Ok (w.alloc (.cells #[.slice a1 T.K.length k1, .slice a2 T.C.length k2, .slice a3 T.E.length k3] 28)) B :=
  ⟨Bx.new _ _ _, h.keep ((Below.refl _ _).alloc (Nat.le_refl _) _), hf, hB⟩

theorem pick_same {x : Int} (h0 : 0 ≤ x) (h1 : x < 60) : pickI x 60 = x := by unfold pickI; rw [if_neg (by omega)]; omega
theorem seen_range (n : Nat) (f : Nat → Int) (k : Nat) : 0 ≤ seenI n f k ∧ seenI n f k < 60 := by
  unfold seenI; split
  · exact pickI_lt _ _ (by decide)
  · exact ⟨by omega, by omega⟩
theorem most_seen (nw nm nn : Nat) (fw : Nat → Wr) (fm fn : Nat → Int) : Most ⟨nw, fw, nm, fm⟩ ⟨nw, fw, nn, fn⟩ ⟨nw, fw, 8, fun k => (mostTo nm nn fm fn 8).getD k 0⟩ := by
  have hl : ∀ k, k < 8 → limS ⟨nw, fw, 8, fun k => (mostTo nm nn fm fn 8).getD k 0⟩ k = max (limS ⟨nw, fw, nm, fm⟩ k) (limS ⟨nw, fw, nn, fn⟩ k) := by
    intro k hk
    have r1 := seen_range nm fm k
    have r2 := seen_range nn fn k
    show seenI 8 _ k = max (seenI nm fm k) (seenI nn fn k)
    unfold seenI
    rw [if_pos hk]
    simp only
    rw [mostTo_at nm nn fm fn k hk]
    unfold mostF
    rw [pick_same (by omega) (by omega)]
    rfl
  exact ⟨rfl, rfl, hl, fun _ => (seen_range _ _ _).1, fun _ => (seen_range _ _ _).1, fun _ => (seen_range _ _ _).1⟩
theorem Most.swap {S T M : Seen} (h : Most S T M) : Most T S M := ⟨h.w1.trans h.w2.symm, h.w2.symm, fun k hk => by rw [h.lim k hk]; omega, h.p2, h.p1, h.p3⟩
theorem Most.again {S T M : Seen} (h : Most S T M) : Most M T M := ⟨rfl, h.w2.trans h.w1.symm, fun k hk => by rw [h.lim k hk]; omega, h.p3, h.p2, h.p3⟩
theorem edits_ok (ef : Nat → Wr) (n : Nat) : EdOk (editsTo ef n) := by
  intro x hx
  simp only [editsTo, List.mem_map, List.mem_range] at hx
  obtain ⟨i, _, rfl⟩ := hx
  exact ⟨numOf_range _, cutB_size _⟩
theorem EdOk.both {a b : List Ed} (ha : EdOk a) (hb : EdOk b) : EdOk (bothE a b) := fun x hx => by
  rcases both_mem hx with h | h
  · exact ha x h
  · exact hb x h
theorem same_refl (R : Rep) : Same R R := ⟨rfl, rfl, rfl, fun _ _ => rfl, fun _ _ => rfl, fun _ _ => rfl⟩

/-- What State makes, as a triple of lists. -/
theorem state_tri {S : Seen} {aw am ae : Option Addr} {cw cm ce ne : Nat} {ef : Nat → Wr} {w : World} (hW : Ws w aw S.n S.w) (hM : Ns w am S.m S.f) (hE : Ws w ae ne ef) (kw : S.n ≤ cw) :
    Calls Try.prog 9 #[.slice aw S.n cw, .slice am S.m cm, .slice ae ne ce] w fun e w' =>
      ∃ a1 a2 a3 k1 k2 k3, e = .returned (.agg #[.slice a1 (triS S (min S.n 40) (editsTo ef (min ne 8))).K.length k1, .slice a2 (triS S (min S.n 40) (editsTo ef (min ne 8))).C.length k2, .slice a3 (triS S (min S.n 40) (editsTo ef (min ne 8))).E.length k3]) ∧ Has w' (triS S (min S.n 40) (editsTo ef (min ne 8))).rep a1 a2 a3 ∧ Lists w' w.heap.size (triS S (min S.n 40) (editsTo ef (min ne 8))).K (triS S (min S.n 40) (editsTo ef (min ne 8))).C (triS S (min S.n 40) (editsTo ef (min ne 8))).E a1 (triS S (min S.n 40) (editsTo ef (min ne 8))).K.length k1 a2 (triS S (min S.n 40) (editsTo ef (min ne 8))).C.length k2 a3 (triS S (min S.n 40) (editsTo ef (min ne 8))).E.length k3 ∧ Below w.heap.size w w' :=
  (state_own S aw am ae cw cm ce ne ef w hW.lies hM.lies hE.lies kw hW.few hM.few hE.few hW.ok hM.ok (fun i hi => (hE.ok i hi).2)).mono fun _ _ ⟨a1, a2, a3, k1, k2, k3, h1, h2, h3, h4⟩ => ⟨a1, a2, a3, k1, k2, k3, h1, h2, ⟨h3.v1, h3.v2, h3.v3, rfl, rfl, rfl⟩, h4⟩
theorem Ws.below {w w' : World} {a : Option Addr} {n : Nat} {f : Nat → Wr} (h : Ws w a n f) (hb : Below w.heap.size w w') : Ws w' a n f := ⟨h.lies.below hb, h.few, h.ok⟩
theorem Ns.below {w w' : World} {a : Option Addr} {n : Nat} {f : Nat → Int} (h : Ns w a n f) (hb : Below w.heap.size w w') : Ns w' a n f := ⟨h.lies.below hb, h.few, h.ok⟩
theorem Ws.nil (w : World) (f : Nat → Wr) : Ws w none 0 f := ⟨Or.inl rfl, by omega, fun i hi => by omega⟩
abbrev LT (w : World) (B : Nat) (T : Tri) (a1 a2 a3 : Option Addr) (k1 k2 k3 : Nat) : Prop := Lists w B T.K T.C T.E a1 T.K.length k1 a2 T.C.length k2 a3 T.E.length k3
/-- What Merge answers of states. -/
theorem pmerge_states {S T M : Seen} (h : Most S T M) {i : Nat} (hi : i ≤ 40) {D E : List Ed} (hD : D.length ≤ 16) (hE : E.length ≤ 16) (hD2 : EdOk D) (hE2 : EdOk E) (hb : (bothE D E).length ≤ 16)
    {a1 a2 a3 b1 b2 b3 : Option Addr} {k1 k2 k3 l1 l2 l3 : Nat} {w : World} (hA : Has w (triS S i D).rep a1 a2 a3) (hB : Has w (triS T i E).rep b1 b2 b3) (hk1 : (triS S i D).K.length ≤ k1) (hk2 : (triS S i D).C.length ≤ k2) :
    Calls Try.prog 20 #[.agg #[.slice a1 (triS S i D).K.length k1, .slice a2 (triS S i D).C.length k2, .slice a3 (triS S i D).E.length k3], .agg #[.slice b1 (triS T i E).K.length l1, .slice b2 (triS T i E).C.length l2, .slice b3 (triS T i E).E.length l3]] w fun e w' =>
      ∃ c1 c2 c3 d1 d2 d3, e = .returned (.tuple #[.agg #[.slice c1 (triS M i (bothE D E)).K.length d1, .slice c2 (triS M i (bothE D E)).C.length d2, .slice c3 (triS M i (bothE D E)).E.length d3], .int .i64 0]) ∧ Has w' (triS M i (bothE D E)).rep c1 c2 c3 ∧ Lists w' w.heap.size (triS M i (bothE D E)).K (triS M i (bothE D E)).C (triS M i (bothE D E)).E c1 (triS M i (bothE D E)).K.length d1 c2 (triS M i (bothE D E)).C.length d2 c3 (triS M i (bothE D E)).E.length d3 ∧ Below w.heap.size w w' := by
  refine (pmerge_any (triS S i D) (triS T i E) a1 a2 a3 b1 b2 b3 k1 k2 k3 l1 l2 l3 w hA hB hk1 hk2).mono ?_
  rintro e w' ⟨⟨c1, n1, d1, c2, n2, d2, c3, n3, d3, he, hL⟩, hbw⟩
  rw [merge_states h i hi D E hD hE hD2 hE2 hb] at he hL
  obtain ⟨f1, f2, f3⟩ := few_of (triS_chk M i hi (bothE D E) hb (hD2.both hE2))
  obtain ⟨v1, v2, v3, e1, e2, e3⟩ := hL
  simp only at e1 e2 e3
  subst e1 e2 e3
  have hL : Lists w' w.heap.size (triS M i (bothE D E)).K (triS M i (bothE D E)).C (triS M i (bothE D E)).E c1 (triS M i (bothE D E)).K.length d1 c2 (triS M i (bothE D E)).C.length d2 c3 (triS M i (bothE D E)).E.length d3 := ⟨v1, v2, v3, rfl, rfl, rfl⟩
  exact ⟨c1, c2, c3, d1, d2, d3, he, (hL.has (by omega) (by omega) (by omega)).1, hL, hbw⟩

set_option maxRecDepth 100000 in
set_option maxHeartbeats 8000000 in
theorem kjoined_any (nw nm nn nx ny : Nat) (fw fx fy : Nat → Wr) (fm fn : Nat → Int) (aw am an ax ay : Option Addr) (cw cm cn cx cy : Nat) (w : World)
    (hW : Ws w aw nw fw) (hM : Ns w am nm fm) (hN : Ns w an nn fn) (hX : Ws w ax nx fx) (hY : Ws w ay ny fy) (kw : nw ≤ cw) :
    Calls Try.prog 6 #[.slice aw nw cw, .slice am nm cm, .slice an nn cn, .slice ax nx cx, .slice ay ny cy] w fun e w' => e = .returned (.bool true) ∧ Below w.heap.size w w' := by
  have HW : Hid (∀ X, Below w.heap.size w X → Ws X aw nw fw ∧ Ns X am nm fm ∧ Ns X an nn fn ∧ Ws X ax nx fx ∧ Ws X ay ny fy) := fun X h => ⟨hW.below h, hM.below h, hN.below h, hX.below h, hY.below h⟩
  have hMost := most_seen nw nm nn fw fm fn
  have q1 : (editsTo fx (min nx 8)).length ≤ 8 := by simp [editsTo]; omega
  have q2 : (editsTo fy (min ny 8)).length ≤ 8 := by simp [editsTo]; omega
  have q3 := both_len (editsTo fy (min ny 8)) (editsTo fx (min nx 8))
  have q4 := both_len (editsTo fx (min nx 8)) (editsTo fy (min ny 8))
  have hXok := edits_ok fx (min nx 8)
  have hYok := edits_ok fy (min ny 8)
  have h40 : min nw 40 ≤ 40 := by omega
  clear hW hM hN hX hY
  have KA : Hid (∀ X, Below w.heap.size w X → Calls Try.prog 9 #[.slice aw nw cw, .slice am nm cm, .slice ax nx cx] X fun e w' => ∃ a1 a2 a3 k1 k2 k3, e = .returned (.agg #[.slice a1 (triS ⟨nw, fw, nm, fm⟩ (min nw 40) (editsTo fx (min nx 8))).K.length k1, .slice a2 (triS ⟨nw, fw, nm, fm⟩ (min nw 40) (editsTo fx (min nx 8))).C.length k2, .slice a3 (triS ⟨nw, fw, nm, fm⟩ (min nw 40) (editsTo fx (min nx 8))).E.length k3]) ∧ LT w' X.heap.size (triS ⟨nw, fw, nm, fm⟩ (min nw 40) (editsTo fx (min nx 8))) a1 a2 a3 k1 k2 k3 ∧ Below X.heap.size X w') := fun X h =>
    (state_tri (S := ⟨nw, fw, nm, fm⟩) (HW.out X h).1 (HW.out X h).2.1 (HW.out X h).2.2.2.1 kw).mono fun e w' ⟨a1, a2, a3, k1, k2, k3, h1, _, h3, h4⟩ => ⟨a1, a2, a3, k1, k2, k3, h1, h3, h4⟩
  have KB : Hid (∀ X, Below w.heap.size w X → Calls Try.prog 9 #[.slice aw nw cw, .slice an nn cn, .slice ay ny cy] X fun e w' => ∃ a1 a2 a3 k1 k2 k3, e = .returned (.agg #[.slice a1 (triS ⟨nw, fw, nn, fn⟩ (min nw 40) (editsTo fy (min ny 8))).K.length k1, .slice a2 (triS ⟨nw, fw, nn, fn⟩ (min nw 40) (editsTo fy (min ny 8))).C.length k2, .slice a3 (triS ⟨nw, fw, nn, fn⟩ (min nw 40) (editsTo fy (min ny 8))).E.length k3]) ∧ LT w' X.heap.size (triS ⟨nw, fw, nn, fn⟩ (min nw 40) (editsTo fy (min ny 8))) a1 a2 a3 k1 k2 k3 ∧ Below X.heap.size X w') := fun X h =>
    (state_tri (S := ⟨nw, fw, nn, fn⟩) (HW.out X h).1 (HW.out X h).2.2.1 (HW.out X h).2.2.2.2 kw).mono fun e w' ⟨a1, a2, a3, k1, k2, k3, h1, _, h3, h4⟩ => ⟨a1, a2, a3, k1, k2, k3, h1, h3, h4⟩
  have KO : Hid (∀ X, Below w.heap.size w X → Calls Try.prog 21 #[.slice am nm cm, .slice an nn cn] X fun e w' => ∃ g, e = .returned (.slice (some ⟨g, 0, none⟩) 8 8) ∧ Ns w' (some ⟨g, 0, none⟩) 8 (fun k => (mostTo nm nn fm fn 8).getD k 0) ∧ Below X.heap.size X w') := fun X h =>
    (most_any nm nn fm fn am an cm cn X (HW.out X h).2.1.lies (HW.out X h).2.2.1.lies (HW.out X h).2.1.ok (HW.out X h).2.2.1.ok).mono fun e w' ⟨g, h1, h2, h3⟩ => ⟨g, h1, ⟨h2.lies 8 _ (by simp [mostTo_len]) (fun i hi => by simp [List.getD, mostTo_len, hi]), by omega, fun i hi => by
      have := seen_range nm fm i; have := seen_range nn fn i
      show I64 ((mostTo nm nn fm fn 8).getD i 0); rw [mostTo_at nm nn fm fn i hi]; unfold mostF; exact ⟨by omega, by omega⟩⟩, h3⟩
  have KW : Hid (∀ X g, Below w.heap.size w X → Ns X (some ⟨g, 0, none⟩) 8 (fun k => (mostTo nm nn fm fn 8).getD k 0) → Calls Try.prog 9 #[.slice aw nw cw, .slice (some ⟨g, 0, none⟩) 8 8, .slice none 0 0] X fun e w' => ∃ a1 a2 a3 k1 k2 k3, e = .returned (.agg #[.slice a1 (triS ⟨nw, fw, 8, fun k => (mostTo nm nn fm fn 8).getD k 0⟩ (min nw 40) []).K.length k1, .slice a2 (triS ⟨nw, fw, 8, fun k => (mostTo nm nn fm fn 8).getD k 0⟩ (min nw 40) []).C.length k2, .slice a3 0 k3]) ∧ LT w' X.heap.size (triS ⟨nw, fw, 8, fun k => (mostTo nm nn fm fn 8).getD k 0⟩ (min nw 40) []) a1 a2 a3 k1 k2 k3 ∧ Below X.heap.size X w') := fun X g h h2 =>
    (state_tri (S := ⟨nw, fw, 8, fun k => (mostTo nm nn fm fn 8).getD k 0⟩) (ef := fun _ => fw 0) (HW.out X h).1 h2 (Ws.nil X _) kw).mono fun e w' ⟨a1, a2, a3, k1, k2, k3, h1, _, h3, h4⟩ => ⟨a1, a2, a3, k1, k2, k3, h1, h3, h4⟩
  clear HW
  have HMost : Hid (Most ⟨nw, fw, nm, fm⟩ ⟨nw, fw, nn, fn⟩ ⟨nw, fw, 8, fun k => (mostTo nm nn fm fn 8).getD k 0⟩) := hMost
  have HXok : Hid (EdOk (editsTo fx (min nx 8))) := hXok
  have HYok : Hid (EdOk (editsTo fy (min ny 8))) := hYok
  clear hMost hXok hYok
  generalize editsTo fx (min nx 8) = EX at *
  generalize editsTo fy (min ny 8) = EY at *
  generalize (⟨nw, fw, nm, fm⟩ : Seen) = SA at *
  generalize (⟨nw, fw, nn, fn⟩ : Seen) = SB at *
  generalize (⟨nw, fw, 8, fun k => (mostTo nm nn fm fn 8).getD k 0⟩ : Seen) = SM at *
  generalize min nw 40 = ii at *
  have HQ : Hid ((EX.length ≤ 8 ∧ EY.length ≤ 8) ∧ ((bothE EX EY).length ≤ 16 ∧ (bothE EY EX).length ≤ 16) ∧ ii ≤ 40) := ⟨⟨q1, q2⟩, ⟨by omega, by omega⟩, h40⟩
  clear q1 q2 q3 q4 h40
  go_enter Try.func6, Try.ntmps6
  go_wp2_with fail
  refine (KA.out _ (Below.refl _ _)).mono ?_
  rintro e w1 ⟨a1, a2, a3, k1, k2, k3, rfl, hA, hb1⟩
  have HF : Hid (∀ S D, D.length ≤ 16 → (triS S ii D).K.length ≤ 1000 ∧ (triS S ii D).C.length ≤ 1000 ∧ (triS S ii D).E.length ≤ 1000) := fun S D h => by
    have h1 := clocksTo_length (runS S ii).1 8
    have h2 := runS_cards S ii
    have := HQ.out.2.2
    refine ⟨?_, ?_, ?_⟩
    · show (clocksTo (runS S ii).1 8).length ≤ _; omega
    · show (runS S ii).2.length ≤ _; omega
    · show D.length ≤ _; omega
  have HA1 : Hid ((⟨w1.heap.size, triS SA ii EX, a1, a2, a3, k1, k2, k3⟩ : Rv).Ok (w1.alloc (.cells #[.slice a1 (triS SA ii EX).K.length k1, .slice a2 (triS SA ii EX).C.length k2, .slice a3 (triS SA ii EX).E.length k3] 28)) w.heap.size) := Rv.Ok.new hA (HF.out _ _ (by have := HQ.out; omega)) hb1.size
  have HB1 : Hid (Below w.heap.size w (w1.alloc (.cells #[.slice a1 (triS SA ii EX).K.length k1, .slice a2 (triS SA ii EX).C.length k2, .slice a3 (triS SA ii EX).E.length k3] 28))) := hb1.alloc hb1.size _
  clear hA hb1
  go_wp2_with fail
  generalize w1.alloc (.cells #[.slice a1 (triS SA ii EX).K.length k1, .slice a2 (triS SA ii EX).C.length k2, .slice a3 (triS SA ii EX).E.length k3] 28) = X1 at *
  generalize w1.heap.size = ga at *
  clear w1
  refine (KB.out _ HB1.out).mono ?_
  rintro e w2 ⟨b1, b2, b3, l1, l2, l3, rfl, hA, hb2⟩
  have hbw2 := HB1.out.trans (hb2.mono HB1.out.size)
  have hal : Below w2.heap.size w2 (w2.alloc (.cells #[.slice b1 (triS SB ii EY).K.length l1, .slice b2 (triS SB ii EY).C.length l2, .slice b3 (triS SB ii EY).E.length l3] 28)) := (Below.refl _ _).alloc (Nat.le_refl _) _
  have HB2 : Hid ((⟨w2.heap.size, triS SB ii EY, b1, b2, b3, l1, l2, l3⟩ : Rv).Ok (w2.alloc (.cells #[.slice b1 (triS SB ii EY).K.length l1, .slice b2 (triS SB ii EY).C.length l2, .slice b3 (triS SB ii EY).E.length l3] 28)) w.heap.size) := Rv.Ok.new (hA.mono HB1.out.size) (HF.out _ _ (by have := HQ.out; omega)) hbw2.size
  have HA2 : Hid ((⟨ga, triS SA ii EX, a1, a2, a3, k1, k2, k3⟩ : Rv).Ok (w2.alloc (.cells #[.slice b1 (triS SB ii EY).K.length l1, .slice b2 (triS SB ii EY).C.length l2, .slice b3 (triS SB ii EY).E.length l3] 28)) w.heap.size) := (HA1.out.step hb2).step hal
  have HW2 : Hid (Below w.heap.size w (w2.alloc (.cells #[.slice b1 (triS SB ii EY).K.length l1, .slice b2 (triS SB ii EY).C.length l2, .slice b3 (triS SB ii EY).E.length l3] 28))) := hbw2.trans (hal.mono hbw2.size)
  have HNE : Hid (ga ≠ w2.heap.size) := by have := (HA1.out.step hb2).b.lt; show _ ≠ _; simp only at this; omega
  clear hA hb2 hbw2 hal HA1 HB1 KA KB
  obtain ⟨x0, x1, x2⟩ := HA2.out.c
  obtain ⟨y0, y1, y2⟩ := HB2.out.c
  dsimp only at x0 x1 x2 y0 y1 y2
  go_wp2_with fail
  generalize w2.alloc (.cells #[.slice b1 (triS SB ii EY).K.length l1, .slice b2 (triS SB ii EY).C.length l2, .slice b3 (triS SB ii EY).E.length l3] 28) = X2 at *
  generalize w2.heap.size = gb at *
  clear w2
  refine (pmerge_states HMost.out HQ.out.2.2 (by have := HQ.out; omega) (by have := HQ.out; omega) HXok.out HYok.out HQ.out.2.1.1 HA2.out.h HB2.out.h HA2.out.caps.1 HA2.out.caps.2).mono ?_
  rintro e w3 ⟨r1, r2, r3, u1, u2, u3, rfl, -, hL, hb3⟩
  clear x0 x1 x2 y0 y1 y2 HNE
  have hbw := HW2.out.trans (hb3.mono HW2.out.size)
  have hal : Below w3.heap.size w3 (w3.alloc (.cells #[.slice r1 (triS SM ii (bothE EX EY)).K.length u1, .slice r2 (triS SM ii (bothE EX EY)).C.length u2, .slice r3 (triS SM ii (bothE EX EY)).E.length u3] 28)) := (Below.refl _ _).alloc (Nat.le_refl _) _
  have HR3 : Hid ((⟨w3.heap.size, triS SM ii (bothE EX EY), r1, r2, r3, u1, u2, u3⟩ : Rv).Ok (w3.alloc (.cells #[.slice r1 (triS SM ii (bothE EX EY)).K.length u1, .slice r2 (triS SM ii (bothE EX EY)).C.length u2, .slice r3 (triS SM ii (bothE EX EY)).E.length u3] 28)) w.heap.size) := Rv.Ok.new (hL.mono HW2.out.size) (HF.out _ _ (by have := HQ.out; omega)) hbw.size
  have HA3 : Hid ((⟨ga, triS SA ii EX, a1, a2, a3, k1, k2, k3⟩ : Rv).Ok (w3.alloc (.cells #[.slice r1 (triS SM ii (bothE EX EY)).K.length u1, .slice r2 (triS SM ii (bothE EX EY)).C.length u2, .slice r3 (triS SM ii (bothE EX EY)).E.length u3] 28)) w.heap.size) := (HA2.out.step hb3).step hal
  have HB3 : Hid ((⟨gb, triS SB ii EY, b1, b2, b3, l1, l2, l3⟩ : Rv).Ok (w3.alloc (.cells #[.slice r1 (triS SM ii (bothE EX EY)).K.length u1, .slice r2 (triS SM ii (bothE EX EY)).C.length u2, .slice r3 (triS SM ii (bothE EX EY)).E.length u3] 28)) w.heap.size) := (HB2.out.step hb3).step hal
  have HBW3 : Hid (Below w.heap.size w (w3.alloc (.cells #[.slice r1 (triS SM ii (bothE EX EY)).K.length u1, .slice r2 (triS SM ii (bothE EX EY)).C.length u2, .slice r3 (triS SM ii (bothE EX EY)).E.length u3] 28))) := hbw.trans (hal.mono hbw.size)
  clear hL hb3 hbw hal HW2 HA2 HB2
  obtain ⟨zA0, zA1, zA2⟩ := HA3.out.c
  obtain ⟨zB0, zB1, zB2⟩ := HB3.out.c
  obtain ⟨zR0, zR1, zR2⟩ := HR3.out.c
  dsimp only at zA0 zA1 zA2 zB0 zB1 zB2 zR0 zR1 zR2
  go_wp2_with fail
  generalize w3.alloc (.cells #[.slice r1 (triS SM ii (bothE EX EY)).K.length u1, .slice r2 (triS SM ii (bothE EX EY)).C.length u2, .slice r3 (triS SM ii (bothE EX EY)).E.length u3] 28) = X3 at *
  generalize w3.heap.size = gr at *
  clear w3
  clear zA0 zA1 zA2 zB0 zB1 zB2 zR0 zR1 zR2
  refine (pmerge_states HMost.out.swap HQ.out.2.2 (by have := HQ.out; omega) (by have := HQ.out; omega) HYok.out HXok.out HQ.out.2.1.2 HB3.out.h HA3.out.h HB3.out.caps.1 HB3.out.caps.2).mono ?_
  rintro e w4 ⟨s1, s2, s3, v1, v2, v3, rfl, -, hL, hb4⟩
  have hbw := HBW3.out.trans (hb4.mono HBW3.out.size)
  have hal : Below w4.heap.size w4 (w4.alloc (.cells #[.slice s1 (triS SM ii (bothE EY EX)).K.length v1, .slice s2 (triS SM ii (bothE EY EX)).C.length v2, .slice s3 (triS SM ii (bothE EY EX)).E.length v3] 28)) := (Below.refl _ _).alloc (Nat.le_refl _) _
  have HS4 : Hid ((⟨w4.heap.size, triS SM ii (bothE EY EX), s1, s2, s3, v1, v2, v3⟩ : Rv).Ok (w4.alloc (.cells #[.slice s1 (triS SM ii (bothE EY EX)).K.length v1, .slice s2 (triS SM ii (bothE EY EX)).C.length v2, .slice s3 (triS SM ii (bothE EY EX)).E.length v3] 28)) w.heap.size) := Rv.Ok.new (hL.mono HBW3.out.size) (HF.out _ _ (by have := HQ.out; omega)) hbw.size
  have HA4 : Hid ((⟨ga, triS SA ii EX, a1, a2, a3, k1, k2, k3⟩ : Rv).Ok (w4.alloc (.cells #[.slice s1 (triS SM ii (bothE EY EX)).K.length v1, .slice s2 (triS SM ii (bothE EY EX)).C.length v2, .slice s3 (triS SM ii (bothE EY EX)).E.length v3] 28)) w.heap.size) := (HA3.out.step hb4).step hal
  have HB4 : Hid ((⟨gb, triS SB ii EY, b1, b2, b3, l1, l2, l3⟩ : Rv).Ok (w4.alloc (.cells #[.slice s1 (triS SM ii (bothE EY EX)).K.length v1, .slice s2 (triS SM ii (bothE EY EX)).C.length v2, .slice s3 (triS SM ii (bothE EY EX)).E.length v3] 28)) w.heap.size) := (HB3.out.step hb4).step hal
  have HR4 : Hid ((⟨gr, triS SM ii (bothE EX EY), r1, r2, r3, u1, u2, u3⟩ : Rv).Ok (w4.alloc (.cells #[.slice s1 (triS SM ii (bothE EY EX)).K.length v1, .slice s2 (triS SM ii (bothE EY EX)).C.length v2, .slice s3 (triS SM ii (bothE EY EX)).E.length v3] 28)) w.heap.size) := (HR3.out.step hb4).step hal
  have HBW4 : Hid (Below w.heap.size w (w4.alloc (.cells #[.slice s1 (triS SM ii (bothE EY EX)).K.length v1, .slice s2 (triS SM ii (bothE EY EX)).C.length v2, .slice s3 (triS SM ii (bothE EY EX)).E.length v3] 28))) := hbw.trans (hal.mono hbw.size)
  clear hL hb4 hbw hal HBW3 HA3 HB3 HR3
  obtain ⟨zA0, zA1, zA2⟩ := HA4.out.c
  obtain ⟨zB0, zB1, zB2⟩ := HB4.out.c
  obtain ⟨zR0, zR1, zR2⟩ := HR4.out.c
  obtain ⟨zS0, zS1, zS2⟩ := HS4.out.c
  dsimp only at zA0 zA1 zA2 zB0 zB1 zB2 zR0 zR1 zR2 zS0 zS1 zS2
  go_wp2_with fail
  generalize w4.alloc (.cells #[.slice s1 (triS SM ii (bothE EY EX)).K.length v1, .slice s2 (triS SM ii (bothE EY EX)).C.length v2, .slice s3 (triS SM ii (bothE EY EX)).E.length v3] 28) = X4 at *
  generalize w4.heap.size = gs at *
  clear w4
  clear zA0 zA1 zA2 zB0 zB1 zB2 zR0 zR1 zR2 zS0 zS1 zS2
  refine (KO.out _ HBW4.out).mono ?_
  rintro e w5 ⟨gm, rfl, hNs, hb5⟩
  have HA5 : Hid ((⟨ga, triS SA ii EX, a1, a2, a3, k1, k2, k3⟩ : Rv).Ok w5 w.heap.size) := HA4.out.step hb5
  have HB5 : Hid ((⟨gb, triS SB ii EY, b1, b2, b3, l1, l2, l3⟩ : Rv).Ok w5 w.heap.size) := HB4.out.step hb5
  have HR5 : Hid ((⟨gr, triS SM ii (bothE EX EY), r1, r2, r3, u1, u2, u3⟩ : Rv).Ok w5 w.heap.size) := HR4.out.step hb5
  have HS5 : Hid ((⟨gs, triS SM ii (bothE EY EX), s1, s2, s3, v1, v2, v3⟩ : Rv).Ok w5 w.heap.size) := HS4.out.step hb5
  have HBW5 : Hid (Below w.heap.size w w5) := HBW4.out.trans (hb5.mono HBW4.out.size)
  clear HBW4 HA4 HB4 HR4 HS4
  clear hb5 KO
  go_wp2_with fail
  refine (KW.out _ gm HBW5.out hNs).mono ?_
  rintro e w6 ⟨e1, e2, e3, f1, f2, f3, rfl, hL, hb6⟩
  clear KW hNs
  have hbw := HBW5.out.trans (hb6.mono HBW5.out.size)
  have hal : Below w6.heap.size w6 (w6.alloc (.cells #[.slice e1 (triS SM ii []).K.length f1, .slice e2 (triS SM ii []).C.length f2, .slice e3 0 f3] 28)) := (Below.refl _ _).alloc (Nat.le_refl _) _
  have HW6 : Hid ((⟨w6.heap.size, triS SM ii [], e1, e2, e3, f1, f2, f3⟩ : Rv).Ok (w6.alloc (.cells #[.slice e1 (triS SM ii []).K.length f1, .slice e2 (triS SM ii []).C.length f2, .slice e3 0 f3] 28)) w.heap.size) := Rv.Ok.new (hL.mono HBW5.out.size) (HF.out _ _ (by simp)) hbw.size
  have HA6 : Hid ((⟨ga, triS SA ii EX, a1, a2, a3, k1, k2, k3⟩ : Rv).Ok (w6.alloc (.cells #[.slice e1 (triS SM ii []).K.length f1, .slice e2 (triS SM ii []).C.length f2, .slice e3 0 f3] 28)) w.heap.size) := (HA5.out.step hb6).step hal
  have HNEA : Hid (ga ≠ w6.heap.size) := by have := (HA5.out.step hb6).b.lt; show _ ≠ _; simp only at this; omega
  have HB6 : Hid ((⟨gb, triS SB ii EY, b1, b2, b3, l1, l2, l3⟩ : Rv).Ok (w6.alloc (.cells #[.slice e1 (triS SM ii []).K.length f1, .slice e2 (triS SM ii []).C.length f2, .slice e3 0 f3] 28)) w.heap.size) := (HB5.out.step hb6).step hal
  have HNEB : Hid (gb ≠ w6.heap.size) := by have := (HB5.out.step hb6).b.lt; show _ ≠ _; simp only at this; omega
  have HR6 : Hid ((⟨gr, triS SM ii (bothE EX EY), r1, r2, r3, u1, u2, u3⟩ : Rv).Ok (w6.alloc (.cells #[.slice e1 (triS SM ii []).K.length f1, .slice e2 (triS SM ii []).C.length f2, .slice e3 0 f3] 28)) w.heap.size) := (HR5.out.step hb6).step hal
  have HNER : Hid (gr ≠ w6.heap.size) := by have := (HR5.out.step hb6).b.lt; show _ ≠ _; simp only at this; omega
  have HS6 : Hid ((⟨gs, triS SM ii (bothE EY EX), s1, s2, s3, v1, v2, v3⟩ : Rv).Ok (w6.alloc (.cells #[.slice e1 (triS SM ii []).K.length f1, .slice e2 (triS SM ii []).C.length f2, .slice e3 0 f3] 28)) w.heap.size) := (HS5.out.step hb6).step hal
  have HNES : Hid (gs ≠ w6.heap.size) := by have := (HS5.out.step hb6).b.lt; show _ ≠ _; simp only at this; omega
  have HBW6 : Hid (Below w.heap.size w (w6.alloc (.cells #[.slice e1 (triS SM ii []).K.length f1, .slice e2 (triS SM ii []).C.length f2, .slice e3 0 f3] 28))) := hbw.trans (hal.mono hbw.size)
  clear hL hb6 hbw hal HBW5 HA5 HB5 HR5 HS5
  obtain ⟨zA0, zA1, zA2⟩ := HA6.out.c
  obtain ⟨zB0, zB1, zB2⟩ := HB6.out.c
  obtain ⟨zR0, zR1, zR2⟩ := HR6.out.c
  obtain ⟨zS0, zS1, zS2⟩ := HS6.out.c
  obtain ⟨zW0, zW1, zW2⟩ := HW6.out.c
  dsimp only at zA0 zA1 zA2 zB0 zB1 zB2 zR0 zR1 zR2 zS0 zS1 zS2 zW0 zW1 zW2
  go_wp2_with fail
  generalize w6.alloc (.cells #[.slice e1 (triS SM ii []).K.length f1, .slice e2 (triS SM ii []).C.length f2, .slice e3 0 f3] 28) = X6 at *
  generalize w6.heap.size = gw at *
  clear w6
  clear zA0 zA1 zA2 zB0 zB1 zB2 zR0 zR1 zR2 zS0 zS1 zS2 zW0 zW1 zW2
  refine (kboth_any EX EY a3 b3 (triS SA ii EX).E.length (triS SB ii EY).E.length k3 l3 _ (evec_lies HA6.out.l.v3 rfl) (evec_lies HB6.out.l.v3 rfl) rfl rfl (by have := HA6.out.few; simp only at this; omega) (by have := HB6.out.few; simp only at this; omega)).mono ?_
  rintro e w7 ⟨d7, cd7, Nd7, rfl, hN, hv, hb7⟩
  have hv7 := hv.mono HBW6.out.size
  clear hv
  have HA7 : Hid ((⟨ga, triS SA ii EX, a1, a2, a3, k1, k2, k3⟩ : Rv).Ok w7 w.heap.size) := HA6.out.step hb7
  have HB7 : Hid ((⟨gb, triS SB ii EY, b1, b2, b3, l1, l2, l3⟩ : Rv).Ok w7 w.heap.size) := HB6.out.step hb7
  have HR7 : Hid ((⟨gr, triS SM ii (bothE EX EY), r1, r2, r3, u1, u2, u3⟩ : Rv).Ok w7 w.heap.size) := HR6.out.step hb7
  have HS7 : Hid ((⟨gs, triS SM ii (bothE EY EX), s1, s2, s3, v1, v2, v3⟩ : Rv).Ok w7 w.heap.size) := HS6.out.step hb7
  have HW7 : Hid ((⟨gw, triS SM ii [], e1, e2, e3, f1, f2, f3⟩ : Rv).Ok w7 w.heap.size) := HW6.out.step hb7
  have HBW7 : Hid (Below w.heap.size w w7) := HBW6.out.trans (hb7.mono HBW6.out.size)
  clear HBW6 HA6 HB6 HR6 HS6 HW6
  clear hb7
  have hWb := HW7.out.b
  dsimp only at hWb
  obtain ⟨zA0, zA1, zA2⟩ := HA7.out.c
  obtain ⟨zB0, zB1, zB2⟩ := HB7.out.c
  obtain ⟨zR0, zR1, zR2⟩ := HR7.out.c
  obtain ⟨zS0, zS1, zS2⟩ := HS7.out.c
  dsimp only at zA0 zA1 zA2 zB0 zB1 zB2 zR0 zR1 zR2 zS0 zS1 zS2
  go_wp2_with (refine wpList_bput (by rfl) _ _ 26 (by rfl) gw 28 2 (by rfl) _ (.slice _ _ _) (by rfl) hWb (by kernel_rfl) (by simp) (by rfl) (by rfl) ?_; intro w9d7 hW9 hU9; dsimp only [List.set] at hW9; have HA8 : Hid ((⟨ga, triS SA ii EX, a1, a2, a3, k1, k2, k3⟩ : Rv).Ok w9d7 w.heap.size) := (HA7.out.put hWb hU9 HNEA.out); have HB8 : Hid ((⟨gb, triS SB ii EY, b1, b2, b3, l1, l2, l3⟩ : Rv).Ok w9d7 w.heap.size) := (HB7.out.put hWb hU9 HNEB.out); have HR8 : Hid ((⟨gr, triS SM ii (bothE EX EY), r1, r2, r3, u1, u2, u3⟩ : Rv).Ok w9d7 w.heap.size) := (HR7.out.put hWb hU9 HNER.out); have HS8 : Hid ((⟨gs, triS SM ii (bothE EY EX), s1, s2, s3, v1, v2, v3⟩ : Rv).Ok w9d7 w.heap.size) := (HS7.out.put hWb hU9 HNES.out); have HBB9 : Hid (Below w.heap.size w w9d7) := (hU9.below HBW7.out HW7.out.lo); have HN9 : Hid (Nd7 = (bothE EX EY).length) := hN; have HL9 := HW7.out.l.put hWb hU9; have HV9 := hv7.updo hU9 (fun b hb e1 => hWb.apart hv7 (by decide) (by rw [hb]; simp [e1])); have HLO : Hid (w.heap.size ≤ gw) := HW7.out.lo; obtain ⟨zzA0, zzA1, zzA2⟩ := HA8.out.c; dsimp only at zzA0 zzA1 zzA2; obtain ⟨zzB0, zzB1, zzB2⟩ := HB8.out.c; dsimp only at zzB0 zzB1 zzB2; obtain ⟨zzR0, zzR1, zzR2⟩ := HR8.out.c; dsimp only at zzR0 zzR1 zzR2; obtain ⟨zzS0, zzS1, zzS2⟩ := HS8.out.c; dsimp only at zzS0 zzS1 zzS2; have q0 := hW9.cell 0; have q1 := hW9.cell 1; have q2 := hW9.cell 2; dsimp only [List.getElem?_cons_zero, List.getElem?_cons_succ] at q0 q1 q2)
  clear zA0 zA1 zA2 zB0 zB1 zB2 zR0 zR1 zR2 zS0 zS1 zS2 zzA0 zzA1 zzA2 zzB0 zzB1 zzB2 zzR0 zzR1 zzR2 zzS0 zzS1 zzS2 q0 q1 q2 hv7 hWb HBW7 HA7 HB7 HR7 HS7 HW7
  obtain rfl : Nd7 = (bothE EX EY).length := HN9.out
  have HWW : Hid ((⟨gw, triS SM ii (bothE EX EY), e1, e2, d7, f1, f2, cd7⟩ : Rv).Ok w9d7 w.heap.size) := ⟨hW9, ⟨HL9.v1, HL9.v2, HV9, rfl, rfl, rfl⟩, HF.out _ _ (by have := HQ.out; omega), HLO.out⟩
  clear hW9 hU9 HL9 HV9 HN9 hN HLO
  refine (same_any (triS SM ii (bothE EX EY)).rep (triS SM ii (bothE EX EY)).rep r1 r2 r3 e1 e2 d7 u1 u2 u3 f1 f2 cd7 _ HR8.out.h HWW.out.h).mono ?_
  rintro e w10 ⟨p1, ⟨rfl, hs⟩, hb8⟩
  obtain rfl : p1 = true := hs.2 (same_refl _)
  clear hs
  have HA9 : Hid ((⟨ga, triS SA ii EX, a1, a2, a3, k1, k2, k3⟩ : Rv).Ok w10 w.heap.size) := HA8.out.step hb8
  have HB9 : Hid ((⟨gb, triS SB ii EY, b1, b2, b3, l1, l2, l3⟩ : Rv).Ok w10 w.heap.size) := HB8.out.step hb8
  have HR9 : Hid ((⟨gr, triS SM ii (bothE EX EY), r1, r2, r3, u1, u2, u3⟩ : Rv).Ok w10 w.heap.size) := HR8.out.step hb8
  have HS9 : Hid ((⟨gs, triS SM ii (bothE EY EX), s1, s2, s3, v1, v2, v3⟩ : Rv).Ok w10 w.heap.size) := HS8.out.step hb8
  have HW9 : Hid ((⟨gw, triS SM ii (bothE EX EY), e1, e2, d7, f1, f2, cd7⟩ : Rv).Ok w10 w.heap.size) := HWW.out.step hb8
  have HX9 : Hid (Below w.heap.size w w10) := HBB9.out.trans (hb8.mono HBB9.out.size)
  clear HBB9 hb8 HA8 HB8 HR8 HS8 HWW
  obtain ⟨zA0, zA1, zA2⟩ := HA9.out.c
  obtain ⟨zB0, zB1, zB2⟩ := HB9.out.c
  dsimp only at zA0 zA1 zA2 zB0 zB1 zB2
  go_wp2_with fail
  clear zA0 zA1 zA2 zB0 zB1 zB2
  refine (kboth_any EY EX b3 a3 (triS SB ii EY).E.length (triS SA ii EX).E.length l3 k3 _ (evec_lies HB9.out.l.v3 rfl) (evec_lies HA9.out.l.v3 rfl) rfl rfl (by have := HB9.out.few; simp only at this; omega) (by have := HA9.out.few; simp only at this; omega)).mono ?_
  rintro e w11 ⟨d8, cd8, Nd8, rfl, hN, hv, hb7⟩
  have hv7 := hv.mono HX9.out.size
  clear hv
  have HA10 : Hid ((⟨ga, triS SA ii EX, a1, a2, a3, k1, k2, k3⟩ : Rv).Ok w11 w.heap.size) := HA9.out.step hb7
  have HB10 : Hid ((⟨gb, triS SB ii EY, b1, b2, b3, l1, l2, l3⟩ : Rv).Ok w11 w.heap.size) := HB9.out.step hb7
  have HR10 : Hid ((⟨gr, triS SM ii (bothE EX EY), r1, r2, r3, u1, u2, u3⟩ : Rv).Ok w11 w.heap.size) := HR9.out.step hb7
  have HS10 : Hid ((⟨gs, triS SM ii (bothE EY EX), s1, s2, s3, v1, v2, v3⟩ : Rv).Ok w11 w.heap.size) := HS9.out.step hb7
  have HW10 : Hid ((⟨gw, triS SM ii (bothE EX EY), e1, e2, d7, f1, f2, cd7⟩ : Rv).Ok w11 w.heap.size) := HW9.out.step hb7
  have HX10 : Hid (Below w.heap.size w w11) := HX9.out.trans (hb7.mono HX9.out.size)
  clear HX9 HA9 HB9 HR9 HS9 HW9
  clear hb7
  have hWb := HW10.out.b
  dsimp only at hWb
  obtain ⟨zA0, zA1, zA2⟩ := HA10.out.c
  obtain ⟨zB0, zB1, zB2⟩ := HB10.out.c
  obtain ⟨zR0, zR1, zR2⟩ := HR10.out.c
  obtain ⟨zS0, zS1, zS2⟩ := HS10.out.c
  dsimp only at zA0 zA1 zA2 zB0 zB1 zB2 zR0 zR1 zR2 zS0 zS1 zS2
  go_wp2_with (refine wpList_bput (by rfl) _ _ 26 (by rfl) gw 28 2 (by rfl) _ (.slice _ _ _) (by rfl) hWb (by kernel_rfl) (by simp) (by rfl) (by rfl) ?_; intro w9d8 hW9 hU9; dsimp only [List.set] at hW9; have HA11 : Hid ((⟨ga, triS SA ii EX, a1, a2, a3, k1, k2, k3⟩ : Rv).Ok w9d8 w.heap.size) := (HA10.out.put hWb hU9 HNEA.out); have HB11 : Hid ((⟨gb, triS SB ii EY, b1, b2, b3, l1, l2, l3⟩ : Rv).Ok w9d8 w.heap.size) := (HB10.out.put hWb hU9 HNEB.out); have HR11 : Hid ((⟨gr, triS SM ii (bothE EX EY), r1, r2, r3, u1, u2, u3⟩ : Rv).Ok w9d8 w.heap.size) := (HR10.out.put hWb hU9 HNER.out); have HS11 : Hid ((⟨gs, triS SM ii (bothE EY EX), s1, s2, s3, v1, v2, v3⟩ : Rv).Ok w9d8 w.heap.size) := (HS10.out.put hWb hU9 HNES.out); have HBB9 : Hid (Below w.heap.size w w9d8) := (hU9.below HX10.out HW10.out.lo); have HN9 : Hid (Nd8 = (bothE EY EX).length) := hN; have HL9 := HW10.out.l.put hWb hU9; have HV9 := hv7.updo hU9 (fun b hb e1 => hWb.apart hv7 (by decide) (by rw [hb]; simp [e1])); have HLO : Hid (w.heap.size ≤ gw) := HW10.out.lo; obtain ⟨zzA0, zzA1, zzA2⟩ := HA11.out.c; dsimp only at zzA0 zzA1 zzA2; obtain ⟨zzB0, zzB1, zzB2⟩ := HB11.out.c; dsimp only at zzB0 zzB1 zzB2; obtain ⟨zzR0, zzR1, zzR2⟩ := HR11.out.c; dsimp only at zzR0 zzR1 zzR2; obtain ⟨zzS0, zzS1, zzS2⟩ := HS11.out.c; dsimp only at zzS0 zzS1 zzS2; have q0 := hW9.cell 0; have q1 := hW9.cell 1; have q2 := hW9.cell 2; dsimp only [List.getElem?_cons_zero, List.getElem?_cons_succ] at q0 q1 q2)
  clear zA0 zA1 zA2 zB0 zB1 zB2 zR0 zR1 zR2 zS0 zS1 zS2 zzA0 zzA1 zzA2 zzB0 zzB1 zzB2 zzR0 zzR1 zzR2 zzS0 zzS1 zzS2 q0 q1 q2 hv7 hWb HX10 HA10 HB10 HR10 HS10 HW10
  obtain rfl : Nd8 = (bothE EY EX).length := HN9.out
  have HWW : Hid ((⟨gw, triS SM ii (bothE EY EX), e1, e2, d8, f1, f2, cd8⟩ : Rv).Ok w9d8 w.heap.size) := ⟨hW9, ⟨HL9.v1, HL9.v2, HV9, rfl, rfl, rfl⟩, HF.out _ _ (by have := HQ.out; omega), HLO.out⟩
  clear hW9 hU9 HL9 HV9 HN9 hN HLO
  refine (same_any (triS SM ii (bothE EY EX)).rep (triS SM ii (bothE EY EX)).rep s1 s2 s3 e1 e2 d8 v1 v2 v3 f1 f2 cd8 _ HS11.out.h HWW.out.h).mono ?_
  rintro e w12 ⟨p2, ⟨rfl, hs⟩, hb8⟩
  obtain rfl : p2 = true := hs.2 (same_refl _)
  clear hs
  have HA12 : Hid ((⟨ga, triS SA ii EX, a1, a2, a3, k1, k2, k3⟩ : Rv).Ok w12 w.heap.size) := HA11.out.step hb8
  have HB12 : Hid ((⟨gb, triS SB ii EY, b1, b2, b3, l1, l2, l3⟩ : Rv).Ok w12 w.heap.size) := HB11.out.step hb8
  have HR12 : Hid ((⟨gr, triS SM ii (bothE EX EY), r1, r2, r3, u1, u2, u3⟩ : Rv).Ok w12 w.heap.size) := HR11.out.step hb8
  have HS12 : Hid ((⟨gs, triS SM ii (bothE EY EX), s1, s2, s3, v1, v2, v3⟩ : Rv).Ok w12 w.heap.size) := HS11.out.step hb8
  have HW12 : Hid ((⟨gw, triS SM ii (bothE EY EX), e1, e2, d8, f1, f2, cd8⟩ : Rv).Ok w12 w.heap.size) := HWW.out.step hb8
  have HX12 : Hid (Below w.heap.size w w12) := HBB9.out.trans (hb8.mono HBB9.out.size)
  clear HBB9 hb8 HA11 HB11 HR11 HS11 HWW
  obtain ⟨zR0, zR1, zR2⟩ := HR12.out.c
  obtain ⟨zB0, zB1, zB2⟩ := HB12.out.c
  dsimp only at zR0 zR1 zR2 zB0 zB1 zB2
  go_wp2_with fail
  clear zR0 zR1 zR2 zB0 zB1 zB2
  refine (pmerge_states HMost.out.again HQ.out.2.2 (by have := HQ.out; omega) (by have := HQ.out; omega) (HXok.out.both HYok.out) HYok.out (by rw [both_again]; exact HQ.out.2.1.1) HR12.out.h HB12.out.h HR12.out.caps.1 HR12.out.caps.2).mono ?_
  rw [both_again]
  rintro e w13 ⟨g1, g2, g3, h1, h2, h3, rfl, -, hL, hb13⟩
  clear HA12
  clear HB12
  clear HS12
  clear HW12
  have hbw := HX12.out.trans (hb13.mono HX12.out.size)
  have hal : Below w13.heap.size w13 (w13.alloc (.cells #[.slice g1 (triS SM ii (bothE EX EY)).K.length h1, .slice g2 (triS SM ii (bothE EX EY)).C.length h2, .slice g3 (triS SM ii (bothE EX EY)).E.length h3] 28)) := (Below.refl _ _).alloc (Nat.le_refl _) _
  have HG13 : Hid ((⟨w13.heap.size, triS SM ii (bothE EX EY), g1, g2, g3, h1, h2, h3⟩ : Rv).Ok (w13.alloc (.cells #[.slice g1 (triS SM ii (bothE EX EY)).K.length h1, .slice g2 (triS SM ii (bothE EX EY)).C.length h2, .slice g3 (triS SM ii (bothE EX EY)).E.length h3] 28)) w.heap.size) := Rv.Ok.new (hL.mono HX12.out.size) (HF.out _ _ (by have := HQ.out; omega)) hbw.size
  have HR13 : Hid ((⟨gr, triS SM ii (bothE EX EY), r1, r2, r3, u1, u2, u3⟩ : Rv).Ok (w13.alloc (.cells #[.slice g1 (triS SM ii (bothE EX EY)).K.length h1, .slice g2 (triS SM ii (bothE EX EY)).C.length h2, .slice g3 (triS SM ii (bothE EX EY)).E.length h3] 28)) w.heap.size) := (HR12.out.step hb13).step hal
  have HBW13 : Hid (Below w.heap.size w (w13.alloc (.cells #[.slice g1 (triS SM ii (bothE EX EY)).K.length h1, .slice g2 (triS SM ii (bothE EX EY)).C.length h2, .slice g3 (triS SM ii (bothE EX EY)).E.length h3] 28))) := hbw.trans (hal.mono hbw.size)
  clear hL hb13 hbw hal HX12 HR12
  obtain ⟨zG0, zG1, zG2⟩ := HG13.out.c
  obtain ⟨zR0, zR1, zR2⟩ := HR13.out.c
  dsimp only at zG0 zG1 zG2 zR0 zR1 zR2
  go_wp2_with fail
  generalize w13.alloc (.cells #[.slice g1 (triS SM ii (bothE EX EY)).K.length h1, .slice g2 (triS SM ii (bothE EX EY)).C.length h2, .slice g3 (triS SM ii (bothE EX EY)).E.length h3] 28) = X13 at *
  generalize w13.heap.size = gg at *
  clear w13
  clear zG0 zG1 zG2 zR0 zR1 zR2
  refine (same_any (triS SM ii (bothE EX EY)).rep (triS SM ii (bothE EX EY)).rep g1 g2 g3 r1 r2 r3 h1 h2 h3 u1 u2 u3 _ HG13.out.h HR13.out.h).mono ?_
  rintro e w14 ⟨p3, ⟨rfl, hs⟩, hb14⟩
  obtain rfl : p3 = true := hs.2 (same_refl _)
  clear hs
  go_wp2_with fail
  go_ret
  exact ⟨rfl, HBW13.out.trans (hb14.mono HBW13.out.size)⟩
end Go.Proofs.Ytdjpkgaicmklmab

/- Strings appended to lists of bytes of the call's own; bytes as a string; lists of strings. -/
namespace Go.Proofs.Ytdjpkgaicmklmab
open Go.RowKit

/-- Bytes as cells. -/
abbrev u8s (l : List UInt8) : List Value := l.map fun b => Value.int .u8 (b.toNat : Int)
theorem u8s_ints (l : List UInt8) : u8s l = (l.map fun b => (b.toNat : Int)).map (Value.int .u8) := by simp [u8s]
theorem byt_of_nat (b : UInt8) : byt (b.toNat : Int) = b := by simp [byt]
theorem bytes_ints (l : List UInt8) : (l.map fun b => (b.toNat : Int)).map byt = l := by
  rw [List.map_map]; conv => rhs; rw [← List.map_id l]
  exact List.map_congr_left (fun b _ => byt_of_nat b)
theorem strCells_str (c : List UInt8) : Lib.strCells (str c) = u8s c := by simp [Lib.strCells, str, u8s]

/-- Strings as cells. -/
abbrev strs (l : List (List UInt8)) : List Value := l.map fun s => Value.string (str s)
theorem strs_flat (l : List (List UInt8)) : (l.map fun s => [Value.string (str s)]).flatten = strs l := by
  induction l with
  | nil => rfl
  | cons a l ih => simp [strs] at ih ⊢; exact ih
theorem strs_lies {w : World} {B e : Nat} {ad : Option Addr} {n cap : Nat} {L : List (List UInt8)} (h : Vec w B e 1 ad n cap (strs L)) (hn : n = L.length) : Lies w ad n 1 (fun i => [.string (str (L.getD i []))]) := by
  rw [← strs_flat] at h
  refine Vec.lies (rows := L.map fun s => [Value.string (str s)]) h ?_ (by simp [hn]) _ ?_
  · intro r hr; obtain ⟨f, _, rfl⟩ := List.mem_map.1 hr; rfl
  · intro i hi; subst hn; simp [List.getD, hi]

theorem new_cellsD (w : World) (cs : List Value) (t : TypeId) : ∀ j u, cs[j]? = some u → (w.alloc (.cells cs.toArray t)).drew.cell? ((⟨w.heap.size, 0, none⟩ : Addr).add j) = some u := new_cells w cs t
theorem cells_below {X w' : World} (hb : Below X.heap.size X w') {b o : Nat} {cs : List Value} (h : ∀ j u, cs[j]? = some u → X.cell? ((⟨b, o, none⟩ : Addr).add j) = some u) (hl : b < X.heap.size) : ∀ j u, cs[j]? = some u → w'.cell? ((⟨b, o, none⟩ : Addr).add j) = some u := by
  intro j u hu
  rw [← h j u hu, addr_add]
  exact hb.cell (p := ⟨b, o + j, none⟩) hl
theorem wrap_u8 (i : Nat) (h : i < 256) : IntKind.u8.wrap (i : Int) = (i : Int) := by
  have e : (2 : Int) ^ IntKind.u8.bits = 256 := by decide
  have s : IntKind.u8.signed = false := rfl
  simp [IntKind.wrap, e, s]; omega

section
variable {P : Program} {w : World} {ops : Array Oper} {rest : List Oper} {o : Oper} {a : Act} {Q : Exit → Act → World → Prop}

/-- 'b = append(b, s...)', s a string. -/
theorem wpList_pushStr (hgd : o.guard = none) (s x : Operand) (t u : TypeId) (ho : o.op = .call { callee := .builtin .append, args := #[s, x], argTypes := #[t, u] })
    (B e : Nat) (ht : P.underlying t = some (.slice e)) (hu : P.underlying u = some .string) (hinfo : (P.info? e).map (fun i => (i.zero, i.size, i.bytes)) = some (some (.int .u8 0), 1, 1))
    (ad : Option Addr) (n cap : Nat) (ns c : List UInt8) (hs : a.eval s = .slice ad n cap) (hown : Vec w B e 1 ad n cap (u8s ns)) (hx : a.eval x = .string (str c))
    (hb : n + c.length ≤ 140737488355328) (hB : B ≤ w.heap.size) (N : Nat) (hN : n + c.length = N)
    (h : ∀ ad' cap' w', Vec w' B e 1 ad' N cap' (u8s (ns ++ c)) → Below B w w' → w.heap.size ≤ w'.heap.size → wpList P ops Q rest (a.put o.dst (.slice ad' N cap')) w') : wpList P ops Q (o :: rest) a w := by
  subst hN
  obtain ⟨i, hi, hzz⟩ := Option.map_eq_some_iff.1 hinfo
  simp only [Prod.mk.injEq] at hzz
  obtain ⟨hz, hsz, hby⟩ := hzz
  refine Lib.wpList_append_own_string w hgd s x t u ho B e i ht hu hi hz hsz hby (.slice ad n cap) n (u8s ns) hs hown (str c) hx (by rw [str_size]; unfold maxLen; omega) (by rw [str_size]; omega) hB ?_
  intro v' w' ho' hgr _
  have hbw : Below B w w' := (Below.refl _ _).grown hgr hB (fun k hk => (World.ownsRow.lt hown k hk).1)
  rw [str_size, strCells_str, ← List.map_append] at ho'
  rcases ho'.2 with ⟨hh, hz0⟩ | ⟨g, cap', cur, hh, hrest⟩
  · have hv : v' = .slice none (n + c.length) 0 := by rw [hh, hz0]
    rw [hv] at ho' ⊢
    exact h none 0 w' ho' hbw hgr.size
  · rw [hh] at ho' ⊢
    exact h _ cap' w' ho' hbw hgr.size

/-- 'string(b)' at a step of a region that draws its order. -/
theorem step_toString {K : Act → World → Prop} {E : Prop} (hgd : o.guard = none) (src dst e : TypeId) (x : Operand) (ho : o.op = .convert src dst x) (hs : P.underlying src = some (.slice e)) (he : P.underlying e = some (.int .u8)) (hd : P.underlying dst = some .string)
    (ad : Addr) (len cap : Nat) (hx : a.eval x = .slice (some ad) len cap) (ns : List Int) (hl : ns.length = len) (hc : ∀ j v, (ns.map (Value.int .u8))[j]? = some v → w.cell? (ad.add j) = some v)
    (h : K (a.put o.dst (.string (str (ns.map byt)))) w) : if Region.wanted o (yielded ops a.tmps) = true then Oper.wp P o a w K Q else E := by
  have hw : Region.wanted o (yielded ops a.tmps) = true := by simp [Region.wanted, hgd]
  rw [if_pos hw]
  have hrun := run_toString (P := P) w src dst e ad len cap ns hs he hd hl hc
  unfold Oper.wp
  simp [execOp, ho, hx, hrun, Result.andThen]
  exact h

/-- 'string(b)' of a list of bytes of the call's own, be it empty. -/
theorem wpList_toStr (hgd : o.guard = none) (src dst e : TypeId) (x : Operand) (ho : o.op = .convert src dst x) (hs : P.underlying src = some (.slice e)) (he : P.underlying e = some (.int .u8)) (hd : P.underlying dst = some .string)
    (B n cap : Nat) (ad : Option Addr) (hx : a.eval x = .slice ad n cap) (ns : List UInt8) (hown : Vec w B e 1 ad n cap (u8s ns))
    (h : wpList P ops Q rest (a.put o.dst (.string (str ns))) w) : wpList P ops Q (o :: rest) a w := by
  rw [u8s_ints] at hown
  rcases hown.2 with ⟨h2, hn⟩ | ⟨g, c, cur, hv, hB, hg, hnc, r⟩
  · simp at h2
    obtain ⟨rfl, rfl, rfl⟩ := h2
    have hl := hown.length
    have : ns = [] := List.eq_nil_of_length_eq_zero (by simpa using hl)
    subst this
    refine wpList_plain hgd fun K hK => ?_
    have hrun : (convert src dst (.slice none 0 0)).run P w = .ok (.string (str [])) w := by
      rw [run_convert_bytes_string w src dst e _ _ _ hs he hd]
      unfold Conv.bytesToString
      simp only [Sem.run_pure]
      rfl
    unfold Oper.wp
    simp [execOp, ho, hx, hrun, Result.andThen]
    exact hK _ _ h
  · simp at hv
    obtain ⟨rfl, rfl⟩ := hv
    refine wpList_toString hgd src dst e x ho hs he hd ⟨g, 0, none⟩ n cap hx (ns.map fun b => (b.toNat : Int)) (by have := hown.length; simpa using this) (World.ownsRow.cells hown rfl) ?_
    rw [bytes_ints]; exact h
end
end Go.Proofs.Ytdjpkgaicmklmab

/- Rows of strings of the call's own. -/
namespace Go.Proofs.Ytdjpkgaicmklmab
open Go.RowKit

/-- A row of strings. -/
abbrev srows (l : List (List UInt8)) : List (List Value) := l.map fun s => [Value.string (str s)]
theorem srows_flat (l : List (List UInt8)) : (srows l).flatten = strs l := strs_flat l
theorem srows_at {w : World} {g : Nat} {e : TypeId} {l : List (List UInt8)} (h : Own w g e 1 (srows l)) (k : Nat) (hk : k < l.length) : w.cell? ⟨g, k, none⟩ = some (.string (str (l.getD k []))) ∧ w.frozen? ⟨g, k, none⟩ = false := by
  constructor
  · have := h.cell k 0 (by simpa using hk) (by omega)
    rw [Nat.add_zero, Nat.mul_one] at this
    rw [this]
    simp [List.getD, hk]
  · simp [World.frozen?, h.block]
theorem srows_set {w : World} {g : Nat} {e : TypeId} {l : List (List UInt8)} (h : Own w g e 1 (srows l)) (k : Nat) (x : List UInt8) : Own (w.setCell ⟨g, k, none⟩ (.string (str x))) g e 1 (srows (l.set k x)) := by
  refine ⟨by intro r hr; obtain ⟨y, _, rfl⟩ := List.mem_map.1 hr; rfl, ?_⟩
  rw [heap_setCell_same w g k _ e _ h.block]
  congr 2
  rw [srows_flat, srows_flat, strs, strs, List.map_set]
  simp
theorem srows_lies {w : World} {g : Nat} {e : TypeId} {L l : List (List UInt8)} {ad : Option Addr} {N : Nat} (h : Own w g e 1 (srows L)) (had : ad = some ⟨g, 0, none⟩) (hN : N ≤ L.length) (hf : ∀ i, i < N → L.getD i [] = l.getD i []) : Lies w ad N 1 (fun i => [.string (str (l.getD i []))]) := by
  refine Or.inr ⟨g, 0, had, (Array.getElem?_eq_some_iff.1 h.block).1, fun i hi j v hj hv => ?_⟩
  obtain rfl : j = 0 := by omega
  rw [show 0 + i * 1 + 0 = i by omega, (srows_at h i (by omega)).1, hf i hi]
  simpa using hv
theorem srows_bx {w : World} {g : Nat} {e : TypeId} {l : List (List UInt8)} (h : Own w g e 1 (srows l)) : Bx w g e (strs l) := ⟨by have := h.block; rw [srows_flat] at this; exact this⟩
theorem bx_srows {w : World} {g : Nat} {e : TypeId} {l : List (List UInt8)} (h : Bx w g e (strs l)) : Own w g e 1 (srows l) :=
  ⟨by intro r hr; obtain ⟨y, _, rfl⟩ := List.mem_map.1 hr; rfl, by rw [srows_flat]; exact h.h⟩
theorem strs_at {l : List (List UInt8)} {k : Nat} (h : k < l.length) : (strs l)[k]? = some (.string (str (l.getD k []))) := by simp [strs, List.getD, h]
theorem strs_set (l : List (List UInt8)) (k : Nat) (x : List UInt8) : (strs l).set k (.string (str x)) = strs (l.set k x) := by rw [strs, strs, List.map_set]
theorem Vec.cell1 {w : World} {B e : Nat} {ad : Option Addr} {n cap : Nat} {xs : List Value} (h : Vec w B e 1 ad n cap xs) {P : Program} {t : TypeId}
    (ht : P.underlying t = some (.slice (P.elem t))) (hs : (P.info? (P.elem t)).map (·.size) = some 1) {i : Nat} (hi : i < n) (N : Int) (hN : N = (i : Int)) :
    ∃ g, ad = some ⟨g, 0, none⟩ ∧ B ≤ g ∧ g < w.heap.size ∧ (∀ w', (Instr.indexAt t (.slice ad n cap) (.int .i64 N)).run P w' = .ok (.pointer (some ⟨g, i, none⟩)) w') ∧
      w.cell? ⟨g, i, none⟩ = xs[i]? ∧ w.frozen? ⟨g, i, none⟩ = false ∧ (∀ u, Vec (w.setCell ⟨g, i, none⟩ u) B e 1 ad n cap (xs.set i u)) := by
  obtain ⟨g, rfl, hB, hl⟩ := h.form (by omega)
  refine ⟨g, rfl, hB, hl, fun w' => ?_, ?_, World.ownsRow.frozenAt h _, fun u => (World.ownsRow.stored h i u).1⟩
  · have := Own.idx (P := P) (t := t) (m := 1) (had := rfl) n cap ht hs hi N hN w' (g := g)
    rw [Nat.mul_one] at this; exact this
  · exact World.ownsRow.cellAt h i (by omega)
end Go.Proofs.Ytdjpkgaicmklmab

/- parcelkeep's volumes and shuffled, walked. -/
namespace Go.Proofs.Ytdjpkgaicmklmab
open Go.RowKit

/-- How long the volumes are. -/
def volN (size : Int) : Int := if 40 ≤ size ∧ size ≤ 4000 then size else 40 + pickI size 60
theorem volN_range (size : Int) : 40 ≤ volN size ∧ volN size ≤ 4000 := by
  unfold volN
  split
  · assumption
  · have := pickI_lt size 60 (by omega); omega

set_option maxRecDepth 100000 in
set_option maxHeartbeats 4000000 in
theorem volumes_any (size : Int) (w : World) (hs : I64 size) :
    Calls Try.prog 12 #[.int .i64 size] w fun e w' => e = .returned (.int .i64 (volN size)) ∧ w' = w := by
  obtain ⟨p1, p2⟩ := pickI_lt size 60 (by omega)
  have HS : Hid (I64 size) := hs
  clear hs
  by_cases h : 40 ≤ size ∧ size ≤ 4000
  · have E : Hid (volN size = size) := by show _ = _; unfold volN; rw [if_pos h]
    obtain ⟨h1, h2⟩ := h
    go_enter Try.func12, Try.ntmps12
    go_wp2_with fail
    go_ret
    exact ⟨by rw [E.out]; rfl, rfl⟩
  · have E : Hid (volN size = 40 + pickI size 60) := by show _ = _; unfold volN; rw [if_neg h]
    by_cases h1 : 40 ≤ size
    · have h2 : ¬ size ≤ 4000 := fun h2 => h ⟨h1, h2⟩
      clear h
      go_enter Try.func12, Try.ntmps12
      go_wp2_with fail
      refine (pick_any size 60 _ HS.out (by omega) (by omega)).mono ?_
      rintro e w' ⟨rfl, hw⟩
      subst hw
      generalize pickI size 60 = p at *
      go_wp2_with fail
      go_ret
      exact ⟨by rw [E.out]; rfl, rfl⟩
    · clear h
      go_enter Try.func12, Try.ntmps12
      go_wp2_with fail
      refine (pick_any size 60 _ HS.out (by omega) (by omega)).mono ?_
      rintro e w' ⟨rfl, hw⟩
      subst hw
      generalize pickI size 60 = p at *
      go_wp2_with fail
      go_ret
      exact ⟨by rw [E.out]; rfl, rfl⟩

theorem range_srows (l : List (List UInt8)) (N : Nat) (hN : N = l.length) : (List.range N).map (fun i => [Value.string (str (l.getD i []))]) ++ (List.replicate N [Value.string ⟨#[]⟩]).drop N = srows l := by
  subst hN
  rw [List.drop_of_length_le (by simp), List.append_nil]
  apply List.ext_getElem?
  intro i
  by_cases hi : i < l.length
  · simp [hi]
  · simp [hi]

/-- What shuffled makes of a list, by raw numbers. -/
def shufR (f : Nat → Int) (l : List (List UInt8)) (k : Nat) : List (List UInt8) := if l.length = 0 then l else shufL (fun i => (pickI (f i) l.length).toNat) l k
theorem shufR_perm (f : Nat → Int) (l : List (List UInt8)) (k : Nat) : (shufR f l k).Perm l := by
  unfold shufR
  split
  · exact List.Perm.refl _
  · exact shuf_perm _ _ (fun i => by have := pickI_lt (f i) l.length (by omega); omega) k

set_option maxRecDepth 100000 in
set_option maxHeartbeats 4000000 in
theorem shuffled_any (l : List (List UInt8)) (ad0 : Option Addr) (N cap0 : Nat) (n : Nat) (f : Nat → Int) (am : Option Addr) (cm : Nat) (w : World) (hL : Lies w ad0 N 1 (fun i => [.string (str (l.getD i []))])) (hN : N = l.length) (hb : N ≤ 1099511627776) (hM : Lies w am n 1 (iCells f)) (hn : n ≤ 140737488355328) (hI : ∀ i, i < n → I64 (f i)) :
    Calls Try.prog 14 #[.slice ad0 N cap0, .slice am n cm] w fun e w' => ∃ g ad, e = .returned (.slice ad N N) ∧ ad = some ⟨g, 0, none⟩ ∧ Own w' g 9 1 (srows (shufR f l n)) ∧ Below w.heap.size w w' := by
  have HN : Hid (N = l.length) := hN
  have HC := range_srows l N hN
  have HCO : Hid ((List.range N).map (fun i => [Value.string (str (l.getD i []))]) ++ (List.replicate N [Value.string ⟨#[]⟩]).drop N = srows l) := HC
  have HM : Hid (Lies w am n 1 (iCells f)) := hM
  have HI : Hid (∀ i, i < n → I64 (f i)) := hI
  clear hN HC hM hI
  go_enter Try.func14, Try.ntmps14
  go_wp2_with (first
    | (at_make; refine wpList_make_ones (by rfl) _ _ 33 (by rfl) 9 (.string ⟨#[]⟩) 16 Try.underlying33 (by kernel_rfl) rfl N _ ?_ (by rfl) (by rfl) ?_ ?_ ?_; (omega); (omega); (omega); intro g ad w1 he hg hl1 o1 hb1)
    | (refine wpList_copy_rows (by rfl) _ _ 33 33 (by rfl) 9 1 Try.underlying33 (by kernel_rfl) g ad he N _ N _ _ (by rfl) (by rfl) (fun i => [.string (str (l.getD i []))]) _ o1 ?_ ?_ (hL.below hb1) ?_ ?_ ?_; (simp); (omega); (intro i _; rfl); (intro i _ v hv; simp at hv; subst hv; rfl); intro w2 o2 u2))
  rw [HCO.out] at o2
  have hb2 := u2.below hb1 hg
  clear o1 hb1 u2 hl1
  have hx2 := srows_bx o2
  clear o2
  by_cases h0 : N = 0
  · have HR : Hid (shufR f l n = l) := by show _ = _; unfold shufR; rw [if_pos (by rw [← HN.out]; exact h0)]
    have HX2 : Hid (Bx w2 g 9 (strs l)) := hx2
    have hN0 : ¬ (0 < (N : Int)) := by omega
    clear h0 hx2
    by_cases hn0 : 0 < n
    · go_loopw [6, 7, 8, 9] (fun u _ _ _ wr => u = .int .i64 0 ∧ wr = w2) (fun _ _ _ _ _ => 0)
      case atStart => exact ⟨rfl, rfl⟩
      case round =>
        obtain ⟨rfl, hw⟩ := hrel
        subst hw
        go_wp2_with fail
        go_ret
        exact ⟨g, ad, rfl, he.out, by rw [HR.out]; exact bx_srows HX2.out, hb2⟩
    · go_loopw [6, 7, 8, 9] (fun u _ _ _ wr => u = .int .i64 0 ∧ wr = w2) (fun _ _ _ _ _ => 0)
      case atStart => exact ⟨rfl, rfl⟩
      case round =>
        obtain ⟨rfl, hw⟩ := hrel
        subst hw
        go_wp2_with fail
        go_ret
        exact ⟨g, ad, rfl, he.out, by rw [HR.out]; exact bx_srows HX2.out, hb2⟩
  · have HR : Hid (shufR f l n = shufL (fun i => (pickI (f i) l.length).toNat) l n) := by show _ = _; unfold shufR; rw [if_neg (by rw [← HN.out]; exact h0)]
    have hN0 : 0 < N := by omega
    go_loopw [6, 7, 8, 9] (fun u _ _ _ wr => ∃ i : Nat, i ≤ n ∧ u = .int .i64 i ∧ Bx wr g 9 (strs (shufL (fun i => (pickI (f i) l.length).toNat) l i)) ∧ Below w.heap.size w wr) (fun u _ _ _ _ => n - (intOf u).toNat)
    case atStart => exact ⟨0, by omega, rfl, hx2, hb2⟩
    case round =>
      obtain ⟨i, hi, rfl, ho, hbw⟩ := hrel
      by_cases hlt : i < n
      · obtain ⟨b, o, hbl, hix, hc⟩ := (HM.out.below hbw).at cm (P := Try.prog) (t := 23) (by kernel_rfl) (by kernel_rfl) hlt
        have c0 : wr.cell? ⟨b, o, none⟩ = some (.int .i64 (f i)) := hc 0 _ (by omega) rfl
        have HIi := HI.out i hlt
        have HII : Hid (I64 (f i)) := HIi
        obtain ⟨p1, p2⟩ := pickI_lt (f i) (N : Int) (by omega)
        obtain ⟨a, ha⟩ : ∃ a : Nat, pickI (f i) (N : Int) = (a : Int) := ⟨(pickI (f i) (N : Int)).toNat, by omega⟩
        have haN : a < N := by omega
        obtain ⟨q, hq⟩ : ∃ q, q = i % N := ⟨_, rfl⟩
        have hqN : q < N := by rw [hq]; exact Nat.mod_lt _ hN0
        have hmod : (i : Int) % (N : Int) = (q : Int) := by rw [hq]; simp
        have htm : Int.tmod (i : Int) (N : Int) = (q : Int) := by rw [hq]; exact Int.ofNat_tmod i N
        have HA : Hid (pickI (f i) (N : Int) = (a : Int)) := ha
        have HL1 : Hid ((shufL (fun i => (pickI (f i) l.length).toNat) l i).length = N) := by show _ = _; rw [shuf_len, HN.out]
        have HS : Hid (shufL (fun i => (pickI (f i) l.length).toNat) l (i + 1) = swapL (shufL (fun i => (pickI (f i) l.length).toNat) l i) a q) := by
          show _ = _
          simp only [shufL]
          rw [← HN.out, ha, hq]; rfl
        clear hc HIi p1 p2 ha hq
        generalize shufL (fun i => (pickI (f i) l.length).toNat) l i = S at *
        go_wp2_with fail
        refine (pick_any (f i) (N : Int) _ HII.out (by omega) (by omega)).mono ?_
        rintro e w' ⟨rfl, hw⟩
        subst hw
        rw [HA.out]
        have x1 := fun w' => Own.idx he (P := Try.prog) (t := 33) (m := 1) N N (by kernel_rfl) (by kernel_rfl) (k := a) haN (a : Int) rfl w'
        have x2 := fun w' => Own.idx he (P := Try.prog) (t := 33) (m := 1) N N (by kernel_rfl) (by kernel_rfl) (k := q) hqN (q : Int) rfl w'
        simp only [Nat.mul_one] at x1 x2
        have ca := (ho.cell a).trans (strs_at (by rw [HL1.out]; exact haN))
        have cq := (ho.cell q).trans (strs_at (by rw [HL1.out]; exact hqN))
        have hlS : (strs S).length = N := by simp [strs]; exact HL1.out
        clear c0 hix
        have HSW : Hid (swapL S a q = (S.set a (S.getD q [])).set q (S.getD a [])) := rfl
        generalize S.getD a [] = va at *
        generalize S.getD q [] = vq at *
        go_wp2_with (first
          | (refine wpList_bput (by rfl) _ _ 9 (by rfl) g 9 a (by rfl) _ (.string (str vq)) (by rfl) ho (by kernel_rfl) (by omega) (by rfl) (by rfl) ?_; intro w5 ho5 hu5; clear ca cq)
          | (refine wpList_bput (by rfl) _ _ 9 (by rfl) g 9 q (by rfl) _ (.string (str va)) (by rfl) ho5 (by kernel_rfl) (by rw [List.length_set]; omega) (by rfl) (by rfl) ?_; intro w6 ho6 hu6))
        rw [strs_set, strs_set] at ho6
        go_roundw
        case rel => exact ⟨i + 1, by omega, by go_num, by rw [HS.out, HSW.out]; exact ho6, hu6.below (hu5.below hbw hg) hg⟩
        case measure => simp [intOf]; omega
      · have hin : i = n := by omega
        subst hin
        go_wp2_with fail
        go_ret
        exact ⟨g, ad, rfl, he.out, by rw [HR.out]; exact bx_srows ho, hbw⟩
end Go.Proofs.Ytdjpkgaicmklmab

/- parcelkeep's turned, walked. -/
namespace Go.Proofs.Ytdjpkgaicmklmab
open Go.RowKit

/-- Bytes that were made of a string: the row bears a mark behind its end. -/
structure By (w : World) (g e : Nat) (s : List UInt8) (sp : Nat) : Prop where
  h : w.heap[g]? = some (.cells (u8s s ++ List.replicate sp (Value.int .u8 0)).toArray e (s.length + sp, s.length + sp + 1))
theorem By.lt {w : World} {g e : Nat} {s : List UInt8} {sp : Nat} (b : By w g e s sp) : g < w.heap.size := (Array.getElem?_eq_some_iff.1 b.h).1
theorem By.cell {w : World} {g e : Nat} {s : List UInt8} {sp : Nat} (b : By w g e s sp) (k : Nat) (hk : k < s.length) : w.cell? ⟨g, k, none⟩ = some (.int .u8 ((s.getD k 0).toNat : Int)) := by
  simp [World.cell?, b.h, List.getElem?_append, hk]
theorem By.frozen {w : World} {g e : Nat} {s : List UInt8} {sp : Nat} (b : By w g e s sp) (k : Nat) (hk : k < s.length) : w.frozen? ⟨g, k, none⟩ = false := by
  simp [World.frozen?, b.h]; omega
theorem By.drew {w : World} {g e : Nat} {s : List UInt8} {sp : Nat} (b : By w g e s sp) : By w.drew g e s sp := ⟨b.h⟩
theorem By.set {w : World} {g e : Nat} {s : List UInt8} {sp : Nat} (b : By w g e s sp) (k : Nat) (hk : k < s.length) (x : UInt8) : By (w.setCell ⟨g, k, none⟩ (.int .u8 (x.toNat : Int))) g e (s.set k x) sp := by
  have hl := b.lt
  have e1 : u8s (s.set k x) ++ List.replicate sp (Value.int .u8 0) = (u8s s ++ List.replicate sp (Value.int .u8 0)).set k (.int .u8 (x.toNat : Int)) := by
    rw [List.set_append_left _ _ (by simpa using hk), u8s, u8s, List.map_set]
  refine ⟨?_⟩
  rw [e1, List.length_set]
  have h2 := b.h
  simp only [World.setCell]
  rw [Array.getElem?_modify, if_pos rfl, h2]
  simp
theorem By.str {w : World} {g e : Nat} {s : List UInt8} {sp : Nat} (b : By w g e s sp) : ∀ j v, ((s.map fun x => (x.toNat : Int)).map (Value.int .u8))[j]? = some v → w.cell? ((⟨g, 0, none⟩ : Addr).add j) = some v := by
  intro j v hv
  have hj : j < s.length := by have := (List.getElem?_eq_some_iff.1 hv).1; simpa using this
  rw [addr_add, Nat.zero_add, b.cell j hj, ← hv]
  simp [List.getD, hj]

section
variable {P : Program} {w : World} {ops : Array Oper} {rest : List Oper} {o : Oper} {a : Act} {Q : Exit → Act → World → Prop}
/-- '[]byte(s)'. -/
theorem wpList_toBytes (hgd : o.guard = none) (src dst e : TypeId) (x : Operand) (ho : o.op = .convert src dst x) (hs : P.underlying src = some .string) (hd : P.underlying dst = some (.slice e)) (he : P.underlying e = some (.int .u8)) (s : List UInt8) (hx : a.eval x = .string (str s))
    (h : ∀ g ad cap sp w', Hid (ad = some ⟨g, 0, none⟩) → w.heap.size ≤ g → By w' g e s sp → Below w.heap.size w w' → wpList P ops Q rest (a.put o.dst (.slice ad s.length cap)) w') : wpList P ops Q (o :: rest) a w := by
  refine wpList_plain hgd fun K hK => ?_
  have hrun := Lib.run_convert_string_bytes (P := P) w src dst e (str s) hs hd he
  rw [str_size] at hrun
  unfold Oper.wp
  simp [execOp, ho, hx, hrun, Result.andThen]
  refine hK _ _ (h w.heap.size _ _ (grownCap w s.length 0 e - s.length) _ rfl (Nat.le_refl _) ⟨?_⟩ ?_)
  · have := Lib.bytesWorld_at_new w e (str s)
    have e2 : Lib.bytesCells w e (str s) = (u8s s ++ List.replicate (grownCap w s.length 0 e - s.length) (Value.int .u8 0)).toArray := by
      unfold Lib.bytesCells
      rw [str_size]
      simp [str, u8s]
    rw [e2] at this
    rw [this]
    simp only [List.size_toArray, List.length_append, List.length_map, List.length_replicate]
  · refine ⟨?_, ?_, ?_, by rw [Lib.bytesWorld_size]; omega, fun k hk => Lib.bytesWorld_at_old w e (str s) k hk⟩
    · simp only [Lib.bytesWorld, World.freeze]; rfl
    · simp only [Lib.bytesWorld, World.freeze]; rfl
    · simp only [Lib.bytesWorld, World.freeze]; rfl
end

theorem wrap_i64 (i : Int) (h : -9223372036854775808 ≤ i) (h2 : i ≤ 9223372036854775807) : IntKind.i64.wrap i = i := by
  have e : (2 : Int) ^ IntKind.i64.bits = 18446744073709551616 := by decide
  have s : IntKind.i64.signed = true := rfl
  have e2 : (2 : Int) ^ (IntKind.i64.bits - 1) = 9223372036854775808 := by decide
  simp [IntKind.wrap, e, e2, s]; omega
theorem flip_val (x : UInt8) (r : Nat) (hr : r < 8) : bits .xor .u8 (x.toNat : Int) (IntKind.u8.wrap (2 ^ (7 - r))) = ((flipB x r).toNat : Int) := by
  have hp : 2 ^ (7 - r) < 256 := by
    have : 2 ^ (7 - r) ≤ 2 ^ 7 := Nat.pow_le_pow_right (by omega) (by omega)
    omega
  have e1 : IntKind.u8.wrap ((2 : Int) ^ (7 - r)) = ((2 ^ (7 - r) : Nat) : Int) := by
    rw [show ((2 : Int) ^ (7 - r)) = ((2 ^ (7 - r) : Nat) : Int) by simp]
    exact wrap_u8 _ hp
  have hx := x.toNat_lt
  rw [e1, u8_xor_nat _ _ (by omega) hp]
  unfold flipB
  rw [UInt8.toNat_xor]
  have e : (UInt8.ofNat (2 ^ (7 - r))).toNat = 2 ^ (7 - r) := by
    rw [UInt8.toNat_ofNat']; exact Nat.mod_eq_of_lt hp
  rw [e]
/-- The bits that a mask has. -/
def bitM (mask : Int) (k : Nat) : Bool := bits .and .i64 (mask / 2 ^ (31 - k)) 1 == 1

set_option maxRecDepth 100000 in
set_option maxHeartbeats 4000000 in
theorem turned_any (s : List UInt8) (a : Nat) (mask : Int) (w : World) (hs : s.length ≤ 1099511627776) (ha : a < 8 * s.length) :
    Calls Try.prog 18 #[.string (str s), .int .i64 (a : Int), .int .i64 mask] w fun e w' => e = .returned (.string (str (turnB (bitM mask) a s 32))) ∧ Below w.heap.size w w' := by
  have HS : Hid (s.length ≤ 1099511627776) := hs
  go_enter Try.func18, Try.ntmps18
  go_wp2_with (refine wpList_toBytes (by rfl) 9 75 5 _ (by rfl) Try.underlying9 Try.underlying75 Try.underlying5 s (by rfl) ?_; intro g ad cap sp w1 he hg hy hb1)
  go_loopw [8, 9] (fun u _ wr => ∃ (k : Nat), k ≤ 32 ∧ u = .int .i64 k ∧ By wr g 5 (turnB (bitM mask) a s k) sp ∧ Below w.heap.size w wr) (fun u _ _ => 32 - (intOf u).toNat)
  case atStart => exact ⟨0, by omega, rfl, hy, hb1⟩
  case round =>
    clear hy hb1
    obtain ⟨k, hk, rfl, hy, hbw⟩ := hrel
    have HL : Hid ((turnB (bitM mask) a s k).length = s.length) := turn_len _ _ _ _
    by_cases hlt : k < 32
    · have hex : ((31 : Int) - (k : Int)).toNat = 31 - k := by omega
      have hq : ((a : Int) + (k : Int)) / 8 = (((a + k) / 8 : Nat) : Int) := by omega
      have hqt : Int.tdiv ((a : Int) + (k : Int)) 8 = (((a + k) / 8 : Nat) : Int) := by rw [Int.tdiv_eq_ediv_of_nonneg (by omega)]; exact hq
      have hr : ((a : Int) + (k : Int)) % 8 = (((a + k) % 8 : Nat) : Int) := by omega
      have hrt : Int.tmod ((a : Int) + (k : Int)) 8 = (((a + k) % 8 : Nat) : Int) := by rw [Int.tmod_eq_emod_of_nonneg (by omega)]; exact hr
      have HT : Hid (turnB (bitM mask) a s (k + 1) = if bitM mask k = true ∧ (a + k) / 8 < s.length then flipAt (turnB (bitM mask) a s k) (a + k) else turnB (bitM mask) a s k) := rfl
      cases hbit : bitM mask k with
      | false =>
        have hbb : (bits .and .i64 (mask / 2 ^ (31 - k)) 1 == 1) = false := hbit
        go_wp2_with fail
        go_roundw
        case rel => exact ⟨k + 1, by omega, by go_num, by rw [HT.out, hbit, if_neg (by simp)]; exact hy, hbw⟩
        case measure => simp [intOf]; omega
      | true =>
        have hbb : (bits .and .i64 (mask / 2 ^ (31 - k)) 1 == 1) = true := hbit
        by_cases hin : (a + k) / 8 < s.length
        · have HF : Hid (turnB (bitM mask) a s (k + 1) = flipAt (turnB (bitM mask) a s k) (a + k)) := by show _ = _; rw [HT.out, if_pos ⟨hbit, hin⟩]
          have x1 := fun w' => Own.idx he (P := Try.prog) (t := 75) (m := 1) s.length cap (by kernel_rfl) (by kernel_rfl) (k := (a + k) / 8) hin (((a + k) / 8 : Nat) : Int) rfl w'
          simp only [Nat.mul_one] at x1
          have c0 := hy.cell ((a + k) / 8) (by rw [HL.out]; exact hin)
          have f0 := hy.frozen ((a + k) / 8) (by rw [HL.out]; exact hin)
          have HY : Hid (∀ x, By (wr.drew.setCell ⟨g, (a + k) / 8, none⟩ (.int .u8 (x.toNat : Int))) g 5 ((turnB (bitM mask) a s k).set ((a + k) / 8) x) sp) := fun x => hy.drew.set _ (by rw [HL.out]; exact hin) x
          have HFL : Hid (flipAt (turnB (bitM mask) a s k) (a + k) = (turnB (bitM mask) a s k).set ((a + k) / 8) (flipB ((turnB (bitM mask) a s k).getD ((a + k) / 8) 0) ((a + k) % 8))) := rfl
          have hmr : (a + k) % 8 < 8 := Nat.mod_lt _ (by omega)
          generalize (turnB (bitM mask) a s k).getD ((a + k) / 8) 0 = x0 at *
          obtain ⟨q, hqq⟩ : ∃ q, q = (a + k) / 8 := ⟨_, rfl⟩
          obtain ⟨r, hrr⟩ : ∃ r, r = (a + k) % 8 := ⟨_, rfl⟩
          rw [← hqq] at hq hqt hin x1 c0 f0
          rw [← hrr] at hr hrt hmr
          have HQ : Hid (q = (a + k) / 8) := hqq
          have HR : Hid (r = (a + k) % 8) := hrr
          have hwq : IntKind.i64.wrap (q : Int) = (q : Int) := wrap_i64 _ (by omega) (by omega)
          have hw7 : IntKind.i64.wrap (7 - (r : Int)) = ((7 - r : Nat) : Int) := by rw [wrap_i64 _ (by omega) (by omega)]; omega
          clear hqq hrr hy HT hbit
          go_wp2_with fail
          go_region_law (fail)
          have HY2 : Hid (By (wr.setCell ⟨g, q, none⟩ (.int .u8 (bits .xor .u8 (x0.toNat : Int) (IntKind.u8.wrap (2 ^ (7 - r)))))).drew g 5 (turnB (bitM mask) a s (k + 1)) sp) := by
            show By _ _ _ _ _
            rw [HF.out, HFL.out, flip_val x0 r hmr, ← HQ.out, ← HR.out]
            have := HY.out (flipB x0 r)
            rw [← HQ.out] at this
            exact ⟨this.h⟩
          have HB2 : Hid (Below w.heap.size w (wr.setCell ⟨g, q, none⟩ (.int .u8 (bits .xor .u8 (x0.toNat : Int) (IntKind.u8.wrap (2 ^ (7 - r)))))).drew) := ((Upd.refl g wr).setCell ⟨g, q, none⟩ rfl _).drew.below hbw hg
          clear HY HF HFL
          generalize (wr.setCell ⟨g, q, none⟩ (.int .u8 (bits .xor .u8 (x0.toNat : Int) (IntKind.u8.wrap (2 ^ (7 - r)))))).drew = W2 at *
          go_wp2_with fail
          go_roundw
          case rel => exact ⟨k + 1, by omega, by go_num, HY2.out, HB2.out⟩
          case measure => simp [intOf]; omega
        · obtain ⟨q, hqq⟩ : ∃ q, q = (a + k) / 8 := ⟨_, rfl⟩
          rw [← hqq] at hq hqt
          have hin2 : ¬ (q : Int) < (s.length : Int) := by omega
          have hwq : IntKind.i64.wrap (q : Int) = (q : Int) := wrap_i64 _ (by omega) (by omega)
          have HIN : Hid (¬ (a + k) / 8 < s.length) := hin
          clear hqq hin
          go_wp2_with fail
          go_roundw
          case rel => exact ⟨k + 1, by omega, by go_num, by rw [HT.out, if_neg (fun h => HIN.out h.2)]; exact hy, hbw⟩
          case measure => simp [intOf]; omega
    · obtain rfl : k = 32 := by omega
      have HTL : Hid ((turnB (bitM mask) a s 32).length = s.length) := HL.out
      have hss : ((turnB (bitM mask) a s 32).map fun b => (b.toNat : Int)).length = s.length := by simp; exact HTL.out
      have had := he.out
      go_wp2_with (refine wpList_toString (by rfl) 75 9 5 _ (by rfl) Try.underlying75 Try.underlying5 Try.underlying9 ⟨g, 0, none⟩ s.length cap (by rw [← had]; rfl) ((turnB (bitM mask) a s 32).map fun b => (b.toNat : Int)) hss hy.str ?_; rw [bytes_ints])
      go_ret
      exact ⟨rfl, hbw⟩
end Go.Proofs.Ytdjpkgaicmklmab

/- The program's Split and what it calls, walked. -/
namespace Go.Proofs.Ytdjpkgaicmklmab
open Go.RowKit
attribute [local go_sem] str_size str_append mk_append_str str_append_mk

def strLen : Value → Nat
  | .string s => s.size
  | _ => 0
theorem cnt_is {m k i : Nat} (hm : 0 < m) (h1 : i = 0 ∨ i * m < k) (h2 : k ≤ (i + 1) * m) : cntB m k = i + 1 := by
  unfold cntB
  rw [Nat.add_mul] at h2
  by_cases hk : k ≤ m
  · rw [if_pos hk]
    rcases h1 with rfl | h1
    · rfl
    · rcases Nat.eq_zero_or_pos i with rfl | hi
      · rfl
      · have := Nat.mul_le_mul_right m hi; omega
  · rw [if_neg hk]
    have e1 : (i + 1) * m = i * m + m := by rw [Nat.add_mul, Nat.one_mul]
    have e2 : (i + 1 + 1) * m = i * m + m + m := by rw [Nat.add_mul, e1, Nat.one_mul]
    exact Nat.div_eq_of_lt_le (by rw [e1]; rcases h1 with rfl | h1 <;> omega) (by rw [e2]; omega)
theorem part_last {m i : Nat} {b : List UInt8} (h : b.length ≤ (i + 1) * m) : partB m i b = b.drop (i * m) := by
  unfold partB; rw [Nat.add_mul] at h; exact List.take_of_length_le (by simp; omega)

/-- The parts. -/
def partsB (m : Nat) (b : List UInt8) : List (List UInt8) := (List.range (cntB m b.length)).map fun i => partB m i b

set_option maxRecDepth 100000 in
set_option maxHeartbeats 4000000 in
theorem partsOf_any (b : List UInt8) (m : Nat) (w : World) (hb : b.length ≤ 6000) (hm : 26 ≤ m) (hm2 : m ≤ 4000) :
    Calls Try.prog 52 #[.string (str b), .int .i64 (m : Int)] w fun e w' => ∃ ad cap N, e = .returned (.slice ad N cap) ∧ N = cntB m b.length ∧ Vec w' w.heap.size 9 1 ad N cap (strs (partsB m b)) ∧ Below w.heap.size w w' := by
  have HB : Hid (b.length ≤ 6000) := hb
  have hV0 : Hid (Vec (w.alloc (.cells #[] 9)) w.heap.size 9 1 (some ⟨w.heap.size, 0, none⟩) 0 0 (strs [])) := Vec.lit w w.heap.size 9 1 0 [] (Nat.le_refl _) (by omega) rfl
  go_enter Try.func52, Try.ntmps52
  go_wp2_with fail
  go_loopw [0, 5] (fun u v wr => ∃ (i : Nat) (ad : Option Addr) (cap : Nat) (t : List UInt8), u = .string (str t) ∧ v = .slice ad i cap ∧ t = b.drop (i * m) ∧ (i = 0 ∨ i * m < b.length) ∧ i ≤ 6000 ∧ t.length ≤ 6000 ∧ Vec wr w.heap.size 9 1 ad i cap (strs ((List.range i).map fun k => partB m k b)) ∧ Below w.heap.size w wr) (fun u _ _ => strLen u)
  case atStart => exact ⟨0, _, _, b, rfl, rfl, by simp, Or.inl rfl, by omega, hb, hV0.out, (Below.refl _ _).alloc (Nat.le_refl _) _⟩
  case round =>
    obtain ⟨i, ad, cap, t, rfl, rfl, ht, hi, hi2, htl, hv, hbw⟩ := hrel
    have HT : Hid (t = b.drop (i * m)) := ht
    have HI : Hid (i = 0 ∨ i * m < b.length) := hi
    have hl : t.length = b.length - i * m := by rw [ht]; simp
    have HL : Hid (t.length = b.length - i * m) := hl
    have hz := hbw.size
    clear ht hi hl hb
    by_cases hlt : m < t.length
    · have hx1 : (str t).extract 0 m = str (partB m i b) := by rw [str_extract, HT.out]; simp [partB]
      have hx2 : (str t).extract m t.length = str (t.drop m) := by rw [str_extract, List.take_of_length_le (by simp)]
      have him : (i + 1) * m < b.length := by rw [Nat.add_mul]; have := HL.out; omega
      have hi3 : i + 1 ≤ 6000 := by
        have := Nat.le_mul_of_pos_right (i + 1) (show 0 < m by omega)
        have := HB.out; omega
      have HM : Hid ((i + 1) * m < b.length) := him
      clear him
      go_wp2_with (at_builtin; refine wpList_push (by rfl) _ _ 33 (by rfl) w.heap.size 9 1 16 (.string ⟨#[]⟩) Try.underlying33 (by kernel_rfl) rfl (by decide) ad i cap _ (by rfl) (hv.keep ((Below.refl _ _).alloc (Nat.le_refl _) _)) _ _ [.string (str (partB m i b))] (by rfl) rfl ?_ ?_ ?_ ?_ ?_ ?_; exact new_cells _ _ _; (simp [Value.oneCell']); (omega); (omega); (simp; omega); intro ad' cap' w' hv' hb' hs')
      have hb2 : Below w.heap.size w w' := (hbw.alloc hz _).trans hb'
      go_roundw
      case rel => exact ⟨i + 1, ad', cap', t.drop m, rfl, rfl, by rw [HT.out, List.drop_drop, Nat.add_mul]; congr 1; omega, Or.inr HM.out, hi3, by simp; omega, by rw [List.range_succ, List.map_append, strs, List.map_append]; exact hv', hb2⟩
      case measure => simp [strLen, str_size]; omega
    · have hle : b.length ≤ (i + 1) * m := by rw [Nat.add_mul]; have := HL.out; omega
      have HC : Hid (cntB m b.length = i + 1) := cnt_is (by omega) HI.out hle
      have HP : Hid (t = partB m i b) := by show _ = _; rw [part_last hle]; exact HT.out
      clear hle
      go_wp2_with (at_builtin; refine wpList_push (by rfl) _ _ 33 (by rfl) w.heap.size 9 1 16 (.string ⟨#[]⟩) Try.underlying33 (by kernel_rfl) rfl (by decide) ad i cap _ (by rfl) (hv.keep ((Below.refl _ _).alloc (Nat.le_refl _) _)) _ _ [.string (str t)] (by rfl) rfl ?_ ?_ ?_ ?_ ?_ ?_; exact new_cells _ _ _; (simp [Value.oneCell']); (omega); (omega); (simp; omega); intro ad' cap' w' hv' hb' hs')
      go_ret
      exact ⟨ad', cap', i + 1, rfl, HC.out.symm, by unfold partsB; rw [HC.out, List.range_succ, List.map_append, strs, List.map_append]; rw [HP.out] at hv'; exact hv', (hbw.alloc hz _).trans hb'⟩

/-- A volume's struct. -/
abbrev volS (i n : Int) (s p : List UInt8) : List Value := [.int .u8 i, .int .u8 n, .string (str s), .string (str p)]

set_option maxRecDepth 100000 in
set_option maxHeartbeats 4000000 in
theorem bytesOf_any (i n : Int) (C : Nat) (p : List UInt8) (w : World) (hp : p.length ≤ 8796093022000) :
    Calls Try.prog 53 #[.agg (volS i n (fourI C) p).toArray] w fun e w' => e = .returned (.string (str (volB i n C p))) ∧ Below w.heap.size w w' := by
  have E : Hid (86 :: 79 :: 76 :: 49 :: byt i :: byt n :: (fourI C ++ p) ++ fourI (crc pSum (86 :: 79 :: 76 :: 49 :: byt i :: byt n :: (fourI C ++ p))) = volB i n C p) := by show _ = _; unfold volB volH; simp
  have l4 : (fourI (C : Int)).length ≤ 4 := Nat.le_refl _
  generalize fourI (C : Int) = s at *
  have hb0 : Below w.heap.size w (w.alloc (.cells (volS i n s p).toArray 87)) := (Below.refl _ _).alloc (Nat.le_refl _) _
  have hb1 : Below w.heap.size w ((w.alloc (.cells (volS i n s p).toArray 87)).alloc (.cells #[.int .u8 i, .int .u8 n] 5)) := hb0.alloc hb0.size _
  have hBx := (Bx.new w 87 (volS i n s p).toArray).alloc (.cells #[.int .u8 i, .int .u8 n] 5)
  have c2 := hBx.cell 2
  have c3 := hBx.cell 3
  clear hBx hb0
  dsimp only [List.getElem?_cons_zero, List.getElem?_cons_succ] at c2 c3
  go_enter Try.func53, Try.ntmps53
  go_wp2_with (refine wpList_toString (by rfl) 75 9 5 _ (by rfl) Try.underlying75 Try.underlying5 Try.underlying9 _ _ _ (by rfl) [i, n] rfl ?_ ?_; exact new_cells2 _ _ _ _)
  generalize ((w.alloc (.cells (volS i n s p).toArray 87)).alloc (.cells #[.int .u8 i, .int .u8 n] 5)) = w1 at *
  clear c2 c3
  refine (sum_any (86 :: 79 :: 76 :: 49 :: byt i :: byt n :: (s ++ p)) _ (by simp; omega)).mono ?_
  rintro e w2 ⟨rfl, rfl⟩
  obtain ⟨c1, c2⟩ := crc_le pSum (by decide) (86 :: 79 :: 76 :: 49 :: byt i :: byt n :: (s ++ p))
  generalize crc pSum (86 :: 79 :: 76 :: 49 :: byt i :: byt n :: (s ++ p)) = C2 at *
  go_wp2_with fail
  refine (fourBytes_any _ _ c1 c2).mono ?_
  rintro e w3 ⟨rfl, hb3⟩
  have l5 : (fourI (C2 : Int)).length ≤ 4 := Nat.le_refl _
  generalize fourI (C2 : Int) = t at *
  go_wp2_with fail
  go_ret
  exact ⟨ret_str (by rw [← E.out]; simp), hb1.trans (hb3.mono hb1.size)⟩

/-- What Split answers. -/
def splitOk (b : List UInt8) (size : Int) : Prop := 40 ≤ size ∧ size ≤ 4000 ∧ b.length ≤ 6000
instance (b : List UInt8) (size : Int) : Decidable (splitOk b size) := by unfold splitOk; infer_instance
def splitL (b : List UInt8) (size : Int) : List (List UInt8) := if splitOk b size then volsB (size - 14).toNat b else []
def splitE (b : List UInt8) (size : Int) : Int := if splitOk b size then 0 else 12
theorem vols_take (m : Nat) (b : List UInt8) (i : Nat) (h : i < cntB m b.length) : (volsB m b).take (i + 1) = (volsB m b).take i ++ [volB i (cntB m b.length) (crc pSum b) (partB m i b)] := by
  rw [List.take_succ_eq_append_getElem (by rw [vols_len]; exact h)]
  congr 2
  have := vols_get m b i h
  rw [List.getD_eq_getElem?_getD, List.getElem?_eq_getElem (by rw [vols_len]; exact h)] at this
  exact this

set_option maxRecDepth 100000 in
set_option maxHeartbeats 4000000 in
theorem vsplit_any (b : List UInt8) (size : Int) (w : World) (hb : b.length ≤ 9223372036854775807) :
    Calls Try.prog 33 #[.string (str b), .int .i64 size] w fun e w' => ∃ ad cap N, e = .returned (.tuple #[.slice ad N cap, .int .i64 (splitE b size)]) ∧ N = (splitL b size).length ∧ Vec w' w.heap.size 9 1 ad N cap (strs (splitL b size)) ∧ Below w.heap.size w w' := by
  by_cases hok : splitOk b size
  · have HE : Hid (splitE b size = 0) := by show _ = _; simp [splitE, hok]
    obtain ⟨m, hm⟩ : ∃ m : Nat, size = (m : Int) + 14 := ⟨(size - 14).toNat, by have := hok.1; omega⟩
    have HL : Hid (splitL b size = volsB m b) := by show _ = _; unfold splitL; rw [if_pos hok, hm]; congr 1; omega
    obtain ⟨h1, h2, h3⟩ := hok
    subst hm
    have hm1 : 26 ≤ m := by omega
    have hm2 : m ≤ 4000 := by omega
    have hsub : ((m : Int) + 14 - 14) = (m : Int) := by omega
    have HM : Hid (26 ≤ m) := hm1
    have H3 : Hid (b.length ≤ 6000) := h3
    have hc := cnt_small m b.length hm1 h3
    have hc0 := cnt_pos m b.length (by omega)
    go_enter Try.func33, Try.ntmps33
    go_wp2_with fail
    refine (sum_any b _ (by omega)).mono ?_
    rintro e w1 ⟨rfl, hw1⟩
    have hb1 : Below w.heap.size w w1 := by rw [hw1]; exact Below.refl _ _
    clear hw1
    obtain ⟨c1, c2⟩ := crc_le pSum (by decide) b
    go_wp2_with fail
    refine (fourBytes_any _ _ c1 c2).mono ?_
    rintro e w2 ⟨rfl, hb2⟩
    go_wp2_with fail
    refine (partsOf_any b m _ H3.out hm1 hm2).mono ?_
    rintro e w3 ⟨ad3, cap3, N3, rfl, hN3, hv3, hb3⟩
    have hbw := hb1.trans ((hb2.trans (hb3.mono hb2.size)).mono hb1.size)
    have HN3 : Hid (N3 = cntB m b.length) := hN3
    have hN256 : N3 < 256 := by omega
    have HV3 : Hid (Vec w3 w.heap.size 9 1 ad3 N3 cap3 (strs (partsB m b))) := hv3.mono (Nat.le_trans hb1.size hb2.size)
    have HBW : Hid (Below w.heap.size w w3) := hbw
    obtain ⟨C, hC⟩ : ∃ C, C = crc pSum b := ⟨_, rfl⟩
    rw [← hC]
    have HC : Hid (crc pSum b = C) := hC.symm
    clear hC
    clear hv3 hbw hb1 hb2 hb3 c1 c2 hN3 hc hc0
    go_wp2_with fail
    go_loopw [9, 10, 11] (fun v u _ wr => ∃ (i : Nat) (ad : Option Addr) (cap : Nat), i ≤ N3 ∧ u = .int .i64 i ∧ v = .slice ad i cap ∧ Vec wr w3.heap.size 9 1 ad i cap (strs ((volsB m b).take i)) ∧ Below w3.heap.size w3 wr) (fun _ u _ _ => N3 - (intOf u).toNat)
    case atStart => exact ⟨0, _, _, by omega, rfl, rfl, Vec.lit w3 w3.heap.size 9 1 0 [] (Nat.le_refl _) (by omega) rfl, (Below.refl _ _).alloc (Nat.le_refl _) _⟩
    case round =>
      obtain ⟨i, ad, cap, hi, rfl, rfl, hv, hbr⟩ := hrel
      by_cases hlt : i < N3
      · obtain ⟨bb, o, hbl, hix, hcell⟩ := ((strs_lies HV3.out (by rw [HN3.out]; simp [partsB])).below hbr).at cap3 (P := Try.prog) (t := 33) (by kernel_rfl) (by kernel_rfl) hlt
        have hc0 : wr.cell? ⟨bb, o, none⟩ = some (.string (str ((partsB m b).getD i []))) := hcell 0 _ (by omega) rfl
        have hpi : (partsB m b).getD i [] = partB m i b := by
          have : i < cntB m b.length := by rw [← HN3.out]; exact hlt
          simp [partsB, List.getD, this]
        rw [hpi] at hc0
        have hpl : (partB m i b).length ≤ 6000 := by unfold partB; have := H3.out; simp; omega
        have HT : Hid ((volsB m b).take (i + 1) = (volsB m b).take i ++ [volB i N3 C (partB m i b)]) := by
          have := vols_take m b i (by rw [← HN3.out]; exact hlt)
          rw [HC.out, ← HN3.out] at this; exact this
        clear hcell hpi
        generalize partB m i b = p at *
        go_wp2_with fail
        refine (bytesOf_any (i : Int) (N3 : Int) C p _ (by omega)).mono ?_
        rintro e w5 ⟨rfl, hb5⟩
        have hv5 := hv.keep hb5
        have hbr5 := hbr.trans (hb5.mono hbr.size)
        have hz5 := hbr5.size
        clear hv hbr hb5
        generalize hV : volB (i : Int) (N3 : Int) C p = V at *
        clear hV
        go_wp2_with (at_builtin; refine wpList_push (by rfl) _ _ 33 (by rfl) w3.heap.size 9 1 16 (.string ⟨#[]⟩) Try.underlying33 (by kernel_rfl) rfl (by decide) ad i cap _ (by rfl) (hv5.keep ((Below.refl _ _).alloc (Nat.le_refl _) _)) _ _ [.string (str V)] (by rfl) rfl ?_ ?_ ?_ ?_ ?_ ?_; exact new_cells _ _ _; (simp [Value.oneCell']); (omega); (omega); (simp; omega); intro ad' cap' w' hv' hb' hs')
        go_roundw
        case rel => exact ⟨i + 1, ad', cap', by omega, by go_num, rfl, by rw [HT.out, strs, List.map_append]; exact hv', (hbr5.alloc hz5 _).trans hb'⟩
        case measure => simp [intOf]; omega
      · have e1 : i = N3 := by omega
        subst e1
        have HT : Hid ((volsB m b).take i = volsB m b) := List.take_of_length_le (by rw [vols_len, ← HN3.out]; exact Nat.le_refl _)
        go_wp2_with fail
        go_ret2
        exact ⟨ad, cap, i, by rw [HE.out]; rfl, by rw [HL.out, vols_len]; exact HN3.out, by rw [HL.out, ← HT.out]; exact hv.mono HBW.out.size, HBW.out.trans (hbr.mono HBW.out.size)⟩
  · have HE : Hid (splitE b size = 12) := by show _ = _; simp [splitE, hok]
    have HL : Hid (splitL b size = []) := by show _ = _; simp [splitL, hok]
    have hz := str_size b
    by_cases h1 : size < 40
    · clear hok hz
      go_enter Try.func33, Try.ntmps33
      go_wp2_with fail
      go_ret2
      refine ⟨none, 0, 0, by rw [HE.out]; rfl, by rw [HL.out]; rfl, by rw [HL.out]; exact Vec.nil _ _ _ _, Below.refl _ _⟩
    · by_cases h2 : 4000 < size
      · clear hok hz
        go_enter Try.func33, Try.ntmps33
        go_wp2_with fail
        go_ret2
        refine ⟨none, 0, 0, by rw [HE.out]; rfl, by rw [HL.out]; rfl, by rw [HL.out]; exact Vec.nil _ _ _ _, Below.refl _ _⟩
      · have h3 : 6000 < b.length := by
          rcases Nat.lt_or_ge 6000 b.length with h | h
          · exact h
          · exact absurd ⟨by omega, by omega, h⟩ hok
        clear hok hz
        go_enter Try.func33, Try.ntmps33
        go_wp2_with fail
        go_ret2
        refine ⟨none, 0, 0, by rw [HE.out]; rfl, by rw [HL.out]; rfl, by rw [HL.out]; exact Vec.nil _ _ _ _, Below.refl _ _⟩

set_option maxRecDepth 100000 in
set_option maxHeartbeats 4000000 in
theorem psplit_any (b : List UInt8) (size : Int) (w : World) (hb : b.length ≤ 9223372036854775807) :
    Calls Try.prog 11 #[.string (str b), .int .i64 size] w fun e w' => ∃ ad cap N, e = .returned (.tuple #[.slice ad N cap, .int .i64 (splitE b size)]) ∧ N = (splitL b size).length ∧ Vec w' w.heap.size 9 1 ad N cap (strs (splitL b size)) ∧ Below w.heap.size w w' := by
  go_enter Try.func11, Try.ntmps11
  go_wp2_with fail
  refine (vsplit_any b size _ hb).mono ?_
  rintro e w' ⟨ad, cap, N, rfl, rfl, h⟩
  go_wp2_with fail
  go_ret2
  exact ⟨ad, cap, _, rfl, rfl, h⟩
end Go.Proofs.Ytdjpkgaicmklmab

/- The reference's Split, walked. -/
namespace Go.Proofs.Ytdjpkgaicmklmab
open Go.RowKit
attribute [local go_sem] str_size str_append mk_append_str str_append_mk

end Go.Proofs.Ytdjpkgaicmklmab

/- Is it a volume? volumes.volumeOf and parcelref.volume, walked. -/
namespace Go.Proofs.Ytdjpkgaicmklmab
open Go.RowKit

/-- A volume's struct, by its bytes; the empty one. -/
abbrev voC (s : List UInt8) : List Value := volS (numV s) (cntV s) (sumV s) (bodyV s)
abbrev vo0 : List Value := [.int .u8 0, .int .u8 0, .string ⟨#[]⟩, .string ⟨#[]⟩]
def voOf (s : List UInt8) : List Value := if volOk s then voC s else vo0
theorem voOf_ok {s : List UInt8} (h : volOk s = true) : voOf s = voC s := by simp [voOf, h]
theorem voOf_no {s : List UInt8} (h : volOk s = false) : voOf s = vo0 := by simp [voOf, h]
theorem volOk_short {s : List UInt8} (h : s.length < 14) : volOk s = false := by simp [volOk]; intro h2; omega
theorem volOk_magic {s : List UInt8} (h : s.take 4 ≠ [86, 79, 76, 49]) : volOk s = false := by
  have : (s.take 4 == [86, 79, 76, 49]) = false := by rw [beq_eq_false_iff_ne]; exact h
  simp [volOk, this]
theorem volOk_num {s : List UInt8} (h : cntV s ≤ numV s) : volOk s = false := by
  have : decide (numV s < cntV s) = false := by rw [decide_eq_false_iff_not]; omega
  simp [volOk, this]
theorem volOk_sum {s : List UInt8} (h1 : 14 ≤ s.length) (h2 : s.take 4 = [86, 79, 76, 49]) (h3 : numV s < cntV s) : volOk s = (fourI (crc pSum (s.take (s.length - 4))) == s.drop (s.length - 4)) := by
  simp [volOk, h1, h2, h3]
theorem at_num {s : List UInt8} (h : 4 < (str s).size) : ((str s)[4]'h).toNat = numV s := by
  have : 4 < s.length := by rw [str_size] at h; exact h
  unfold numV; rw [List.getD_eq_getElem?_getD, List.getElem?_eq_getElem this]; rfl
theorem at_cnt {s : List UInt8} (h : 5 < (str s).size) : ((str s)[5]'h).toNat = cntV s := by
  have : 5 < s.length := by rw [str_size] at h; exact h
  unfold cntV; rw [List.getD_eq_getElem?_getD, List.getElem?_eq_getElem this]; rfl
theorem numV_lt (s : List UInt8) : numV s < 256 := UInt8.toNat_lt _
theorem cntV_lt (s : List UInt8) : cntV s < 256 := UInt8.toNat_lt _

set_option maxRecDepth 100000 in
set_option maxHeartbeats 4000000 in
theorem volumeOf_any (s : List UInt8) (w : World) (hs : s.length ≤ 1099511627776) :
    Calls Try.prog 80 #[.string (str s)] w fun e w' => e = .returned (.tuple #[.agg (voOf s).toArray, .bool (volOk s)]) ∧ Below w.heap.size w w' := by
  have hz := str_size s
  have HZ : Hid ((str s).size = s.length) := hz
  have hbb : (str s).size ≤ 1099511627776 := by omega
  obtain ⟨hR, hW, hB⟩ := one_box w 87 #[.int .u8 0, .int .u8 0, .string ⟨#[]⟩, .string ⟨#[]⟩]
  by_cases h14 : (str s).size < 14
  · have HN : Hid (volOk s = false) := volOk_short (by omega)
    have d1 : decide (((str s).size : Int) < 14) = true := by simp; omega
    clear hz
    go_enter Try.func80, Try.ntmps80
    go_wp2_with fail
    go_quiet (fail)
    replace hR := hR.drewN nq
    replace hB := below_drewN hB nq
    generalize (w.alloc (.cells #[.int .u8 0, .int .u8 0, .string ⟨#[]⟩, .string ⟨#[]⟩] 87)).drewN nq = W at *
    go_wp2_with (refine wpList_bstore (by rfl) _ _ _ (by rfl) w.heap.size 87 (by rfl) _ _ (by rfl) hR 4 (by rfl) (by kernel_rfl) (by rfl) (by intro x hx; simp at hx; rcases hx with rfl | rfl | rfl | rfl <;> rfl) ?_; intro w9 hR9 hU9; replace hR := hR9; replace hB := hU9.below hB (Nat.le_refl _); clear hR9 hU9)
    exact bodyPost_ret (v := .tuple #[.agg vo0.toArray, .bool false]) (results_box2 (by rfl) _ _ w.heap.size 87 _ _ _ (by rfl) hR (by rfl) Try.underlying87 (by rfl) 4 (by rfl) (by kernel_rfl)) rfl ⟨by rw [HN.out, voOf_no HN.out], hB⟩
  · have x0 : (str s).extract 0 4 = str (s.take 4) := by rw [str_extract]; simp
    have d1 : decide (((str s).size : Int) < 14) = false := by simp; omega
    have q4 : (4 : Int) ≤ ((str s).size : Int) := by omega
    have q4' : 4 ≤ (str s).size := by omega
    by_cases hm : s.take 4 = [86, 79, 76, 49]
    · have hmk : ((str (s.take 4)).toList == [86, 79, 76, 49]) = true := by rw [str_toList, hm]; rfl
      have l4 : 4 < (str s).size := by omega
      have l5 : 5 < (str s).size := by omega
      have e4 := at_num l4
      have e5 := at_cnt l5
      have n4 := numV_lt s
      have n5 := cntV_lt s
      by_cases hn : cntV s ≤ numV s
      · have HN : Hid (volOk s = false) := volOk_num hn
        have d2 : decide ((numV s : Int) ≥ (cntV s : Int)) = true := by simp; omega
        clear hz hm
        go_enter Try.func80, Try.ntmps80
        go_wp2_with fail
        go_quiet (fail)
        replace hR := hR.drewN nq
        replace hB := below_drewN hB nq
        generalize (w.alloc (.cells #[.int .u8 0, .int .u8 0, .string ⟨#[]⟩, .string ⟨#[]⟩] 87)).drewN nq = W at *
        go_wp2_with (refine wpList_bstore (by rfl) _ _ _ (by rfl) w.heap.size 87 (by rfl) _ _ (by rfl) hR 4 (by rfl) (by kernel_rfl) (by rfl) (by intro x hx; simp at hx; rcases hx with rfl | rfl | rfl | rfl <;> rfl) ?_; intro w9 hR9 hU9; replace hR := hR9; replace hB := hU9.below hB (Nat.le_refl _); clear hR9 hU9)
        exact bodyPost_ret (v := .tuple #[.agg vo0.toArray, .bool false]) (results_box2 (by rfl) _ _ w.heap.size 87 _ _ _ (by rfl) hR (by rfl) Try.underlying87 (by rfl) 4 (by rfl) (by kernel_rfl)) rfl ⟨by rw [HN.out, voOf_no HN.out], hB⟩
      · obtain ⟨n, hn4⟩ : ∃ n, (str s).size = n + 4 := ⟨(str s).size - 4, by omega⟩
        have d2 : decide ((numV s : Int) ≥ (cntV s : Int)) = false := by simp; omega
        have hsl : s.length - 4 = n := by omega
        have HN : Hid (volOk s = (fourI (crc pSum (s.take n)) == s.drop n)) := by
          have := volOk_sum (by omega) hm (show numV s < cntV s by omega); rw [hsl] at this; exact this
        have hx1 : (str s).extract 0 n = str (s.take n) := by rw [str_extract]; simp
        have hx2 : (str s).extract n (n + 4) = str (s.drop n) := by rw [str_extract, List.take_of_length_le (by simp; omega)]
        have hx3 : (str s).extract 6 10 = str (sumV s) := by rw [str_extract]; rfl
        have hx4 : (str s).extract 10 n = str (bodyV s) := by rw [str_extract]; unfold bodyV; rw [show n - 10 = s.length - 14 by omega]
        have hsub : ((n : Int) + 4 - 4) = (n : Int) := by omega
        have hlt : (s.take n).length ≤ 1099511627776 := by simp; omega
        have h10 : 10 ≤ n := by omega
        have HN4 : Hid ((str s).size = n + 4) := hn4
        have HX2 : Hid ((str s).extract n (n + 4) = str (s.drop n)) := hx2
        clear hz hm hsl hn4 hx2
        go_enter Try.func80, Try.ntmps80
        go_wp2_with fail
        go_quiet (fail)
        replace hR := hR.drewN nq
        replace hB := below_drewN hB nq
        generalize (w.alloc (.cells #[.int .u8 0, .int .u8 0, .string ⟨#[]⟩, .string ⟨#[]⟩] 87)).drewN nq = W at *
        have hn4 := HN4.out
        have hx2 := HX2.out
        clear d1 d2 q4 q4' h14
        go_wp2_with fail
        refine (sum_any (s.take n) _ (by omega)).mono ?_
        rintro e w1 ⟨rfl, hw1⟩
        subst hw1
        obtain ⟨c1, c2⟩ := crc_le pSum (by decide) (s.take n)
        have hle2 : (n : Int) ≤ (n : Int) + 4 := by omega
        have h10' : (10 : Int) ≤ (n : Int) := by omega
        have h10a : (10 : Int) ≤ (n : Int) + 4 := by omega
        have h4a : (4 : Int) < (n : Int) + 4 := by omega
        have h5a : (5 : Int) < (n : Int) + 4 := by omega
        generalize hW1 : w1 = W1 at *
        clear hW1
        by_cases hq : fourI (crc pSum (s.take n)) = s.drop n
        · have hqb : ((str (s.drop n)).toList == (str (fourI (crc pSum (s.take n)))).toList) = true := by rw [str_beq, hq]; simp
          replace HN : Hid (volOk s = true) := by show _ = _; rw [HN.out, hq]; simp
          clear hq
          go_wp2_with fail
          go_region_law (go_simp; go_at_call 50; refine (fourBytes_any _ _ c1 c2).mono ?_; rintro e w' ⟨rfl, hb'⟩; dsimp only)
          have hD := below_drewN (Below.refl W1.heap.size W1) 1
          replace hb' := hD.trans (hb'.mono hD.size)
          replace hR := hR.below hb' hR.lt
          replace hB := hB.trans (hb'.mono hB.size)
          clear hb' hD
          have z0 := hR.cell 0
          have z1 := hR.cell 1
          have z2 := hR.cell 2
          have z3 := hR.cell 3
          dsimp only [List.getElem?_cons_zero, List.getElem?_cons_succ] at z0 z1 z2 z3
          have f0 := hR.frozen 0
          have f1 := hR.frozen 1
          have f2 := hR.frozen 2
          have f3 := hR.frozen 3
          go_wp2_with fail
          go_region_law (fail)
          all_goals
            go_wp2_with fail
            have hR' := ((((hR.drewN 1).setCell 0 (.int .u8 (numV s))).setCell 1 (.int .u8 (cntV s))).setCell 2 (.string (str (sumV s)))).setCell 3 (.string (str (bodyV s)))
            have hU := (((((Upd.refl w.heap.size w').drew).setCell ⟨w.heap.size, 0, none⟩ rfl (.int .u8 (numV s))).setCell ⟨w.heap.size, 1, none⟩ rfl (.int .u8 (cntV s))).setCell ⟨w.heap.size, 2, none⟩ rfl (.string (str (sumV s)))).setCell ⟨w.heap.size, 3, none⟩ rfl (.string (str (bodyV s)))
            exact bodyPost_ret (v := .tuple #[.agg (voC s).toArray, .bool true]) (results_box2 (by rfl) _ _ w.heap.size 87 _ _ _ (by rfl) hR' (by rfl) Try.underlying87 (by rfl) 4 (by rfl) (by kernel_rfl)) rfl ⟨by rw [HN.out, voOf_ok HN.out], hU.below hB (Nat.le_refl _)⟩
        · have hqb : ((str (s.drop n)).toList == (str (fourI (crc pSum (s.take n)))).toList) = false := by rw [str_beq, beq_eq_false_iff_ne]; exact fun e => hq e.symm
          replace HN : Hid (volOk s = false) := by show _ = _; rw [HN.out, beq_eq_false_iff_ne]; exact hq
          clear hq
          go_wp2_with fail
          go_region_law (go_simp; go_at_call 50; refine (fourBytes_any _ _ c1 c2).mono ?_; rintro e w' ⟨rfl, hb'⟩; dsimp only)
          have hD := below_drewN (Below.refl W1.heap.size W1) 1
          replace hb' := hD.trans (hb'.mono hD.size)
          replace hR := hR.below hb' hR.lt
          replace hB := hB.trans (hb'.mono hB.size)
          clear hb' hD
          go_wp2_with (refine wpList_bstore (by rfl) _ _ _ (by rfl) w.heap.size 87 (by rfl) _ _ (by rfl) hR 4 (by rfl) (by kernel_rfl) (by rfl) (by intro x hx; simp at hx; rcases hx with rfl | rfl | rfl | rfl <;> rfl) ?_; intro w9 hR9 hU9; replace hR := hR9; replace hB := hU9.below hB (Nat.le_refl _); clear hR9 hU9)
          exact bodyPost_ret (v := .tuple #[.agg vo0.toArray, .bool false]) (results_box2 (by rfl) _ _ w.heap.size 87 _ _ _ (by rfl) hR (by rfl) Try.underlying87 (by rfl) 4 (by rfl) (by kernel_rfl)) rfl ⟨by rw [HN.out, voOf_no HN.out], hB⟩
    · have hmk : ((str (s.take 4)).toList == [86, 79, 76, 49]) = false := by rw [str_toList, beq_eq_false_iff_ne]; exact hm
      have HN : Hid (volOk s = false) := volOk_magic hm
      clear hz hm
      go_enter Try.func80, Try.ntmps80
      go_wp2_with fail
      go_quiet (fail)
      replace hR := hR.drewN nq
      replace hB := below_drewN hB nq
      generalize (w.alloc (.cells #[.int .u8 0, .int .u8 0, .string ⟨#[]⟩, .string ⟨#[]⟩] 87)).drewN nq = W at *
      go_wp2_with (refine wpList_bstore (by rfl) _ _ _ (by rfl) w.heap.size 87 (by rfl) _ _ (by rfl) hR 4 (by rfl) (by kernel_rfl) (by rfl) (by intro x hx; simp at hx; rcases hx with rfl | rfl | rfl | rfl <;> rfl) ?_; intro w9 hR9 hU9; replace hR := hR9; replace hB := hU9.below hB (Nat.le_refl _); clear hR9 hU9)
      exact bodyPost_ret (v := .tuple #[.agg vo0.toArray, .bool false]) (results_box2 (by rfl) _ _ w.heap.size 87 _ _ _ (by rfl) hR (by rfl) Try.underlying87 (by rfl) 4 (by rfl) (by kernel_rfl)) rfl ⟨by rw [HN.out, voOf_no HN.out], hB⟩
end Go.Proofs.Ytdjpkgaicmklmab

/- The program's Join: the list of volumes, walked. -/
namespace Go.Proofs.Ytdjpkgaicmklmab
open Go.RowKit

/-- Volumes as cells. -/
abbrev vcells (l : List (List UInt8)) : List Value := (l.map voC).flatten
theorem vcells_snoc (l : List (List UInt8)) (s : List UInt8) : vcells (l ++ [s]) = vcells l ++ voC s := by simp [vcells]
theorem vcells_lies {w : World} {B e : Nat} {ad : Option Addr} {n cap : Nat} {L : List (List UInt8)} (h : Vec w B e 4 ad n cap (vcells L)) (hn : n = L.length) : Lies w ad n 4 (fun i => voC (L.getD i [])) := by
  refine Vec.lies (rows := L.map voC) h ?_ (by simp [hn]) _ ?_
  · intro r hr; obtain ⟨f, _, rfl⟩ := List.mem_map.1 hr; rfl
  · intro i hi; subst hn; simp [List.getD, hi]
theorem take_snoc (l : List (List UInt8)) (i : Nat) (h : i < l.length) : l.take (i + 1) = l.take i ++ [l.getD i []] := by
  rw [List.take_succ_eq_append_getElem h, List.getD_eq_getElem?_getD, List.getElem?_eq_getElem h]; rfl
/-- How many there are up to the first string that is none. -/
def voN (l : List (List UInt8)) : Nat := (firstOf (bad1 l) l.length).getD l.length
theorem voN_at {l : List (List UInt8)} {i : Nat} (hi : i < l.length) (h : ∀ j, j < i → bad1 l j = false) (hb : bad1 l i = true) : voN l = i := by
  unfold voN; rw [firstOf_some.mpr ⟨hb, hi, h⟩]; rfl
theorem voN_all {l : List (List UInt8)} (h : ∀ j, j < l.length → bad1 l j = false) : voN l = l.length := by
  unfold voN; rw [firstOf_none.mpr h]; rfl

set_option maxRecDepth 100000 in
set_option maxHeartbeats 4000000 in
theorem volumesOf_any (l : List (List UInt8)) (ad0 : Option Addr) (N cap0 : Nat) (w : World) (hL : Lies w ad0 N 1 (fun i => [.string (str (l.getD i []))])) (hN : N = l.length) (hl : ∀ v, v ∈ l → v.length ≤ 1099511627776) (hb : N ≤ 1099511627776) :
    Calls Try.prog 54 #[.slice ad0 N cap0] w fun e w' => ∃ ad cap k, e = .returned (.slice ad k cap) ∧ k = voN l ∧ Vec w' w.heap.size 87 4 ad k cap (vcells (l.take k)) ∧ Below w.heap.size w w' := by
  have hV0 : Hid (Vec (w.alloc (.cells #[] 87)) w.heap.size 87 4 (some ⟨w.heap.size, 0, none⟩) 0 0 (vcells [])) := Vec.lit w w.heap.size 87 4 0 [] (Nat.le_refl _) (by omega) rfl
  have HN : Hid (N = l.length) := hN
  have HL : Hid (∀ v, v ∈ l → v.length ≤ 1099511627776) := hl
  clear hN hl
  go_enter Try.func54, Try.ntmps54
  go_wp2_with fail
  go_loopw [3, 4, 5, 6] (fun v u _ _ wr => ∃ (i : Nat) (ad : Option Addr) (cap : Nat), i ≤ N ∧ u = .int .i64 i ∧ v = .slice ad i cap ∧ (∀ j, j < i → bad1 l j = false) ∧ Vec wr w.heap.size 87 4 ad i cap (vcells (l.take i)) ∧ Below w.heap.size w wr) (fun _ u _ _ _ => N - (intOf u).toNat)
  case atStart => exact ⟨0, _, _, by omega, rfl, rfl, by intro j hj; omega, by simpa using hV0.out, (Below.refl _ _).alloc (Nat.le_refl _) _⟩
  case round =>
    obtain ⟨i, ad, cap, hi, rfl, rfl, hbad, hv, hbw⟩ := hrel
    have HBAD : Hid (∀ j, j < i → bad1 l j = false) := hbad
    clear hbad
    by_cases hlt : i < N
    · obtain ⟨b, o, hbl, hix, hc⟩ := (hL.below hbw).at cap0 (P := Try.prog) (t := 33) (by kernel_rfl) (by kernel_rfl) hlt
      have c0 : wr.cell? ⟨b, o, none⟩ = some (.string (str (l.getD i []))) := hc 0 _ (by omega) rfl
      have hil : i < l.length := by rw [← HN.out]; exact hlt
      have hsl : (l.getD i []).length ≤ 1099511627776 := HL.out _ (volAt_mem hil)
      have HT : Hid (l.take (i + 1) = l.take i ++ [l.getD i []]) := take_snoc l i hil
      have HB1 : Hid (bad1 l i = !volOk (l.getD i [])) := rfl
      clear hc
      generalize l.getD i [] = s at *
      go_wp2_with fail
      refine (volumeOf_any s _ hsl).mono ?_
      rintro e w1 ⟨rfl, hb1⟩
      have hv1 := hv.keep hb1
      have hbw1 := hbw.trans (hb1.mono hbw.size)
      have hz1 := hbw1.size
      clear hv hbw hb1 c0
      cases hok : volOk s with
      | false =>
        have HK : Hid (voN l = i) := voN_at hil HBAD.out (by rw [HB1.out, hok]; rfl)
        rw [voOf_no hok]
        clear hok
        go_wp2_with fail
        go_ret
        exact ⟨ad, cap, i, rfl, HK.out.symm, hv1.keep ((Below.refl _ _).alloc (Nat.le_refl _) _), hbw1.alloc hz1 _⟩
      | true =>
        have HB2 : Hid (bad1 l i = false) := by show _ = _; rw [HB1.out, hok]; rfl
        rw [voOf_ok hok]
        clear hok
        have HX : Hid (∀ o1 o2, Vec ((w1.alloc o1).alloc o2) w.heap.size 87 4 ad i cap (vcells (l.take i))) := fun o1 o2 => hv1.keep (((Below.refl _ w1).alloc (Nat.le_refl _) _).alloc (by simp) _)
        go_wp2_with (at_builtin; refine wpList_push (by rfl) _ _ 88 (by rfl) w.heap.size 87 4 40 (.agg #[.int .u8 0, .int .u8 0, .string ⟨#[]⟩, .string ⟨#[]⟩]) Try.underlying88 (by kernel_rfl) rfl (by decide) ad i cap _ (by rfl) (HX.out _ _) _ _ (voC s) (by rfl) rfl ?_ ?_ ?_ ?_ ?_ ?_; exact new_cells2 _ _ _ _; (intro u hu; simp at hu; rcases hu with rfl | rfl | rfl | rfl <;> rfl); (omega); (omega); (simp; omega); intro ad' cap' w' hv' hb' hs')
        have h2 : Below w.heap.size w w' := ((hbw1.alloc hz1 _).alloc (by simp; omega) _).trans hb'
        go_roundw
        case rel => exact ⟨i + 1, ad', cap', by omega, by go_num, rfl, fun j hj => by rcases Nat.lt_or_ge j i with h | h; (exact HBAD.out j h); (rw [show j = i by omega]; exact HB2.out), by rw [HT.out, vcells_snoc]; exact hv', h2⟩
        case measure => simp [intOf]; omega
    · have hiN : i = N := by omega
      subst hiN
      have HK : Hid (voN l = i) := by show _ = _; rw [HN.out]; exact voN_all (fun j hj => HBAD.out j (by rw [HN.out]; exact hj))
      go_wp2_with fail
      go_ret
      exact ⟨ad, cap, i, rfl, HK.out.symm, hv, hbw⟩

theorem idV_eq (v u : List UInt8) (hv : 14 ≤ v.length) (hu : 14 ≤ u.length) : idV v = idV u ↔ cntV v = cntV u ∧ sumV v = sumV u := by
  have e : ∀ v : List UInt8, 14 ≤ v.length → idV v = v.getD 5 0 :: sumV v := by
    intro v hv
    unfold idV sumV
    have : v.drop 5 = v.getD 5 0 :: v.drop 6 := by
      rw [List.drop_eq_getElem_cons (by omega), List.getD_eq_getElem?_getD, List.getElem?_eq_getElem (by omega)]; rfl
    rw [this, List.take_succ_cons]
  rw [e v hv, e u hu]
  unfold cntV
  simp only [List.cons.injEq]
  constructor
  · rintro ⟨h1, h2⟩; exact ⟨by rw [h1], h2⟩
  · rintro ⟨h1, h2⟩; exact ⟨UInt8.toNat_inj.1 h1, h2⟩
theorem volOk_len {v : List UInt8} (h : volOk v = true) : 14 ≤ v.length := by
  simp only [volOk, Bool.and_eq_true, decide_eq_true_eq] at h; exact h.1.1.1
/-- The place of the first, or the end. -/
def firstEnd (f : Nat → Bool) (n : Nat) : Nat := (firstOf f n).getD n
theorem firstEnd_at {f : Nat → Bool} {n i : Nat} (hi : i < n) (h : ∀ j, j < i → f j = false) (hb : f i = true) : firstEnd f n = i := by
  unfold firstEnd; rw [firstOf_some.mpr ⟨hb, hi, h⟩]; rfl
theorem firstEnd_none {f : Nat → Bool} {n : Nat} (h : ∀ j, j < n → f j = false) : firstEnd f n = n := by
  unfold firstEnd; rw [firstOf_none.mpr h]; rfl

set_option maxRecDepth 100000 in
set_option maxHeartbeats 4000000 in
theorem firstMixed_any (l : List (List UInt8)) (ad0 : Option Addr) (N cap0 : Nat) (w : World) (hL : Lies w ad0 N 4 (fun i => voC (l.getD i []))) (hN : N = l.length) (hok : ∀ i, i < l.length → volOk (l.getD i []) = true) (hb : N ≤ 1099511627776) :
    Calls Try.prog 55 #[.slice ad0 N cap0] w fun e w' => e = .returned (.int .i64 (firstEnd (bad2 l) l.length : Nat)) ∧ Below w.heap.size w w' := by
  have HN : Hid (N = l.length) := hN
  have HOK : Hid (∀ i, i < l.length → volOk (l.getD i []) = true) := hok
  clear hN hok
  go_enter Try.func55, Try.ntmps55
  go_wp2_with fail
  go_loopw [3] (fun u wr => ∃ (i : Nat), i ≤ N ∧ u = .int .i64 i ∧ (∀ j, j < i → bad2 l j = false) ∧ Below w.heap.size w wr) (fun u _ => N - (intOf u).toNat)
  case atStart => exact ⟨0, by omega, rfl, by intro j hj; omega, Below.refl _ _⟩
  case round =>
    obtain ⟨i, hi, rfl, hbad, hbw⟩ := hrel
    have HBAD : Hid (∀ j, j < i → bad2 l j = false) := hbad
    clear hbad
    by_cases hlt : i < N
    · obtain ⟨b, o, hbl, hix, hc⟩ := (hL.below hbw).at cap0 (P := Try.prog) (t := 88) (by kernel_rfl) (by kernel_rfl) hlt
      obtain ⟨b', o', hbl', hix', hd⟩ := (hL.below hbw).at cap0 (P := Try.prog) (t := 88) (by kernel_rfl) (by kernel_rfl) (k := 0) (by omega)
      have c1 : wr.cell? ⟨b, o + 1, none⟩ = some (.int .u8 (cntV (l.getD i []))) := hc 1 _ (by omega) rfl
      have c2 : wr.cell? ⟨b, o + 2, none⟩ = some (.string (str (sumV (l.getD i [])))) := hc 2 _ (by omega) rfl
      have d1 : wr.cell? ⟨b', o' + 1, none⟩ = some (.int .u8 (cntV (l.getD 0 []))) := hd 1 _ (by omega) rfl
      have d2 : wr.cell? ⟨b', o' + 2, none⟩ = some (.string (str (sumV (l.getD 0 [])))) := hd 2 _ (by omega) rfl
      have hil : i < l.length := by rw [← HN.out]; exact hlt
      have HE := idV_eq (l.getD i []) (l.getD 0 []) (volOk_len (HOK.out i hil)) (volOk_len (HOK.out 0 (by omega)))
      have HB2 : Hid (bad2 l i = (idV (l.getD i []) != idV (l.getD 0 []))) := rfl
      have hix0 : ∀ w', (Instr.indexAt 88 (.slice ad0 N cap0) (.int .i64 0)).run Try.prog w' = .ok (.pointer (some ⟨b', o', none⟩)) w' := hix'
      clear hc hd hix'
      generalize cntV (l.getD i []) = ci at *
      generalize cntV (l.getD 0 []) = c0 at *
      generalize sumV (l.getD i []) = si at *
      generalize sumV (l.getD 0 []) = s0 at *
      by_cases hcc : ci = c0
      · have k1 : ((ci : Int) != (c0 : Int)) = false := by simp [hcc]
        by_cases hss : si = s0
        · have k2 : ((str si).toList == (str s0).toList) = true := by rw [str_beq, hss]; simp
          have HF : Hid (bad2 l i = false) := by show _ = _; rw [HB2.out, HE.2 ⟨hcc, hss⟩]; simp
          clear hcc hss HE
          go_wp2_with fail
          go_quiet (fail)
          go_wp2_with fail
          go_roundw
          case rel => exact ⟨i + 1, by omega, by go_num, fun j hj => by rcases Nat.lt_or_ge j i with h | h; (exact HBAD.out j h); (rw [show j = i by omega]; exact HF.out), below_drewN hbw _⟩
          case measure => simp [intOf]; omega
        · have k2 : ((str si).toList == (str s0).toList) = false := by rw [str_beq, beq_eq_false_iff_ne]; exact hss
          have HF : Hid (bad2 l i = true) := by show _ = _; rw [HB2.out, bne_iff_ne]; exact fun e => hss (HE.1 e).2
          clear hcc hss HE
          go_wp2_with fail
          go_quiet (fail)
          go_wp2_with fail
          go_ret
          exact ⟨by rw [firstEnd_at hil HBAD.out HF.out]; rfl, below_drewN hbw _⟩
      · have k1 : ((ci : Int) != (c0 : Int)) = true := by rw [bne_iff_ne]; omega
        have HF : Hid (bad2 l i = true) := by show _ = _; rw [HB2.out, bne_iff_ne]; exact fun e => hcc (HE.1 e).1
        clear hcc HE
        go_wp2_with fail
        go_quiet (fail)
        go_wp2_with fail
        go_ret
        exact ⟨by rw [firstEnd_at hil HBAD.out HF.out]; rfl, below_drewN hbw _⟩
    · have hiN : i = N := by omega
      subst hiN
      have HK : Hid (firstEnd (bad2 l) l.length = i) := by show _ = _; rw [← HN.out]; exact firstEnd_none HBAD.out
      go_wp2_with fail
      go_ret
      exact ⟨by rw [HK.out]; rfl, hbw⟩
end Go.Proofs.Ytdjpkgaicmklmab

