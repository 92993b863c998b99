/- Texts of the proof, one behind the other; what each holds is said at its head. -/
import Derived.Test.YtdjpkgaicmklmaaGreatPartExtendsupto6
import Derived.Test.YtdjpkgaicmklmaaGreatPartExtendsupto4
import Derived.Test.YtdjpkgaicmklmaaGreatPartExtendsupto0
import Derived.Deep.QuietTactic
import Derived.BigQuiet
import Derived.Test.YtdjpkgaicmklmaaGreatPartExtendsupto5
import Derived.Deep.RegionHeld3
/- How the program merges and extends: what is newer, laid over what is there: without the program. -/
namespace Go.Proofs.YtdjpkgaicmklmaaGreat
open Go.RowKit

section
variable {α : Type} (key : α → Int)
theorem look_filter (p : α → Bool) : ∀ {l : List α}, Asc key l → ∀ k, look key (l.filter p) k = (look key l k).filter p
  | [], _, _ => rfl
  | x :: l, h, k => by
    simp only [Asc, List.pairwise_cons] at h
    have ih := look_filter p (l := l) h.2 k
    by_cases hp : p x = true
    · rw [List.filter_cons_of_pos hp]
      simp only [look]
      by_cases e : key x = k
      · rw [if_pos e, if_pos e]; simp [Option.filter, hp]
      · rw [if_neg e, if_neg e]; exact ih
    · rw [List.filter_cons_of_neg hp, ih]
      simp only [look]
      by_cases e : key x = k
      · rw [if_pos e, look_none key (fun y hy => by have := h.1 y hy; omega)]; simp [Option.filter, hp]
      · rw [if_neg e]
theorem put_app (f : α → α → α) {c : α} {D : List α} : ∀ {L : List α}, (∀ x ∈ L, key x < key c) → putK key f (L ++ D) c = L ++ putK key f D c
  | [], _ => rfl
  | x :: L, h => by
    simp only [List.cons_append, putK]
    rw [if_pos (h x (by simp)), put_app f (fun y hy => h y (by simp [hy]))]
theorem put_eq (f : α → α → α) {c o : α} {D : List α} (h : key o = key c) : putK key f (o :: D) c = f o c :: D := by
  simp only [putK]; rw [if_neg (by omega), if_pos h]
theorem put_lt (f : α → α → α) {c o : α} {D : List α} (h : key c < key o) : putK key f (o :: D) c = c :: o :: D := by
  simp only [putK]; rw [if_neg (by omega), if_neg (by omega)]
theorem lay_snoc (f : α → α → α) (a b : List α) (c : α) : layK key f a (b ++ [c]) = putK key f (layK key f a b) c := by
  unfold layK; rw [List.foldl_append]; rfl
theorem asc_filter {l : List α} (p : α → Bool) (h : Asc key l) : Asc key (l.filter p) := List.Pairwise.filter p h
end

/-- What one list of clocks has newer than another. -/
def newK (old r : List Ck) : List Ck := r.filter fun c => decide (clkOf old c.site < c.count)
def newP (old : List Cd) (c : Cd) : Bool := match look Cd.id old c.id with
  | some o => laterB c o
  | none => true
def newC (old r : List Cd) : List Cd := r.filter (newP old)
theorem newK_snoc (old r : List Ck) (c : Ck) : newK old (r ++ [c]) = if clkOf old c.site < c.count then newK old r ++ [c] else newK old r := by
  unfold newK; rw [List.filter_append]
  by_cases h : clkOf old c.site < c.count <;> simp [h]
theorem newC_snoc (old r : List Cd) (c : Cd) : newC old (r ++ [c]) = if newP old c = true then newC old r ++ [c] else newC old r := by
  unfold newC; rw [List.filter_append]
  by_cases h : newP old c = true <;> simp [h]
theorem newK_len (old r : List Ck) : (newK old r).length ≤ r.length := List.length_filter_le _ _
theorem newC_len (old r : List Cd) : (newC old r).length ≤ r.length := List.length_filter_le _ _
theorem newK_asc {old r : List Ck} (h : Asc Ck.site r) : Asc Ck.site (newK old r) := asc_filter Ck.site _ h
theorem newC_asc {old r : List Cd} (h : Asc Cd.id r) : Asc Cd.id (newC old r) := asc_filter Cd.id _ h
theorem lay_newK {a b : List Ck} (ha : Asc Ck.site a) (hb : Asc Ck.site b) (pb : ∀ x ∈ b, 1 ≤ x.count) : layK Ck.site (fun _ c => c) a (newK a b) = mergeK a b := by
  refine asc_ext Ck.site (layK_asc Ck.site (fun o c h => rfl) ha) (layK_asc Ck.site (fun o c h => keepK_site o c h) ha) fun k => ?_
  unfold mergeK
  rw [look_lay Ck.site (fun o c h => rfl) ha (newK_asc hb), look_lay Ck.site (fun o c h => keepK_site o c h) ha hb]
  unfold newK
  rw [look_filter Ck.site _ hb]
  cases h2 : look Ck.site b k with
  | none => simp [over_none, Option.filter]
  | some y =>
    have m2 := look_mem Ck.site h2
    have p2 := pb y m2.1
    cases h1 : look Ck.site a k with
    | none =>
      have hc : clkOf a y.site = 0 := by unfold clkOf; rw [m2.2, h1]
      have : clkOf a y.site < y.count := by omega
      simp [Option.filter, this, over]
    | some x =>
      have hc : clkOf a y.site = x.count := by unfold clkOf; rw [m2.2, h1]
      by_cases h : x.count < y.count
      · have : clkOf a y.site < y.count := by omega
        simp [Option.filter, this, over, keepK, h]
      · have : ¬ clkOf a y.site < y.count := by omega
        simp [Option.filter, this, over, keepK, h]
theorem lay_newC {a b : List Cd} (ha : Asc Cd.id a) (hb : Asc Cd.id b) : layK Cd.id (fun _ c => c) a (newC a b) = mergeC a b := by
  refine asc_ext Cd.id (layK_asc Cd.id (fun o c h => rfl) ha) (layK_asc Cd.id (fun o c h => keepC_id o c h) ha) fun k => ?_
  unfold mergeC
  rw [look_lay Cd.id (fun o c h => rfl) ha (newC_asc hb), look_lay Cd.id (fun o c h => keepC_id o c h) ha hb]
  unfold newC
  rw [look_filter Cd.id _ hb]
  cases h2 : look Cd.id b k with
  | none => simp [over_none, Option.filter]
  | some y =>
    have m2 := look_mem Cd.id h2
    cases h1 : look Cd.id a k with
    | none =>
      have hc : newP a y = true := by unfold newP; rw [m2.2, h1]
      simp [Option.filter, hc, over]
    | some x =>
      have hc : newP a y = laterB y x := by unfold newP; rw [m2.2, h1]
      by_cases h : laterB y x = true
      · simp [Option.filter, hc, over, keepC, h]
      · simp [Option.filter, hc, over, keepC, h]
/-- Of what follows, what is newer is what is otherwise. -/
theorem laterB_irr (x : Cd) : laterB x x = false := by unfold laterB; simp
theorem diff_new {o r : Tri} (ha : Asc Ck.site r.K ∧ Asc Cd.id r.C) (hp : ∀ x ∈ r.K, 1 ≤ x.count) (h : followB o r = true) : newK o.K r.K = (diffS o r).K ∧ newC o.C r.C = (diffS o r).C := by
  simp only [followB, followK, followC, Bool.and_eq_true, List.all_eq_true] at h
  constructor
  · unfold newK diffS
    apply List.filter_congr
    intro c hc
    have p := hp c hc
    cases hl : look Ck.site o.K c.site with
    | none =>
      have : clkOf o.K c.site = 0 := by unfold clkOf; rw [hl]
      simp; omega
    | some d =>
      have hd := look_mem Ck.site hl
      have hk : clkOf o.K c.site = d.count := by unfold clkOf; rw [hl]
      have := h.1 d hd.1
      rw [hd.2, look_some Ck.site ha.1 hc] at this
      simp only [decide_eq_true_eq] at this
      rw [hk]
      by_cases e : d.count < c.count
      · have : d ≠ c := fun e2 => by subst e2; omega
        simp [e, this]
      · have : d = c := by
          have h1 : d.site = c.site := hd.2
          have h2 : d.count = c.count := by omega
          cases d; cases c; simp at h1 h2; subst h1; subst h2; rfl
        subst this; simp
  · unfold newC diffS
    apply List.filter_congr
    intro c hc
    cases hl : look Cd.id o.C c.id with
    | none => simp [newP, hl]
    | some d =>
      have hd := look_mem Cd.id hl
      have := h.2 d hd.1
      rw [hd.2, look_some Cd.id ha.2 hc] at this
      simp only [Bool.or_eq_true, decide_eq_true_eq] at this
      simp only [newP, hl]
      rcases this with h3 | h3
      · have : d ≠ c := fun e2 => by subst e2; rw [laterB_irr] at h3; cases h3
        simp [h3, this]
      · subst h3; simp [laterB_irr]
end Go.Proofs.YtdjpkgaicmklmaaGreat

/- The reference's Later, find, behind, clocks, joined: walked. -/
namespace Go.Proofs.YtdjpkgaicmklmaaGreat
open Go.RowKit

set_option maxRecDepth 100000 in
set_option maxHeartbeats 4000000 in
theorem rlater_any (a b : Cd) (w : World) :
    Calls Tryz.prog 31 #[.agg a.cells.toArray, .agg b.cells.toArray] w fun e w' => e = .returned (.bool (laterB a b)) ∧ Below w.heap.size w w' := by
  obtain ⟨hA, hB, hs, hb⟩ := two_boxes w 39 39 a.cells.toArray b.cells.toArray
  have a1 := hA.cell 1; have a2 := hA.cell 2
  have b1 := hB.cell 1; have b2 := hB.cell 2
  dsimp only [List.getElem?_cons_zero, List.getElem?_cons_succ] at a1 a2 b1 b2
  have HB : Hid (Below w.heap.size w ((w.alloc (.cells a.cells.toArray 39)).alloc (.cells b.cells.toArray 39))) := hb
  have HL : Hid (laterB a b = (decide (b.count < a.count) || (a.count == b.count && decide (b.site < a.site)))) := by
    show _ = _; unfold laterB; first | rfl | (simp; done)
  clear hA hB hs hb
  by_cases h1 : b.count < a.count
  · have E : Hid (laterB a b = true) := by show _ = _; rw [HL.out]; simp [h1]
    clear HL
    go_enter Tryz.func31, Tryz.ntmps31
    go_wp2_with fail
    go_ret
    exact ⟨by rw [E.out]; rfl, HB.out⟩
  · by_cases h2 : a.count = b.count
    · by_cases h3 : b.site < a.site
      · have E : Hid (laterB a b = true) := by show _ = _; rw [HL.out]; simp [h2, h3]
        have q : (a.count == b.count) = true := by simp [h2]
        clear HL h2
        go_enter Tryz.func31, Tryz.ntmps31
        go_wp2_with fail
        go_ret
        exact ⟨by rw [E.out]; rfl, HB.out⟩
      · have E : Hid (laterB a b = false) := by show _ = _; rw [HL.out]; simp [h1, h3]
        have q : (a.count == b.count) = true := by simp [h2]
        clear HL h2
        go_enter Tryz.func31, Tryz.ntmps31
        go_wp2_with fail
        go_ret
        exact ⟨by rw [E.out]; rfl, HB.out⟩
    · have E : Hid (laterB a b = false) := by show _ = _; rw [HL.out]; simp [h1, h2]
      have q : (a.count == b.count) = false := by simp [h2]
      clear HL
      go_enter Tryz.func31, Tryz.ntmps31
      go_wp2_with fail
      go_ret
      exact ⟨by rw [E.out]; rfl, HB.out⟩

/-- The place of a card's number, or -1. -/
def findR (R : Rep) (id : Int) : Option Nat := firstOf (fun i => (R.d i).id == id) R.n2
def findI (R : Rep) (id : Int) : Int := match findR R id with
  | some i => (i : Int)
  | none => -1

set_option maxRecDepth 100000 in
set_option maxHeartbeats 4000000 in
theorem find_any (R : Rep) (a1 a2 a3 : Option Addr) (k1 k2 k3 : Nat) (id : Int) (w : World) (hR : Has w R a1 a2 a3) :
    Calls Tryz.prog 17 #[repV R a1 a2 a3 k1 k2 k3, .int .i64 id] w fun e w' => e = .returned (.int .i64 (findI R id)) ∧ Below w.heap.size w w' := by
  have b2 := hR.b2
  go_enter Tryz.func17, Tryz.ntmps17
  go_wp2
  go_loopw [5] (fun i wr => ∃ k : Nat, k ≤ R.n2 ∧ i = .int .i64 k ∧ (∀ j, j < k → ((R.d j).id == id) = false) ∧ BoxR w R a1 a2 a3 k1 k2 k3 wr) (fun i _ => R.n2 - (intOf i).toNat)
  case atStart => exact ⟨0, Nat.zero_le _, rfl, fun j hj => by omega, Below.refl _ _⟩
  case round =>
    obtain ⟨k, hk, rfl, hno, hb⟩ := hrel
    obtain ⟨x1, x2, x3⟩ := box3 hb
    have HN : Hid (∀ j, j < k → ((R.d j).id == id) = false) := hno
    clear hno
    by_cases hlt : k < R.n2
    · obtain ⟨b, o, hbl, hix, c0, c1, c2, c3, c4⟩ := (hR.below (below_box hb)).l2.card k2 hlt
      cases hq : ((R.d k).id == id) with
      | true =>
        have E : Hid (findI R id = (k : Int)) := by
          show _ = _
          unfold findI findR
          rw [(firstOf_some (f := fun i => (R.d i).id == id) (n := R.n2) (i := k)).mpr ⟨hq, hlt, HN.out⟩]
        go_wp2
        go_ret
        exact ⟨by rw [E.out]; rfl, below_box hb⟩
      | false =>
        have HQ : Hid (((R.d k).id == id) = false) := hq
        go_wp2
        go_roundw
        case rel => exact ⟨k + 1, by omega, by go_num, fun j hj => by rcases Nat.lt_or_ge j k with h | h; (exact HN.out j h); (rw [show j = k by omega]; exact HQ.out), hb⟩
        case measure => simp [intOf]; omega
    · obtain rfl : R.n2 = k := by omega
      have E : Hid (findI R id = -1) := by
        show _ = _
        unfold findI findR
        rw [(firstOf_none (f := fun i => (R.d i).id == id)).mpr HN.out]
      go_wp2
      go_ret
      exact ⟨by rw [E.out]; rfl, below_box hb⟩

/-- The numbers of the cards of both, as they are gone over. -/
def idsR (A B : Rep) (i : Nat) : Int := if i < A.n2 then (A.d i).id else (B.d (i - A.n2)).id
def lowTo (A B : Rep) (id : Int) : Nat → Int
  | 0 => 0
  | k + 1 => lowStep id (lowTo A B id k) (idsR A B k)
def lowR (A B : Rep) (id : Int) : Int := lowTo A B id (A.n2 + B.n2)

end Go.Proofs.YtdjpkgaicmklmaaGreat

/- The reference's clocks and joined: walked. -/
namespace Go.Proofs.YtdjpkgaicmklmaaGreat
open Go.RowKit

/-- A replica's lists. -/
def Rep.tri (R : Rep) : Tri := ⟨(List.range R.n1).map R.c, (List.range R.n2).map R.d, (List.range R.n3).map R.e⟩
theorem clockTo_look (c : Nat → Ck) (s : Int) : ∀ n, clockTo c s n = (look Ck.site ((List.range n).map c) s).map (·.count)
  | 0 => rfl
  | n + 1 => by
    simp only [clockTo]
    rw [clockTo_look c s n, List.range_succ, List.map_append, look_append]
    cases look Ck.site ((List.range n).map c) s with
    | some x => rfl
    | none =>
      simp only [Option.map_none, List.map_cons, List.map_nil, look, Option.none_or]
      split <;> rfl
theorem clk_look (R : Rep) (s : Int) : R.clk s = clkOf R.tri.K s := by
  unfold Rep.clk clkOf Rep.tri
  rw [clockTo_look]
  cases look Ck.site ((List.range R.n1).map R.c) s <;> rfl
theorem kcells_app (a b : List Ck) : kcells (a ++ b) = kcells a ++ kcells b := by simp [kcells]

end Go.Proofs.YtdjpkgaicmklmaaGreat

/- What is newer, of the program: later, cardAt, NewerClocks, NewerCards: walked. -/
namespace Go.Proofs.YtdjpkgaicmklmaaGreat
open Go.RowKit

set_option maxRecDepth 100000 in
set_option maxHeartbeats 4000000 in
theorem plater_any (a b : Cd) (w : World) :
    Calls Tryz.prog 73 #[cdV a, cdV b] w fun e w' => e = .returned (.bool (laterB a b)) ∧ Below w.heap.size w w' := by
  obtain ⟨hA, hB, hs, hb⟩ := two_boxes w 39 39 a.cells.toArray b.cells.toArray
  have a1 := hA.cell 1; have a2 := hA.cell 2
  have b1 := hB.cell 1; have b2 := hB.cell 2
  dsimp only [List.getElem?_cons_zero, List.getElem?_cons_succ] at a1 a2 b1 b2
  have HB : Hid (Below w.heap.size w ((w.alloc (.cells a.cells.toArray 39)).alloc (.cells b.cells.toArray 39))) := hb
  have HL : Hid (laterB a b = (decide (b.count < a.count) || (a.count == b.count && decide (b.site < a.site)))) := by
    show _ = _; unfold laterB; first | rfl | (simp; done)
  clear hA hB hs hb
  by_cases h2 : a.count = b.count
  · have q : (a.count != b.count) = false := by simp [h2]
    have E : Hid (laterB a b = decide (b.site < a.site)) := by show _ = _; rw [HL.out]; simp [h2]
    clear HL h2
    go_enter Tryz.func73, Tryz.ntmps73
    go_wp2_with fail
    go_ret
    exact ⟨by rw [E.out]; rfl, HB.out⟩
  · have q : (a.count != b.count) = true := by simp [h2]
    have E : Hid (laterB a b = decide (b.count < a.count)) := by show _ = _; rw [HL.out]; simp [h2]
    clear HL h2
    go_enter Tryz.func73, Tryz.ntmps73
    go_wp2_with fail
    go_ret
    exact ⟨by rw [E.out]; rfl, HB.out⟩

/-- The place of a card's number, or the end. -/
def cardIx (L : List Cd) (id : Int) : Nat := L.findIdx fun c => c.id == id
theorem cardIx_hit {L : List Cd} {id : Int} {k : Nat} (hk : k < L.length) (h : ((L.getD k cd0).id == id) = true) (hno : ∀ j, j < k → ((L.getD j cd0).id == id) = false) : cardIx L id = k := by
  unfold cardIx
  rw [List.findIdx_eq hk]
  refine ⟨by simpa [List.getD, hk] using h, fun j hj => ?_⟩
  have := hno j hj
  simpa [List.getD, show j < L.length by omega] using this
theorem cardIx_none {L : List Cd} {id : Int} (hno : ∀ j, j < L.length → ((L.getD j cd0).id == id) = false) : cardIx L id = L.length := by
  unfold cardIx
  apply List.findIdx_eq_length_of_false
  intro c hc
  obtain ⟨j, hj, rfl⟩ := List.mem_iff_getElem.1 hc
  have := hno j hj
  simpa [List.getD, hj] using this
theorem cardIx_le (L : List Cd) (id : Int) : cardIx L id ≤ L.length := List.findIdx_le_length
theorem cardIx_look : ∀ (L : List Cd) (id : Int), look Cd.id L id = if cardIx L id < L.length then some (L.getD (cardIx L id) cd0) else none
  | [], id => rfl
  | c :: L, id => by
    have ih := cardIx_look L id
    unfold cardIx at ih ⊢
    simp only [look, List.findIdx_cons]
    by_cases e : c.id = id
    · simp [e]
    · have : (c.id == id) = false := by rw [beq_eq_false_iff_ne]; exact e
      rw [if_neg e, this, ih]
      simp
theorem newP_end {L : List Cd} {c : Cd} (h : ¬ cardIx L c.id < L.length) : newP L c = true := by
  unfold newP; rw [cardIx_look, if_neg h]
theorem newP_in {L : List Cd} {c : Cd} (h : cardIx L c.id < L.length) : newP L c = laterB c (L.getD (cardIx L c.id) cd0) := by
  unfold newP; rw [cardIx_look, if_pos h]
theorem clk_list {O : List Ck} {n : Nat} (hn : n = O.length) (s : Int) : (clockTo (fun i => O.getD i ck0) s n).getD 0 = clkOf O s := by
  subst hn
  rw [clockTo_look, range_getD]
  unfold clkOf
  cases look Ck.site O s <;> rfl
theorem take_clock (E : List Ck) (i : Nat) (h : i < E.length) : E.take (i + 1) = E.take i ++ [E.getD i ck0] := by
  rw [List.take_succ_eq_append_getElem h, List.getD_eq_getElem?_getD, List.getElem?_eq_getElem h]; rfl
theorem take_card (E : List Cd) (i : Nat) (h : i < E.length) : E.take (i + 1) = E.take i ++ [E.getD i cd0] := by
  rw [List.take_succ_eq_append_getElem h, List.getD_eq_getElem?_getD, List.getElem?_eq_getElem h]; rfl

set_option maxHeartbeats 2000000 in
theorem pcardAt_any (L : List Cd) (a : Option Addr) (n cap : Nat) (id : Int) (w : World) (hn : n = L.length) (hn2 : n ≤ 140737488355328) (hL : Lies w a n 5 (fun i => (L.getD i cd0).cells)) :
    Calls Tryz.prog 51 #[.slice a n cap, .int .i64 id] w fun e w' => e = .returned (.int .i64 (cardIx L id : Int)) ∧ w' = w := by
  have HL : Hid (n = L.length) := hn
  clear hn
  go_enter Tryz.func51, Tryz.ntmps51
  go_wp2
  go_loop [5] (fun i => ∃ k : Nat, k ≤ n ∧ i = .int .i64 k ∧ (∀ j, j < k → ((L.getD j cd0).id == id) = false)) (fun i => n - (intOf i).toNat)
  case atStart => exact ⟨0, Nat.zero_le _, rfl, fun j hj => by omega⟩
  case round =>
    obtain ⟨k, hk, rfl, hno⟩ := hrel
    have HN : Hid (∀ j, j < k → ((L.getD j cd0).id == id) = false) := hno
    clear hno
    by_cases hlt : k < n
    · obtain ⟨b, o, hbl, hix, c0, c1, c2, c3, c4⟩ := Lies.card (c := fun i => L.getD i cd0) hL cap hlt
      have HE : Hid (((L.getD k cd0).id == id) = true → cardIx L id = k) := fun hq => cardIx_hit (by rw [← HL.out]; exact hlt) hq HN.out
      have HQ : Hid (((L.getD k cd0).id == id) = false → ∀ j, j < k + 1 → ((L.getD j cd0).id == id) = false) := fun hq j hj => by rcases Nat.lt_or_ge j k with h | h; (exact HN.out j h); (rw [show j = k by omega]; exact hq)
      generalize L.getD k cd0 = c at *
      cases hq : (c.id == id) with
      | true =>
        have E : Hid (cardIx L id = k) := HE.out hq
        go_wp2
        go_ret
        exact ⟨ret_int (by rw [E.out]), rfl⟩
      | false =>
        have E : Hid (∀ j, j < k + 1 → ((L.getD j cd0).id == id) = false) := HQ.out hq
        go_wp2
        go_round
        case rel => exact ⟨k + 1, by omega, by go_num, E.out⟩
        case measure => simp [intOf]; omega
    · have e1 : k = n := by omega
      have E : Hid (cardIx L id = n) := by
        show _ = _
        rw [HL.out]; exact cardIx_none (fun j hj => HN.out j (by have := HL.out; omega))
      clear e1
      go_wp2
      go_ret
      exact ⟨ret_int (by rw [E.out]), rfl⟩

set_option maxRecDepth 100000 in
set_option maxHeartbeats 4000000 in
theorem newerClocks_any (O R : List Ck) (a b : Option Addr) (n m ca cb : Nat) (w : World) (hO : Lies w a n 2 (fun i => (O.getD i ck0).cells)) (hR : Lies w b m 2 (fun i => (R.getD i ck0).cells)) (hn : n = O.length) (hm : m = R.length) (hn2 : n ≤ 1099511627776) (hm2 : m ≤ 1099511627776) :
    Calls Tryz.prog 53 #[.slice a n ca, .slice b m cb] w fun e w' => ∃ ad cap N, e = .returned (.slice ad N cap) ∧ N = (newK O R).length ∧ Vec w' w.heap.size 37 2 ad N cap (kcells (newK O R)) ∧ Below w.heap.size w w' := by
  have hV0 : Hid (Vec (w.alloc (.cells #[] 37)) w.heap.size 37 2 (some ⟨w.heap.size, 0, none⟩) 0 0 (kcells [])) := Vec.lit w w.heap.size 37 2 0 [] (Nat.le_refl _) (by omega) rfl
  have HN : Hid (n = O.length) := hn
  have HM : Hid (m = R.length) := hm
  have HO : Hid (Lies w a n 2 (fun i => (O.getD i ck0).cells)) := hO
  have HR : Hid (Lies w b m 2 (fun i => (R.getD i ck0).cells)) := hR
  clear hn hm hO hR
  go_enter Tryz.func53, Tryz.ntmps53
  go_wp2_with fail
  go_loopw [5, 6, 7] (fun v u _ wr => ∃ (i : Nat) (ad : Option Addr) (cap N : Nat), i ≤ m ∧ u = .int .i64 i ∧ v = .slice ad N cap ∧ N = (newK O (R.take i)).length ∧ N ≤ i ∧ Vec wr w.heap.size 37 2 ad N cap (kcells (newK O (R.take i))) ∧ Below w.heap.size w wr) (fun _ u _ _ => m - (intOf u).toNat)
  case atStart => exact ⟨0, _, _, 0, by omega, rfl, rfl, rfl, by omega, hV0.out, (Below.refl _ _).alloc (Nat.le_refl _) _⟩
  case round =>
    obtain ⟨i, ad, cap, N, hi, rfl, rfl, hN, hNi, hv, hb⟩ := hrel
    have HNN : Hid (N = (newK O (R.take i)).length) := hN
    clear hN
    by_cases hlt : i < m
    · have hil : i < R.length := by rw [← HM.out]; exact hlt
      obtain ⟨bb, ob, hblb, hixb, e0, e1⟩ := Lies.clock (c := fun i => R.getD i ck0) (HR.out.below hb) cb hlt
      have HT : Hid (newK O (R.take (i + 1)) = if clkOf O (R.getD i ck0).site < (R.getD i ck0).count then newK O (R.take i) ++ [R.getD i ck0] else newK O (R.take i)) := by
        show _ = _; rw [take_clock R i hil, newK_snoc]
      clear hil
      generalize R.getD i ck0 = c at *
      go_wp2_with fail
      refine (countOf_any a n ca (fun i => O.getD i ck0) c.site _ (by omega) (HO.out.below hb)).mono ?_
      rintro e w1 ⟨rfl, rfl⟩
      rw [clk_list HN.out]
      have hz := hb.size
      have HBA : Hid (∀ o : Obj, Below w.heap.size w (w1.alloc o)) := fun o => hb.alloc hb.size o
      by_cases hp : clkOf O c.site < c.count
      · rw [if_pos hp] at HT
        generalize clkOf O c.site = x at *
        go_wp2_with (at_builtin; refine wpList_push (by rfl) _ _ 23 (by rfl) w.heap.size 37 2 16 (.agg #[.int .i64 0, .int .i64 0]) Tryz.underlying23 (by kernel_rfl) rfl (by decide) ad N cap _ (by rfl) (hv.keep ((Below.refl _ _).alloc (Nat.le_refl _) _)) _ _ c.cells (by rfl) rfl ?_ ?_ ?_ ?_ ?_ ?_; exact new_cells _ _ _; exact ones1 _; (omega); (omega); (simp; omega); intro ad' cap' w' hv' hb' hs')
        go_roundw
        case rel => exact ⟨i + 1, ad', cap', N + 1, by omega, by go_num, rfl, by rw [HT.out, List.length_append, ← HNN.out]; rfl, by omega, by rw [HT.out, kcells_app]; simpa [kcells] using hv', (HBA.out _).trans hb'⟩
        case measure => simp [intOf]; omega
      · rw [if_neg hp] at HT
        generalize clkOf O c.site = x at *
        go_wp2_with fail
        go_roundw
        case rel => exact ⟨i + 1, ad, cap, N, by omega, by go_num, rfl, by rw [HT.out]; exact HNN.out, by omega, by rw [HT.out]; exact hv, hb⟩
        case measure => simp [intOf]; omega
    · obtain rfl : m = i := by omega
      have HE : Hid (newK O (R.take m) = newK O R) := by show _ = _; rw [HM.out, List.take_length]
      go_wp2_with fail
      go_ret
      exact ⟨ad, cap, N, rfl, by rw [← HE.out]; exact HNN.out, by rw [← HE.out]; exact hv, hb⟩

set_option maxRecDepth 100000 in
set_option maxHeartbeats 4000000 in
theorem newerCards_any (O R : List Cd) (a b : Option Addr) (n m ca cb : Nat) (w : World) (hO : Lies w a n 5 (fun i => (O.getD i cd0).cells)) (hR : Lies w b m 5 (fun i => (R.getD i cd0).cells)) (hn : n = O.length) (hm : m = R.length) (hn2 : n ≤ 1099511627776) (hm2 : m ≤ 1099511627776) :
    Calls Tryz.prog 54 #[.slice a n ca, .slice b m cb] w fun e w' => ∃ ad cap N, e = .returned (.slice ad N cap) ∧ N = (newC O R).length ∧ Vec w' w.heap.size 39 5 ad N cap (ccells (newC O R)) ∧ Below w.heap.size w w' := by
  have hV0 : Hid (Vec (w.alloc (.cells #[] 39)) w.heap.size 39 5 (some ⟨w.heap.size, 0, none⟩) 0 0 (ccells [])) := Vec.lit w w.heap.size 39 5 0 [] (Nat.le_refl _) (by omega) rfl
  have HN : Hid (n = O.length) := hn
  have HM : Hid (m = R.length) := hm
  have HO : Hid (Lies w a n 5 (fun i => (O.getD i cd0).cells)) := hO
  have HR : Hid (Lies w b m 5 (fun i => (R.getD i cd0).cells)) := hR
  clear hn hm hO hR
  go_enter Tryz.func54, Tryz.ntmps54
  go_wp2_with fail
  go_loopw [5, 6, 7] (fun v u _ wr => ∃ (i : Nat) (ad : Option Addr) (cap N : Nat), i ≤ m ∧ u = .int .i64 i ∧ v = .slice ad N cap ∧ N = (newC O (R.take i)).length ∧ N ≤ i ∧ Vec wr w.heap.size 39 5 ad N cap (ccells (newC O (R.take i))) ∧ Below w.heap.size w wr) (fun _ u _ _ => m - (intOf u).toNat)
  case atStart => exact ⟨0, _, _, 0, by omega, rfl, rfl, rfl, by omega, hV0.out, (Below.refl _ _).alloc (Nat.le_refl _) _⟩
  case round =>
    obtain ⟨i, ad, cap, N, hi, rfl, rfl, hN, hNi, hv, hb⟩ := hrel
    have HNN : Hid (N = (newC O (R.take i)).length) := hN
    clear hN
    by_cases hlt : i < m
    · have hil : i < R.length := by rw [← HM.out]; exact hlt
      obtain ⟨bb, ob, hblb, hixb, e0, e1, e2, e3, e4⟩ := Lies.card (c := fun i => R.getD i cd0) (HR.out.below hb) cb hlt
      have HT : Hid (newC O (R.take (i + 1)) = if newP O (R.getD i cd0) = true then newC O (R.take i) ++ [R.getD i cd0] else newC O (R.take i)) := by
        show _ = _; rw [take_card R i hil, newC_snoc]
      clear hil
      generalize R.getD i cd0 = c at *
      go_wp2_with fail
      refine (pcardAt_any O a n ca c.id _ HN.out (by omega) (HO.out.below hb)).mono ?_
      rintro e w1 ⟨rfl, rfl⟩
      have hz := hb.size
      have HV : Hid (∀ X, Below w1.heap.size w1 X → Vec X w.heap.size 39 5 ad N cap (ccells (newC O (R.take i))) ∧ Below w.heap.size w X ∧ w.heap.size ≤ X.heap.size) := fun X h => ⟨hv.keep h, hb.trans (h.mono hb.size), Nat.le_trans hb.size h.size⟩
      have HO1 : Hid (Lies w1 a n 5 (fun i => (O.getD i cd0).cells)) := HO.out.below hb
      have HLE : Hid (cardIx O c.id ≤ n) := by show _ ≤ _; rw [HN.out]; exact cardIx_le _ _
      clear hv hb
      by_cases hq : cardIx O c.id < n
      · obtain ⟨bo, oo, hblo, hixo, f0, f1, f2, f3, f4⟩ := Lies.card (c := fun i => O.getD i cd0) HO1.out ca hq
        have HP : Hid (newP O c = laterB c (O.getD (cardIx O c.id) cd0)) := newP_in (by rw [← HN.out]; exact hq)
        generalize O.getD (cardIx O c.id) cd0 = d at *
        generalize cardIx O c.id = q at *
        have hqn : ((q : Int) == (n : Int)) = false := by rw [beq_eq_false_iff_ne]; omega
        go_wp2_with fail
        go_region_held3 (fun w' => w'.cell? ⟨bb, ob, none⟩ = some (.int .i64 c.id) ∧ w'.cell? ⟨bb, ob + 1, none⟩ = some (.int .i64 c.site) ∧ w'.cell? ⟨bb, ob + 2, none⟩ = some (.int .i64 c.count) ∧ w'.cell? ⟨bb, ob + 3, none⟩ = some (.bool c.gone) ∧ w'.cell? ⟨bb, ob + 4, none⟩ = some (.string c.text) ∧
             w'.cell? ⟨bo, oo, none⟩ = some (.int .i64 d.id) ∧ w'.cell? ⟨bo, oo + 1, none⟩ = some (.int .i64 d.site) ∧ w'.cell? ⟨bo, oo + 2, none⟩ = some (.int .i64 d.count) ∧ w'.cell? ⟨bo, oo + 3, none⟩ = some (.bool d.gone) ∧ w'.cell? ⟨bo, oo + 4, none⟩ = some (.string d.text)) (first | (go_keep; done) | (simp only [hcc bb _ hblb, hcc bo _ hblo]; go_keep; done))
             (first | (go_at_call 73; refine (plater_any c d _).mono ?_; rintro e w' ⟨rfl, hb2⟩; obtain ⟨hcc, hff⟩ := bcell hb2))
        have hbw : Below w1.heap.size w1 w' := Below.trans (by (repeat (first | exact Below.refl _ _ | refine Below.drew ?_))) hb2
        obtain ⟨hvX, hbX, hzX⟩ := HV.out w' hbw
        replace e0 := (hbw.cell (p := ⟨bb, ob, none⟩) hblb).trans e0
        replace e1 := (hbw.cell (p := ⟨bb, ob + 1, none⟩) hblb).trans e1
        replace e2 := (hbw.cell (p := ⟨bb, ob + 2, none⟩) hblb).trans e2
        replace e3 := (hbw.cell (p := ⟨bb, ob + 3, none⟩) hblb).trans e3
        replace e4 := (hbw.cell (p := ⟨bb, ob + 4, none⟩) hblb).trans e4
        clear hbw hb2 hcc hff HV
        cases hl : laterB c d with
        | true =>
          rw [HP.out, if_pos hl] at HT
          clear HP hl
          go_wp2_with (at_builtin; refine wpList_push (by rfl) _ _ 24 (by rfl) w.heap.size 39 5 48 (.agg #[.int .i64 0, .int .i64 0, .int .i64 0, .bool false, .string ⟨#[]⟩]) Tryz.underlying24 (by kernel_rfl) rfl (by decide) ad N cap _ (by rfl) (hvX.keep ((Below.refl _ _).alloc (Nat.le_refl _) _)) _ _ c.cells (by rfl) rfl ?_ ?_ ?_ ?_ ?_ ?_; exact new_cells _ _ _; exact ones2 _; (omega); (omega); (simp; omega); intro ad' cap' w9 hv' hb' hs')
          go_roundw
          case rel => exact ⟨i + 1, ad', cap', N + 1, by omega, by go_num, rfl, by rw [HT.out, List.length_append, ← HNN.out]; rfl, by omega, by rw [HT.out, ccells_app]; simpa [ccells] using hv', (hbX.alloc hzX _).trans hb'⟩
          case measure => simp [intOf]; omega
        | false =>
          rw [HP.out, if_neg (by rw [hl]; decide)] at HT
          clear HP hl
          go_wp2_with fail
          go_roundw
          case rel => exact ⟨i + 1, ad, cap, N, by omega, by go_num, rfl, by rw [HT.out]; exact HNN.out, by omega, by rw [HT.out]; exact hvX, hbX⟩
          case measure => simp [intOf]; omega
      · have HP : Hid (newP O c = true) := newP_end (by rw [← HN.out]; exact hq)
        have hqe : cardIx O c.id = n := by have := HLE.out; omega
        rw [hqe]
        rw [HP.out, if_pos rfl] at HT
        clear hqe hq HLE HP
        have hqn : ((n : Int) == (n : Int)) = true := by simp
        go_wp2_with fail
        go_quiet (fail)
        have hvx := fun (k : Nat) => (HV.out _ (below_drewN (Below.refl w1.heap.size w1) k)).1
        go_wp2_with (at_builtin; refine wpList_push (by rfl) _ _ 24 (by rfl) w.heap.size 39 5 48 (.agg #[.int .i64 0, .int .i64 0, .int .i64 0, .bool false, .string ⟨#[]⟩]) Tryz.underlying24 (by kernel_rfl) rfl (by decide) ad N cap _ (by rfl) ((hvx _).keep ((Below.refl _ _).alloc (Nat.le_refl _) _)) _ _ c.cells (by rfl) rfl ?_ ?_ ?_ ?_ ?_ ?_; exact new_cells _ _ _; exact ones2 _; (omega); (omega); (simp; omega); intro ad' cap' w' hv' hb' hs')
        go_roundw
        case rel => exact ⟨i + 1, ad', cap', N + 1, by omega, by go_num, rfl, by rw [HT.out, List.length_append, ← HNN.out]; rfl, by omega, by rw [HT.out, ccells_app]; simpa [ccells] using hv', ((HV.out _ (below_drewN (Below.refl _ _) _)).2.1.alloc (HV.out _ (below_drewN (Below.refl _ _) _)).2.2 _).trans hb'⟩
        case measure => simp [intOf]; omega
    · obtain rfl : m = i := by omega
      have HE : Hid (newC O (R.take m) = newC O R) := by show _ = _; rw [HM.out, List.take_length]
      go_wp2_with fail
      go_ret
      exact ⟨ad, cap, N, rfl, by rw [← HE.out]; exact HNN.out, by rw [← HE.out]; exact hv, hb⟩
end Go.Proofs.YtdjpkgaicmklmaaGreat

/- clocksOver of the program: one rising list laid over another: walked. -/
namespace Go.Proofs.YtdjpkgaicmklmaaGreat
open Go.RowKit

section
variable {P : Program} {w : World} {ops : Array Oper} {rest : List Oper} {o : Oper} {a : Act} {Q : Exit → Act → World → Prop}
/-- 'l[k:]': the list behind, its address a name. -/
theorem wpList_tailm (hgd : o.guard = none) (t : TypeId) (x lo : Operand) (ho : o.op = .slice t x (some lo) none none) (ht : P.underlying t = some (.slice (P.elem t))) (m : Nat) (hs : (P.info? (P.elem t)).map (·.size) = some m)
    (ad : Option Addr) (n cap k : Nat) (K : Int) (hx : a.eval x = .slice ad n cap) (hlo : a.eval lo = .int .i64 K) (hK : K = (k : Int)) (hk : k ≤ n) (f : Nat → List Value) (hL : Lies w ad n m f) (hc : n ≤ cap)
    (h : ∀ ad', Lies w ad' (n - k) m (fun i => f (k + i)) → wpList P ops Q rest (a.put o.dst (.slice ad' (n - k) (cap - k))) w) : wpList P ops Q (o :: rest) a w := by
  subst hK
  cases hq : P.info? (P.elem t) with
  | none => simp [hq] at hs
  | some i =>
    have hi : i.size = m := by simpa [hq] using hs
    have hz : (sizeOf (P.elem t)).run P w = .ok m w := by simp [sizeOf, typeInfo, hq, hi]
    have hrun : (Instr.sliceAt t (.slice ad n cap) (some (.int .i64 (k : Int))) none none).run P w = .ok (.slice (if cap = k then ad else ad.map (·.add (k * m))) (n - k) (cap - k)) w := by
      rw [run_sliceAt_slice w t _ _ _ _ ht, run_slice_l w t ad n cap ht .i64 (k : Int) (by omega) (by omega), hz]
      simp [sliced]
    refine wpList_plain hgd fun K hK => ?_
    unfold Oper.wp
    simp [execOp, ho, hx, hlo, hrun, Result.andThen]
    exact hK _ _ (h _ (hL.drop cap k hc))
end
theorem range_cells {α : Type} (cells : α → List Value) (z : α) (U : List α) (k : Nat) : ((List.range (U.length - k)).map fun j => cells (U.getD (k + j) z)).flatten = ((U.drop k).map cells).flatten := by
  congr 1
  apply List.ext_getElem?
  intro i
  by_cases hi : k + i < U.length
  · have h2 : i < U.length - k := by omega
    simp [hi, h2, List.getD]
  · have h2 : ¬ i < U.length - k := by omega
    simp [h2]
theorem range_ks (U : List Ck) (k : Nat) : ((List.range (U.length - k)).map fun j => (U.getD (k + j) ck0).cells).flatten = kcells (U.drop k) := range_cells Ck.cells ck0 U k
theorem range_cs (U : List Cd) (k : Nat) : ((List.range (U.length - k)).map fun j => (U.getD (k + j) cd0).cells).flatten = ccells (U.drop k) := range_cells Cd.cells cd0 U k

set_option maxRecDepth 100000 in
set_option maxHeartbeats 8000000 in
theorem clocksOver_any (U V : List Ck) (a b : Option Addr) (n m ca cb : Nat) (w : World) (hU : Lies w a n 2 (fun i => (U.getD i ck0).cells)) (hV : Lies w b m 2 (fun i => (V.getD i ck0).cells)) (hn : n = U.length) (hm : m = V.length) (hn2 : n ≤ 1099511627776) (hm2 : m ≤ 1099511627776) (hca : n ≤ ca) (hA : Asc Ck.site V) :
    Calls Tryz.prog 90 #[.slice a n ca, .slice b m cb] w fun e w' => ∃ ad cap N, e = .returned (.slice ad N cap) ∧ N = (layK Ck.site (fun _ c => c) U V).length ∧ Vec w' w.heap.size 37 2 ad N cap (kcells (layK Ck.site (fun _ c => c) U V)) ∧ Below w.heap.size w w' := by
  have hV0 : Hid (Vec (w.alloc (.cells #[] 37)) w.heap.size 37 2 (some ⟨w.heap.size, 0, none⟩) 0 0 (kcells [])) := Vec.lit w w.heap.size 37 2 0 [] (Nat.le_refl _) (by omega) rfl
  have HN : Hid (n = U.length) := hn
  have HM : Hid (m = V.length) := hm
  have HU : Hid (Lies w a n 2 (fun i => (U.getD i ck0).cells)) := hU
  have HV : Hid (Lies w b m 2 (fun i => (V.getD i ck0).cells)) := hV
  have HA : Hid (Asc Ck.site V) := hA
  clear hn hm hU hV hA
  go_enter Tryz.func90, Tryz.ntmps90
  go_wp2_with fail
  go_loopw [5, 6, 7] (fun v x u wr => ∃ (i k : Nat) (ad : Option Addr) (cap N : Nat) (L : List Ck), i ≤ m ∧ k ≤ n ∧ u = .int .i64 i ∧ x = .int .i64 k ∧ v = .slice ad N cap ∧ N = L.length ∧ N ≤ i + k ∧ L ++ U.drop k = layK Ck.site (fun _ c => c) U (V.take i) ∧ (∀ x ∈ L, ∀ j, i ≤ j → j < V.length → Ck.site x < Ck.site (V.getD j ck0)) ∧ Vec wr w.heap.size 37 2 ad N cap (kcells L) ∧ Below w.heap.size w wr) (fun _ _ u _ => m - (intOf u).toNat)
  case atStart => exact ⟨0, 0, _, _, 0, [], by omega, by omega, rfl, rfl, rfl, rfl, by omega, by simp [layK], (fun x hx => by cases hx), hV0.out, (Below.refl _ _).alloc (Nat.le_refl _) _⟩
  case round =>
    clear hV0
    obtain ⟨i, k, ad, cap, N, L, hi, hk, rfl, rfl, rfl, hN, hNi, hS, hlow, hv, hb⟩ := hrel
    have HNN : Hid (N = L.length) := hN
    have HS : Hid (L ++ U.drop k = layK Ck.site (fun _ c => c) U (V.take i)) := hS
    have HLOW : Hid (∀ x ∈ L, ∀ j, i ≤ j → j < V.length → Ck.site x < Ck.site (V.getD j ck0)) := hlow
    clear hN hS hlow
    by_cases hlt : i < m
    · have hil : i < V.length := by rw [← HM.out]; exact hlt
      have HVB : Hid (∀ X, Below w.heap.size w X → Lies X b m 2 (fun i => (V.getD i ck0).cells)) := fun X h => HV.out.below h
      have HT : Hid (layK Ck.site (fun _ c => c) U (V.take (i + 1)) = putK Ck.site (fun _ c => c) (layK Ck.site (fun _ c => c) U (V.take i)) (V.getD i ck0)) := by
        show _ = _; rw [take_clock V i hil, lay_snoc]
      have HUP : Hid (∀ j, i < j → j < V.length → Ck.site (V.getD i ck0) < Ck.site (V.getD j ck0)) := fun j h1 h2 => by
        have := List.pairwise_iff_getElem.1 HA.out i j hil h2 h1
        simpa [List.getD, hil, h2] using this
      have HL0 : Hid (∀ x ∈ L, Ck.site x < Ck.site (V.getD i ck0)) := fun x hx => HLOW.out x hx i (Nat.le_refl _) hil
      have HV5 : Hid (Vec wr w.heap.size 37 2 ad N cap (kcells L)) := hv
      have HB5 : Hid (Below w.heap.size w wr) := hb
      generalize layK Ck.site (fun _ c => c) U (V.take i) = S at *
      generalize hwr : wr = w5 at *
      clear hv hb hwr HLOW hil
      go_wp2_with fail
      go_loopw [5, 6] (fun v x wr => ∃ (k : Nat) (ad : Option Addr) (cap N : Nat) (L : List Ck), k ≤ n ∧ x = .int .i64 k ∧ v = .slice ad N cap ∧ N = L.length ∧ N ≤ i + k ∧ L ++ U.drop k = S ∧ (∀ x ∈ L, Ck.site x < Ck.site (V.getD i ck0)) ∧ Vec wr w.heap.size 37 2 ad N cap (kcells L) ∧ Below w.heap.size w wr) (fun _ x _ => n - (intOf x).toNat)
      case atStart => exact ⟨k, ad, cap, N, L, hk, rfl, rfl, HNN.out, hNi, HS.out, HL0.out, HV5.out, HB5.out⟩
      case round =>
        clear HNN HS HL0 HV5 HB5 hk hNi
        obtain ⟨k, ad, cap, N, L, hk, rfl, rfl, hN, hNi, hS, hlow, hv, hb⟩ := hrel
        have HNN : Hid (N = L.length) := hN
        have HS : Hid (L ++ U.drop k = S) := hS
        have HLOW : Hid (∀ x ∈ L, Ck.site x < Ck.site (V.getD i ck0)) := hlow
        clear hN hS hlow
        obtain ⟨bv, ov, hblv, hixv, e0, e1⟩ := Lies.clock (c := fun i => V.getD i ck0) (HVB.out _ hb) cb hlt
        have hz := hb.size
        have HALL : Hid (∀ X, Below wr.heap.size wr X → Vec X w.heap.size 37 2 ad N cap (kcells L) ∧ Below w.heap.size w X ∧ w.heap.size ≤ X.heap.size) := fun X h => ⟨hv.keep h, hb.trans (h.mono hb.size), Nat.le_trans hb.size h.size⟩
        by_cases hlk : k < n
        · have hkl : k < U.length := by rw [← HN.out]; exact hlk
          obtain ⟨bu, ou, hblu, hixu, f0, f1⟩ := Lies.clock (c := fun i => U.getD i ck0) (HU.out.below hb) ca hlk
          have HD : Hid (U.drop k = U.getD k ck0 :: U.drop (k + 1)) := by
            show _ = _; rw [List.drop_eq_getElem_cons hkl]; simp [List.getD, hkl]
          have hd1 : decide ((k : Int) < (n : Int)) = true := by simp; exact hlk
          clear hkl hv hb
          by_cases hq : Ck.site (U.getD k ck0) < Ck.site (V.getD i ck0)
          · have HQ : Hid (Ck.site (U.getD k ck0) < Ck.site (V.getD i ck0)) := hq
            have hd2 : decide (Ck.site (U.getD k ck0) < Ck.site (V.getD i ck0)) = true := decide_eq_true hq
            clear hq
            generalize U.getD k ck0 = u at *
            generalize V.getD i ck0 = c at *
            go_wp2_with fail
            go_quiet (fail)
            generalize hX : wr.drewN _ = X
            have hbX : Below wr.heap.size wr X := by rw [← hX]; exact below_drewN (Below.refl _ _) _
            obtain ⟨hvX, hbw, hzX⟩ := HALL.out X hbX
            replace f0 := (hbX.cell (p := ⟨bu, ou, none⟩) hblu).trans f0; replace f1 := (hbX.cell (p := ⟨bu, ou + 1, none⟩) hblu).trans f1
            clear hX HALL
            go_wp2_with (at_builtin; refine wpList_push (by rfl) _ _ 23 (by rfl) w.heap.size 37 2 16 (.agg #[.int .i64 0, .int .i64 0]) Tryz.underlying23 (by kernel_rfl) rfl (by decide) ad N cap _ (by rfl) (hvX.keep ((Below.refl _ _).alloc (Nat.le_refl _) _)) _ _ u.cells (by rfl) rfl ?_ ?_ ?_ ?_ ?_ ?_; exact new_cells _ _ _; exact ones1 _; (omega); (omega); (simp; omega); intro ad' cap' w' hv' hb' hs')
            go_roundw
            case rel => exact ⟨k + 1, ad', cap', N + 1, L ++ [u], by omega, by go_num, rfl, by rw [List.length_append, ← HNN.out]; rfl, by omega, by rw [← HS.out, HD.out]; simp, fun x hx => by rcases List.mem_append.1 hx with h | h; (exact HLOW.out x h); (simp at h; subst h; exact HQ.out), by rw [kcells_app]; simpa [kcells] using hv', (hbw.alloc hzX _).trans hb'⟩
            case measure => simp [intOf]; omega
          · have HQ : Hid (¬ Ck.site (U.getD k ck0) < Ck.site (V.getD i ck0)) := hq
            have hd2 : decide (Ck.site (U.getD k ck0) < Ck.site (V.getD i ck0)) = false := decide_eq_false hq
            clear hq
            have HCS : Hid ((∀ x ∈ L ++ [V.getD i ck0], ∀ j, i + 1 ≤ j → j < V.length → Ck.site x < Ck.site (V.getD j ck0))) := fun x hx j h1 h2 => by
              have hc := HUP.out j (by omega) h2
              rcases List.mem_append.1 hx with h | h
              · have := HLOW.out x h; omega
              · simp at h; subst h; exact hc
            generalize hu : U.getD k ck0 = u at *
            generalize hcg : V.getD i ck0 = c at *
            clear hu hcg
            go_wp2_with fail
            go_quiet (fail)
            generalize hX : wr.drewN _ = X
            have hbX : Below wr.heap.size wr X := by rw [← hX]; exact below_drewN (Below.refl _ _) _
            obtain ⟨hvX, hbw, hzX⟩ := HALL.out X hbX
            replace f0 := (hbX.cell (p := ⟨bu, ou, none⟩) hblu).trans f0; replace f1 := (hbX.cell (p := ⟨bu, ou + 1, none⟩) hblu).trans f1
            replace e0 := (hbX.cell (p := ⟨bv, ov, none⟩) hblv).trans e0; replace e1 := (hbX.cell (p := ⟨bv, ov + 1, none⟩) hblv).trans e1
            clear hX HALL
            by_cases he : Ck.site u = Ck.site c
            · have HE : Hid (Ck.site u = Ck.site c) := he
              have hd3 : (Ck.site u == Ck.site c) = true := by simp [he]
              clear he
              have HALL : Hid (∀ Y, Below X.heap.size X Y → Vec Y w.heap.size 37 2 ad N cap (kcells L) ∧ Below w.heap.size w Y ∧ w.heap.size ≤ Y.heap.size) := fun Y h => ⟨hvX.keep h, hbw.trans (h.mono hzX), Nat.le_trans hzX h.size⟩
              go_wp2_with fail
              go_quiet (fail)
              generalize hY : X.drewN _ = Y
              have hbY : Below X.heap.size X Y := by rw [← hY]; exact below_drewN (Below.refl _ _) _
              obtain ⟨hvY, hbwY, hzY⟩ := HALL.out Y hbY
              replace e0 := (hbY.cell (p := ⟨bv, ov, none⟩) (Nat.lt_of_lt_of_le hblv hbX.size)).trans e0; replace e1 := (hbY.cell (p := ⟨bv, ov + 1, none⟩) (Nat.lt_of_lt_of_le hblv hbX.size)).trans e1
              clear hY HALL hvX hbw hzX
              go_wp2_with (at_builtin; refine wpList_push (by rfl) _ _ 23 (by rfl) w.heap.size 37 2 16 (.agg #[.int .i64 0, .int .i64 0]) Tryz.underlying23 (by kernel_rfl) rfl (by decide) ad N cap _ (by rfl) (hvY.keep ((Below.refl _ _).alloc (Nat.le_refl _) _)) _ _ c.cells (by rfl) rfl ?_ ?_ ?_ ?_ ?_ ?_; exact new_cells _ _ _; exact ones1 _; (omega); (omega); (simp; omega); intro ad' cap' w' hv' hb' hs')
              go_roundw
              case rel => exact ⟨i + 1, k + 1, ad', cap', N + 1, L ++ [c], by omega, by omega, by go_num, by go_num, rfl, by rw [List.length_append, ← HNN.out]; rfl, by omega, by rw [HT.out, ← HS.out, HD.out, put_app Ck.site _ HLOW.out, put_eq Ck.site _ HE.out]; simp, HCS.out, by rw [kcells_app]; simpa [kcells] using hv', (hbwY.alloc hzY _).trans hb'⟩
              case measure => simp [intOf]; omega
            · have HE : Hid (Ck.site c < Ck.site u) := by have := HQ.out; show _ < _; omega
              have hd3 : (Ck.site u == Ck.site c) = false := by rw [beq_eq_false_iff_ne]; exact he
              clear he
              have HALL : Hid (∀ Y, Below X.heap.size X Y → Vec Y w.heap.size 37 2 ad N cap (kcells L) ∧ Below w.heap.size w Y ∧ w.heap.size ≤ Y.heap.size) := fun Y h => ⟨hvX.keep h, hbw.trans (h.mono hzX), Nat.le_trans hzX h.size⟩
              go_wp2_with fail
              go_quiet (fail)
              generalize hY : X.drewN _ = Y
              have hbY : Below X.heap.size X Y := by rw [← hY]; exact below_drewN (Below.refl _ _) _
              obtain ⟨hvY, hbwY, hzY⟩ := HALL.out Y hbY
              replace e0 := (hbY.cell (p := ⟨bv, ov, none⟩) (Nat.lt_of_lt_of_le hblv hbX.size)).trans e0; replace e1 := (hbY.cell (p := ⟨bv, ov + 1, none⟩) (Nat.lt_of_lt_of_le hblv hbX.size)).trans e1
              clear hY HALL hvX hbw hzX
              go_wp2_with (at_builtin; refine wpList_push (by rfl) _ _ 23 (by rfl) w.heap.size 37 2 16 (.agg #[.int .i64 0, .int .i64 0]) Tryz.underlying23 (by kernel_rfl) rfl (by decide) ad N cap _ (by rfl) (hvY.keep ((Below.refl _ _).alloc (Nat.le_refl _) _)) _ _ c.cells (by rfl) rfl ?_ ?_ ?_ ?_ ?_ ?_; exact new_cells _ _ _; exact ones1 _; (omega); (omega); (simp; omega); intro ad' cap' w' hv' hb' hs')
              go_roundw
              case rel => exact ⟨i + 1, k, ad', cap', N + 1, L ++ [c], by omega, by omega, by go_num, by go_num, rfl, by rw [List.length_append, ← HNN.out]; rfl, by omega, by rw [HT.out, ← HS.out, put_app Ck.site _ HLOW.out, HD.out, put_lt Ck.site _ HE.out]; simp, HCS.out, by rw [kcells_app]; simpa [kcells] using hv', (hbwY.alloc hzY _).trans hb'⟩
              case measure => simp [intOf]; omega
        · have hkn : k = n := by omega
          have HD : Hid (U.drop k = []) := by show _ = _; rw [hkn, HN.out]; exact List.drop_length
          have hd0 : ¬ (k : Int) < (n : Int) := by omega
          have hd1 : decide ((k : Int) < (n : Int)) = false := decide_eq_false hd0
          clear hkn
          have HCS : Hid ((∀ x ∈ L ++ [V.getD i ck0], ∀ j, i + 1 ≤ j → j < V.length → Ck.site x < Ck.site (V.getD j ck0))) := fun x hx j h1 h2 => by
              have hc := HUP.out j (by omega) h2
              rcases List.mem_append.1 hx with h | h
              · have := HLOW.out x h; omega
              · simp at h; subst h; exact hc
          generalize hcg : V.getD i ck0 = c at *
          clear hcg hv hb
          go_wp2_with fail
          go_quiet (fail)
          generalize hX : wr.drewN _ = X
          have hbX : Below wr.heap.size wr X := by rw [← hX]; exact below_drewN (Below.refl _ _) _
          obtain ⟨hvX, hbw, hzX⟩ := HALL.out X hbX
          replace e0 := (hbX.cell (p := ⟨bv, ov, none⟩) hblv).trans e0; replace e1 := (hbX.cell (p := ⟨bv, ov + 1, none⟩) hblv).trans e1
          clear hX HALL
          have HALL : Hid (∀ Y, Below X.heap.size X Y → Vec Y w.heap.size 37 2 ad N cap (kcells L) ∧ Below w.heap.size w Y ∧ w.heap.size ≤ Y.heap.size) := fun Y h => ⟨hvX.keep h, hbw.trans (h.mono hzX), Nat.le_trans hzX h.size⟩
          go_wp2_with fail
          go_quiet (fail)
          generalize hY : X.drewN _ = Y
          have hbY : Below X.heap.size X Y := by rw [← hY]; exact below_drewN (Below.refl _ _) _
          obtain ⟨hvY, hbwY, hzY⟩ := HALL.out Y hbY
          replace e0 := (hbY.cell (p := ⟨bv, ov, none⟩) (Nat.lt_of_lt_of_le hblv hbX.size)).trans e0; replace e1 := (hbY.cell (p := ⟨bv, ov + 1, none⟩) (Nat.lt_of_lt_of_le hblv hbX.size)).trans e1
          clear hY HALL hvX hbw hzX
          go_wp2_with (at_builtin; refine wpList_push (by rfl) _ _ 23 (by rfl) w.heap.size 37 2 16 (.agg #[.int .i64 0, .int .i64 0]) Tryz.underlying23 (by kernel_rfl) rfl (by decide) ad N cap _ (by rfl) (hvY.keep ((Below.refl _ _).alloc (Nat.le_refl _) _)) _ _ c.cells (by rfl) rfl ?_ ?_ ?_ ?_ ?_ ?_; exact new_cells _ _ _; exact ones1 _; (omega); (omega); (simp; omega); intro ad' cap' w' hv' hb' hs')
          go_roundw
          case rel => exact ⟨i + 1, k, ad', cap', N + 1, L ++ [c], by omega, by omega, by go_num, by go_num, rfl, by rw [List.length_append, ← HNN.out]; rfl, by omega, by rw [HT.out, ← HS.out, put_app Ck.site _ HLOW.out, HD.out]; simp [putK], HCS.out, by rw [kcells_app]; simpa [kcells] using hv', (hbwY.alloc hzY _).trans hb'⟩
          case measure => simp [intOf]; omega
    · obtain rfl : m = i := by omega
      have HE : Hid (L ++ U.drop k = layK Ck.site (fun _ c => c) U V) := by
        show _ = _; rw [HS.out, HM.out, List.take_length]
      have HLU : Hid (Lies wr a n 2 (fun i => (U.getD i ck0).cells)) := HU.out.below hb
      have hz := hb.size
      have u1 : (0 : Int) ≤ (k : Int) := by omega
      have u2 : (k : Int) ≤ (ca : Int) := by omega
      clear HS HLOW
      go_wp2_with (first
        | (refine wpList_tailm (by rfl) 23 _ _ (by rfl) (by kernel_rfl) 2 (by kernel_rfl) a n ca k _ (by rfl) (by rfl) (by omega) (by omega) _ HLU.out hca ?_; intro A9 HL9)
        | (at_builtin; refine wpList_pushAll (by rfl) _ _ 23 (by rfl) w.heap.size 37 2 16 (.agg #[.int .i64 0, .int .i64 0]) Tryz.underlying23 (by kernel_rfl) rfl (by decide) ad N cap _ (by rfl) hv A9 (n - k) (ca - k) (fun j => (U.getD (k + j) ck0).cells) (by rfl) HL9 (fun _ _ => rfl) (fun j _ => ones1 _) ?_ ?_ ?_ (N + (n - k)) ?_ ?_; (omega); (omega); (exact hz); (omega); intro ad5 cap5 w5 hv5 hb5 hs5))
      go_ret
      refine ⟨ad5, cap5, _, rfl, ?_, ?_, hb.trans hb5⟩
      · rw [← HE.out, List.length_append, List.length_drop, ← HNN.out, ← HN.out]
      · rw [← HE.out, kcells_app]
        have e : ((List.range (n - k)).map fun j => (U.getD (k + j) ck0).cells).flatten = kcells (U.drop k) := by
          rw [HN.out]; exact range_ks U k
        rw [e] at hv5; exact hv5
end Go.Proofs.YtdjpkgaicmklmaaGreat

/- A record takes its place among others: parcelref.clocked, walked. -/
namespace Go.Proofs.YtdjpkgaicmklmaaGreat
open Go.RowKit

section
variable {α : Type} (key : α → Int)
/-- One element more is looked at. -/
def stepI (c : α) (s : List α × Bool) (x : α) : List α × Bool :=
  let t : List α × Bool := if s.2 = false ∧ key c ≤ key x then (s.1 ++ [c], true) else s
  (if key x = key c then t.1 else t.1 ++ [x], t.2)
def runI (c : α) (l : List α) : List α × Bool := l.foldl (stepI key c) ([], false)
def finI (c : α) (s : List α × Bool) : List α := if s.2 = true then s.1 else s.1 ++ [c]
theorem runI_snoc (c : α) (l : List α) (x : α) : runI key c (l ++ [x]) = stepI key c (runI key c l) x := by unfold runI; rw [List.foldl_append]; rfl
theorem runI_true (c : α) : ∀ (l P : List α), (∀ x ∈ l, key c < key x) → l.foldl (stepI key c) (P, true) = (P ++ l, true)
  | [], P, _ => by simp
  | x :: l, P, h => by
    have h0 := h x (by simp)
    have e : stepI key c (P, true) x = (P ++ [x], true) := by
      unfold stepI; simp only [Bool.true_eq_false, false_and, if_false]; rw [if_neg (by omega)]
    rw [List.foldl_cons, e, runI_true c l _ (fun y hy => h y (by simp [hy]))]; simp
theorem runI_put (c : α) : ∀ (l P : List α), Asc key l → finI c (l.foldl (stepI key c) (P, false)) = P ++ putK key (fun _ c => c) l c
  | [], P, _ => by simp [finI, putK]
  | x :: l, P, h => by
    simp only [Asc, List.pairwise_cons] at h
    rw [List.foldl_cons]
    by_cases h1 : key x < key c
    · have e : stepI key c (P, false) x = (P ++ [x], false) := by
        unfold stepI; rw [if_neg (by intro q; omega)]; simp only; rw [if_neg (by omega)]
      rw [e, runI_put c l _ h.2, putK, if_pos h1]; simp
    · by_cases h2 : key x = key c
      · have e : stepI key c (P, false) x = (P ++ [c], true) := by
          unfold stepI; rw [if_pos ⟨rfl, by omega⟩]; simp only; rw [if_pos h2]
        rw [e, runI_true key c l _ (fun y hy => by have := h.1 y hy; omega), putK, if_neg h1, if_pos h2]; simp [finI]
      · have e : stepI key c (P, false) x = (P ++ [c] ++ [x], true) := by
          unfold stepI; rw [if_pos ⟨rfl, by omega⟩]; simp only; rw [if_neg h2]
        rw [e, runI_true key c l _ (fun y hy => by have := h.1 y hy; omega), putK, if_neg h1, if_neg h2]; simp [finI]
theorem fin_put (c : α) (l : List α) (h : Asc key l) : finI c (runI key c l) = putK key (fun _ c => c) l c := by
  have := runI_put key c l [] h; simpa [runI] using this
end
theorem runI_len {α : Type} (key : α → Int) (c : α) (l : List α) : (runI key c l).1.length ≤ 2 * l.length := by
  have : ∀ (l P : List α) (b : Bool), (l.foldl (stepI key c) (P, b)).1.length ≤ P.length + 2 * l.length := by
    intro l
    induction l with
    | nil => intro P b; simp
    | cons x l ih =>
      intro P b
      rw [List.foldl_cons]
      have h1 : (stepI key c (P, b) x).1.length ≤ P.length + 2 := by
        unfold stepI; split <;> (simp only; split <;> simp)
      generalize stepI key c (P, b) x = s at *
      obtain ⟨Q, b2⟩ := s
      have h2 := ih Q b2
      simp only [List.length_cons] at *
      omega
  simpa [runI] using this l [] false

set_option maxRecDepth 100000 in
set_option maxHeartbeats 4000000 in
theorem rclocked_any (L : List Ck) (c : Ck) (a : Option Addr) (n ca : Nat) (w : World) (hL : Lies w a n 2 (fun i => (L.getD i ck0).cells)) (hn : n = L.length) (hn2 : n ≤ 1099511627776) (hasc : Asc Ck.site L) :
    Calls Tryz.prog 59 #[.slice a n ca, .agg c.cells.toArray] w fun e w' => ∃ ad cap N, e = .returned (.slice ad N cap) ∧ N = (putK Ck.site (fun _ c => c) L c).length ∧ Vec w' w.heap.size 37 2 ad N cap (kcells (putK Ck.site (fun _ c => c) L c)) ∧ Below w.heap.size w w' := by
  have HL : Hid (Lies w a n 2 (fun i => (L.getD i ck0).cells)) := hL
  have HN : Hid (n = L.length) := hn
  have HF : Hid (finI c (runI Ck.site c L) = putK Ck.site (fun _ c => c) L c) := fin_put Ck.site c L hasc
  obtain ⟨hX, hW, hB⟩ := one_box w 37 c.cells.toArray
  have HX0 : Hid (Bx (w.alloc (.cells c.cells.toArray 37)) w.heap.size 37 c.cells ∧ Below w.heap.size w (w.alloc (.cells c.cells.toArray 37)) ∧ (w.alloc (.cells c.cells.toArray 37)).heap.size = w.heap.size + 1) := ⟨hX, hB, hW⟩
  clear hL hn hasc hX hW hB
  go_enter Tryz.func59, Tryz.ntmps59
  go_wp2_with fail
  generalize w.alloc (.cells c.cells.toArray 37) = W at *
  go_loopw [5, 6, 7] (fun v t u wr => ∃ (i : Nat) (ad : Option Addr) (cap N : Nat), i ≤ n ∧ u = .int .i64 i ∧ v = .slice ad N cap ∧ t = .bool (runI Ck.site c (L.take i)).2 ∧ N = (runI Ck.site c (L.take i)).1.length ∧ Vec wr W.heap.size 37 2 ad N cap (kcells (runI Ck.site c (L.take i)).1) ∧ Below W.heap.size W wr) (fun _ _ u _ => n - (intOf u).toNat)
  case atStart => exact ⟨0, none, 0, 0, by omega, rfl, rfl, by rw [List.take_zero]; rfl, by rw [List.take_zero]; rfl, by rw [List.take_zero]; exact Vec.nil _ _ _ _, Below.refl _ _⟩
  case round =>
    obtain ⟨i, ad, cap, N, hi, rfl, rfl, rfl, hN, hv, hb⟩ := hrel
    have HNN : Hid (N = (runI Ck.site c (L.take i)).1.length) := hN
    have hNi : N ≤ 2 * n := by have := runI_len Ck.site c (L.take i); have h2 : (L.take i).length ≤ n := by { rw [List.length_take]; omega }; omega
    have HBC : Hid (∀ X, Below W.heap.size W X → X.cell? ⟨w.heap.size, 0, none⟩ = some (.int .i64 c.site) ∧ X.cell? ⟨w.heap.size, 1, none⟩ = some (.int .i64 c.count)) := fun X hX => by
      have hx := HX0.out.1.below hX HX0.out.1.lt
      exact ⟨hx.cell 0, hx.cell 1⟩
    clear hN
    by_cases hlt : i < n
    · have hil : i < L.length := by rw [← HN.out]; exact hlt
      obtain ⟨bx, ox, hbl, hix, e0 , e1⟩ := Lies.clock (c := fun i => L.getD i ck0) HL.out ca hlt
      have HEC : Hid (∀ X, Below W.heap.size W X → X.cell? ⟨bx, ox, none⟩ = some (.int .i64 (L.getD i ck0).site) ∧ X.cell? ⟨bx, ox + 1, none⟩ = some (.int .i64 (L.getD i ck0).count)) := fun X hX => by
        have hxw : Below w.heap.size w X := HX0.out.2.1.trans (hX.mono HX0.out.2.1.size)
        exact ⟨(hxw.cell (p := ⟨bx, ox, none⟩) hbl).trans e0, (hxw.cell (p := ⟨bx, ox + 1, none⟩) hbl).trans e1⟩
      have HT : Hid (runI Ck.site c (L.take (i + 1)) = stepI Ck.site c (runI Ck.site c (L.take i)) (L.getD i ck0)) := by show _ = _; rw [take_clock L i hil, runI_snoc]
      clear e0 e1 hil
      generalize L.getD i ck0 = x at *
      generalize runI Ck.site c (L.take i) = s at *
      obtain ⟨P, bl⟩ := s
      dsimp only at HNN hv HT ⊢
      have HALL : Hid (∀ X, Below wr.heap.size wr X → Vec X W.heap.size 37 2 ad N cap (kcells P) ∧ Below W.heap.size W X ∧ W.heap.size ≤ X.heap.size) := fun X h => ⟨hv.keep h, hb.trans (h.mono hb.size), Nat.le_trans hb.size h.size⟩
      obtain ⟨z0, z1⟩ := HBC.out _ hb
      obtain ⟨e0, e1⟩ := HEC.out _ hb
      clear hv hb
      cases bl with
      | true =>
        by_cases hne : x.site = c.site
        · have HR : Hid (runI Ck.site c (L.take (i + 1)) = (P, true)) := by show _ = _; rw [HT.out]; unfold stepI; rw [if_neg (by intro q; cases q.1)]; simp only; rw [if_pos hne]
          have hd2 : (x.site != c.site) = false := by rw [bne_eq_false_iff_eq]; exact hne
          clear HT hne
          go_wp2_with fail
          go_quiet (fail)
          generalize hX : wr.drewN _ = X
          have hbX : Below wr.heap.size wr X := by rw [← hX]; exact below_drewN (Below.refl _ _) _
          obtain ⟨hvX, hbwX, hzX⟩ := HALL.out X hbX
          clear hX HALL z0 z1 e0 e1
          obtain ⟨z0, z1⟩ := HBC.out _ hbwX
          obtain ⟨e0, e1⟩ := HEC.out _ hbwX
          have HALL : Hid (∀ Y, Below X.heap.size X Y → Vec Y W.heap.size 37 2 ad N cap (kcells P) ∧ Below W.heap.size W Y ∧ W.heap.size ≤ Y.heap.size) := fun Y h => ⟨hvX.keep h, hbwX.trans (h.mono hbwX.size), Nat.le_trans hbwX.size h.size⟩
          clear hvX hbX hbwX hzX
          go_wp2_with fail
          go_quiet (fail)
          generalize hY : X.drewN _ = Y
          have hbY : Below X.heap.size X Y := by rw [← hY]; exact below_drewN (Below.refl _ _) _
          obtain ⟨hvY, hbwY, hzY⟩ := HALL.out Y hbY
          clear hY HALL z0 z1 e0 e1
          obtain ⟨z0, z1⟩ := HBC.out _ hbwY
          obtain ⟨e0, e1⟩ := HEC.out _ hbwY
          go_wp2_with fail
          go_roundw
          case rel => exact ⟨i + 1, ad, cap, N, by omega, by go_num, rfl, by rw [HR.out], by rw [HR.out]; simp; have := HNN.out; omega, by rw [HR.out]; exact hvY, hbwY⟩
          case measure => simp [intOf]; omega
        · have HR : Hid (runI Ck.site c (L.take (i + 1)) = (P ++ [x], true)) := by show _ = _; rw [HT.out]; unfold stepI; rw [if_neg (by intro q; cases q.1)]; simp only; rw [if_neg hne]
          have hd2 : (x.site != c.site) = true := bne_iff_ne.mpr hne
          clear HT hne
          go_wp2_with fail
          go_quiet (fail)
          generalize hX : wr.drewN _ = X
          have hbX : Below wr.heap.size wr X := by rw [← hX]; exact below_drewN (Below.refl _ _) _
          obtain ⟨hvX, hbwX, hzX⟩ := HALL.out X hbX
          clear hX HALL z0 z1 e0 e1
          obtain ⟨z0, z1⟩ := HBC.out _ hbwX
          obtain ⟨e0, e1⟩ := HEC.out _ hbwX
          have HALL : Hid (∀ Y, Below X.heap.size X Y → Vec Y W.heap.size 37 2 ad N cap (kcells P) ∧ Below W.heap.size W Y ∧ W.heap.size ≤ Y.heap.size) := fun Y h => ⟨hvX.keep h, hbwX.trans (h.mono hbwX.size), Nat.le_trans hbwX.size h.size⟩
          clear hvX hbX hbwX hzX
          go_wp2_with fail
          go_quiet (fail)
          generalize hY : X.drewN _ = Y
          have hbY : Below X.heap.size X Y := by rw [← hY]; exact below_drewN (Below.refl _ _) _
          obtain ⟨hvY, hbwY, hzY⟩ := HALL.out Y hbY
          clear hY HALL z0 z1 e0 e1
          obtain ⟨z0, z1⟩ := HBC.out _ hbwY
          obtain ⟨e0, e1⟩ := HEC.out _ hbwY
          go_wp2_with (at_builtin; refine wpList_push (by rfl) _ _ 23 (by rfl) W.heap.size 37 2 16 (.agg #[.int .i64 0, .int .i64 0]) Tryz.underlying23 (by kernel_rfl) rfl (by decide) ad (N) cap _ (by rfl) (hvY.keep ((Below.refl _ _).alloc (Nat.le_refl _) _)) _ _ x.cells (by rfl) rfl ?_ ?_ ?_ ?_ ?_ ?_; exact new_cells _ _ _; exact ones1 _; (omega); (omega); (simp; omega); intro ad' cap' w' hv' hb' hs')
          go_roundw
          case rel => exact ⟨i + 1, ad', cap', N + 1, by omega, by go_num, rfl, by rw [HR.out], by rw [HR.out]; simp; have := HNN.out; omega, by rw [HR.out]; show Vec w' _ _ _ _ _ _ (kcells (P ++ [x])); rw [kcells_app]; simpa [kcells] using hv', (hbwY.alloc hzY _).trans hb'⟩
          case measure => simp [intOf]; omega
      | false =>
        by_cases hle : c.site ≤ x.site
        · by_cases hne : x.site = c.site
          · have HR : Hid (runI Ck.site c (L.take (i + 1)) = (P ++ [c], true)) := by show _ = _; rw [HT.out]; unfold stepI; rw [if_pos ⟨rfl, hle⟩]; simp only; rw [if_pos hne]
            have hd1 : decide (c.site ≤ x.site) = true := decide_eq_true hle
            have hd2 : (x.site != c.site) = false := by rw [bne_eq_false_iff_eq]; exact hne
            clear HT hle hne
            go_wp2_with fail
            go_quiet (fail)
            generalize hX : wr.drewN _ = X
            have hbX : Below wr.heap.size wr X := by rw [← hX]; exact below_drewN (Below.refl _ _) _
            obtain ⟨hvX, hbwX, hzX⟩ := HALL.out X hbX
            clear hX HALL z0 z1 e0 e1
            obtain ⟨z0, z1⟩ := HBC.out _ hbwX
            obtain ⟨e0, e1⟩ := HEC.out _ hbwX
            go_wp2_with (at_builtin; refine wpList_push (by rfl) _ _ 23 (by rfl) W.heap.size 37 2 16 (.agg #[.int .i64 0, .int .i64 0]) Tryz.underlying23 (by kernel_rfl) rfl (by decide) ad (N) cap _ (by rfl) (hvX.keep ((Below.refl _ _).alloc (Nat.le_refl _) _)) _ _ c.cells (by rfl) rfl ?_ ?_ ?_ ?_ ?_ ?_; exact new_cells _ _ _; exact ones1 _; (omega); (omega); (simp; omega); intro ad1 cap1 w1 hv1 hb1 hs1)
            rw [show kcells P ++ c.cells = kcells (P ++ [c]) by rw [kcells_app]; simp [kcells]] at hv1
            have hbw1 := (hbwX.alloc hzX _).trans hb1
            have HALL : Hid (∀ X, Below w1.heap.size w1 X → Vec X W.heap.size 37 2 ad1 (N + 1) cap1 (kcells (P ++ [c])) ∧ Below W.heap.size W X ∧ W.heap.size ≤ X.heap.size) := fun X h => ⟨hv1.keep h, hbw1.trans (h.mono hbw1.size), Nat.le_trans hbw1.size h.size⟩
            clear z0 z1 e0 e1
            obtain ⟨z0, z1⟩ := HBC.out _ hbw1
            obtain ⟨e0, e1⟩ := HEC.out _ hbw1
            clear hvX hbX hbwX hzX hv1 hb1 hs1 hbw1
            go_wp2_with fail
            go_quiet (fail)
            generalize hY : w1.drewN _ = Y
            have hbY : Below w1.heap.size w1 Y := by rw [← hY]; exact below_drewN (Below.refl _ _) _
            obtain ⟨hvY, hbwY, hzY⟩ := HALL.out Y hbY
            clear hY HALL z0 z1 e0 e1
            obtain ⟨z0, z1⟩ := HBC.out _ hbwY
            obtain ⟨e0, e1⟩ := HEC.out _ hbwY
            go_wp2_with fail
            go_roundw
            case rel => exact ⟨i + 1, ad1, cap1, N + 1, by omega, by go_num, rfl, by rw [HR.out], by rw [HR.out]; simp; have := HNN.out; omega, by rw [HR.out]; exact hvY, hbwY⟩
            case measure => simp [intOf]; omega
          · have HR : Hid (runI Ck.site c (L.take (i + 1)) = (P ++ [c] ++ [x], true)) := by show _ = _; rw [HT.out]; unfold stepI; rw [if_pos ⟨rfl, hle⟩]; simp only; rw [if_neg hne]
            have hd1 : decide (c.site ≤ x.site) = true := decide_eq_true hle
            have hd2 : (x.site != c.site) = true := bne_iff_ne.mpr hne
            clear HT hle hne
            go_wp2_with fail
            go_quiet (fail)
            generalize hX : wr.drewN _ = X
            have hbX : Below wr.heap.size wr X := by rw [← hX]; exact below_drewN (Below.refl _ _) _
            obtain ⟨hvX, hbwX, hzX⟩ := HALL.out X hbX
            clear hX HALL z0 z1 e0 e1
            obtain ⟨z0, z1⟩ := HBC.out _ hbwX
            obtain ⟨e0, e1⟩ := HEC.out _ hbwX
            go_wp2_with (at_builtin; refine wpList_push (by rfl) _ _ 23 (by rfl) W.heap.size 37 2 16 (.agg #[.int .i64 0, .int .i64 0]) Tryz.underlying23 (by kernel_rfl) rfl (by decide) ad (N) cap _ (by rfl) (hvX.keep ((Below.refl _ _).alloc (Nat.le_refl _) _)) _ _ c.cells (by rfl) rfl ?_ ?_ ?_ ?_ ?_ ?_; exact new_cells _ _ _; exact ones1 _; (omega); (omega); (simp; omega); intro ad1 cap1 w1 hv1 hb1 hs1)
            rw [show kcells P ++ c.cells = kcells (P ++ [c]) by rw [kcells_app]; simp [kcells]] at hv1
            have hbw1 := (hbwX.alloc hzX _).trans hb1
            have HALL : Hid (∀ X, Below w1.heap.size w1 X → Vec X W.heap.size 37 2 ad1 (N + 1) cap1 (kcells (P ++ [c])) ∧ Below W.heap.size W X ∧ W.heap.size ≤ X.heap.size) := fun X h => ⟨hv1.keep h, hbw1.trans (h.mono hbw1.size), Nat.le_trans hbw1.size h.size⟩
            clear z0 z1 e0 e1
            obtain ⟨z0, z1⟩ := HBC.out _ hbw1
            obtain ⟨e0, e1⟩ := HEC.out _ hbw1
            clear hvX hbX hbwX hzX hv1 hb1 hs1 hbw1
            go_wp2_with fail
            go_quiet (fail)
            generalize hY : w1.drewN _ = Y
            have hbY : Below w1.heap.size w1 Y := by rw [← hY]; exact below_drewN (Below.refl _ _) _
            obtain ⟨hvY, hbwY, hzY⟩ := HALL.out Y hbY
            clear hY HALL z0 z1 e0 e1
            obtain ⟨z0, z1⟩ := HBC.out _ hbwY
            obtain ⟨e0, e1⟩ := HEC.out _ hbwY
            go_wp2_with (at_builtin; refine wpList_push (by rfl) _ _ 23 (by rfl) W.heap.size 37 2 16 (.agg #[.int .i64 0, .int .i64 0]) Tryz.underlying23 (by kernel_rfl) rfl (by decide) ad1 (N + 1) cap1 _ (by rfl) (hvY.keep ((Below.refl _ _).alloc (Nat.le_refl _) _)) _ _ x.cells (by rfl) rfl ?_ ?_ ?_ ?_ ?_ ?_; exact new_cells _ _ _; exact ones1 _; (omega); (omega); (simp; omega); intro ad' cap' w' hv' hb' hs')
            go_roundw
            case rel => exact ⟨i + 1, ad', cap', N + 1 + 1, by omega, by go_num, rfl, by rw [HR.out], by rw [HR.out]; simp; have := HNN.out; omega, by rw [HR.out]; show Vec w' _ _ _ _ _ _ (kcells (P ++ [c] ++ [x])); rw [kcells_app]; simpa [kcells] using hv', (hbwY.alloc hzY _).trans hb'⟩
            case measure => simp [intOf]; omega
        · have hne : ¬ x.site = c.site := by omega
          have HR : Hid (runI Ck.site c (L.take (i + 1)) = (P ++ [x], false)) := by show _ = _; rw [HT.out]; unfold stepI; rw [if_neg (by intro q; exact hle q.2)]; simp only; rw [if_neg hne]
          have hd1 : decide (c.site ≤ x.site) = false := decide_eq_false hle
          have hd2 : (x.site != c.site) = true := bne_iff_ne.mpr hne
          clear HT hle hne
          go_wp2_with fail
          go_quiet (fail)
          generalize hX : wr.drewN _ = X
          have hbX : Below wr.heap.size wr X := by rw [← hX]; exact below_drewN (Below.refl _ _) _
          obtain ⟨hvX, hbwX, hzX⟩ := HALL.out X hbX
          clear hX HALL z0 z1 e0 e1
          obtain ⟨z0, z1⟩ := HBC.out _ hbwX
          obtain ⟨e0, e1⟩ := HEC.out _ hbwX
          have HALL : Hid (∀ Y, Below X.heap.size X Y → Vec Y W.heap.size 37 2 ad N cap (kcells P) ∧ Below W.heap.size W Y ∧ W.heap.size ≤ Y.heap.size) := fun Y h => ⟨hvX.keep h, hbwX.trans (h.mono hbwX.size), Nat.le_trans hbwX.size h.size⟩
          clear hvX hbX hbwX hzX
          go_wp2_with fail
          go_quiet (fail)
          generalize hY : X.drewN _ = Y
          have hbY : Below X.heap.size X Y := by rw [← hY]; exact below_drewN (Below.refl _ _) _
          obtain ⟨hvY, hbwY, hzY⟩ := HALL.out Y hbY
          clear hY HALL z0 z1 e0 e1
          obtain ⟨z0, z1⟩ := HBC.out _ hbwY
          obtain ⟨e0, e1⟩ := HEC.out _ hbwY
          go_wp2_with (at_builtin; refine wpList_push (by rfl) _ _ 23 (by rfl) W.heap.size 37 2 16 (.agg #[.int .i64 0, .int .i64 0]) Tryz.underlying23 (by kernel_rfl) rfl (by decide) ad (N) cap _ (by rfl) (hvY.keep ((Below.refl _ _).alloc (Nat.le_refl _) _)) _ _ x.cells (by rfl) rfl ?_ ?_ ?_ ?_ ?_ ?_; exact new_cells _ _ _; exact ones1 _; (omega); (omega); (simp; omega); intro ad' cap' w' hv' hb' hs')
          go_roundw
          case rel => exact ⟨i + 1, ad', cap', N + 1, by omega, by go_num, rfl, by rw [HR.out], by rw [HR.out]; simp; have := HNN.out; omega, by rw [HR.out]; show Vec w' _ _ _ _ _ _ (kcells (P ++ [x])); rw [kcells_app]; simpa [kcells] using hv', (hbwY.alloc hzY _).trans hb'⟩
          case measure => simp [intOf]; omega
    · obtain rfl : n = i := by omega
      have HTK : Hid (L.take n = L) := by show _ = _; rw [HN.out]; exact List.take_length
      rw [HTK.out] at hv HNN ⊢
      generalize runI Ck.site c L = s at *
      obtain ⟨P, bl⟩ := s
      dsimp only at HNN hv HF ⊢
      have hold := fun X (hX : Below W.heap.size W X) => HX0.out.2.1.trans (hX.mono HX0.out.2.1.size)
      have HOLD : Hid (∀ X, Below W.heap.size W X → Below w.heap.size w X) := hold
      have HW : Hid (w.heap.size ≤ W.heap.size) := HX0.out.2.1.size
      obtain ⟨z0, z1⟩ := HBC.out _ hb
      clear hold
      cases bl with
      | true =>
        have HE : Hid (P = putK Ck.site (fun _ c => c) L c) := by show _ = _; rw [← HF.out]; rfl
        go_wp2_with fail
        go_ret
        exact ⟨ad, cap, N, rfl, by rw [← HE.out]; exact HNN.out, by rw [← HE.out]; exact hv.mono HW.out, HOLD.out _ hb⟩
      | false =>
        have HE : Hid (P ++ [c] = putK Ck.site (fun _ c => c) L c) := by show _ = _; rw [← HF.out]; rfl
        have hzz := hb.size
        have HBW : Hid (Below W.heap.size W wr) := hb
        clear hb
        go_wp2_with (at_builtin; refine wpList_push (by rfl) _ _ 23 (by rfl) W.heap.size 37 2 16 (.agg #[.int .i64 0, .int .i64 0]) Tryz.underlying23 (by kernel_rfl) rfl (by decide) ad (N) cap _ (by rfl) (hv.keep ((Below.refl _ _).alloc (Nat.le_refl _) _)) _ _ c.cells (by rfl) rfl ?_ ?_ ?_ ?_ ?_ ?_; exact new_cells _ _ _; exact ones1 _; (omega); (omega); (simp; omega); intro ad' cap' w' hv' hb' hs')
        go_ret
        exact ⟨ad', cap', N + 1, rfl, by rw [← HE.out, List.length_append, ← HNN.out]; rfl, by rw [← HE.out, kcells_app]; exact (by simpa [kcells] using hv' : Vec w' W.heap.size 37 2 ad' (N + 1) cap' (kcells P ++ kcells [c])).mono HW.out, HOLD.out _ ((HBW.out.alloc hzz _).trans hb')⟩
end Go.Proofs.YtdjpkgaicmklmaaGreat

/- cardsOver of the program: one rising list laid over another: walked. -/
namespace Go.Proofs.YtdjpkgaicmklmaaGreat
open Go.RowKit


set_option maxRecDepth 100000 in
set_option maxHeartbeats 8000000 in
theorem cardsOver_any (U V : List Cd) (a b : Option Addr) (n m ca cb : Nat) (w : World) (hU : Lies w a n 5 (fun i => (U.getD i cd0).cells)) (hV : Lies w b m 5 (fun i => (V.getD i cd0).cells)) (hn : n = U.length) (hm : m = V.length) (hn2 : n ≤ 1099511627776) (hm2 : m ≤ 1099511627776) (hca : n ≤ ca) (hA : Asc Cd.id V) :
    Calls Tryz.prog 91 #[.slice a n ca, .slice b m cb] w fun e w' => ∃ ad cap N, e = .returned (.slice ad N cap) ∧ N = (layK Cd.id (fun _ c => c) U V).length ∧ Vec w' w.heap.size 39 5 ad N cap (ccells (layK Cd.id (fun _ c => c) U V)) ∧ Below w.heap.size w w' := by
  have hV0 : Hid (Vec (w.alloc (.cells #[] 39)) w.heap.size 39 5 (some ⟨w.heap.size, 0, none⟩) 0 0 (ccells [])) := Vec.lit w w.heap.size 39 5 0 [] (Nat.le_refl _) (by omega) rfl
  have HN : Hid (n = U.length) := hn
  have HM : Hid (m = V.length) := hm
  have HU : Hid (Lies w a n 5 (fun i => (U.getD i cd0).cells)) := hU
  have HV : Hid (Lies w b m 5 (fun i => (V.getD i cd0).cells)) := hV
  have HA : Hid (Asc Cd.id V) := hA
  clear hn hm hU hV hA
  go_enter Tryz.func91, Tryz.ntmps91
  go_wp2_with fail
  go_loopw [5, 6, 7] (fun v x u wr => ∃ (i k : Nat) (ad : Option Addr) (cap N : Nat) (L : List Cd), i ≤ m ∧ k ≤ n ∧ u = .int .i64 i ∧ x = .int .i64 k ∧ v = .slice ad N cap ∧ N = L.length ∧ N ≤ i + k ∧ L ++ U.drop k = layK Cd.id (fun _ c => c) U (V.take i) ∧ (∀ x ∈ L, ∀ j, i ≤ j → j < V.length → Cd.id x < Cd.id (V.getD j cd0)) ∧ Vec wr w.heap.size 39 5 ad N cap (ccells L) ∧ Below w.heap.size w wr) (fun _ _ u _ => m - (intOf u).toNat)
  case atStart => exact ⟨0, 0, _, _, 0, [], by omega, by omega, rfl, rfl, rfl, rfl, by omega, by simp [layK], (fun x hx => by cases hx), hV0.out, (Below.refl _ _).alloc (Nat.le_refl _) _⟩
  case round =>
    clear hV0
    obtain ⟨i, k, ad, cap, N, L, hi, hk, rfl, rfl, rfl, hN, hNi, hS, hlow, hv, hb⟩ := hrel
    have HNN : Hid (N = L.length) := hN
    have HS : Hid (L ++ U.drop k = layK Cd.id (fun _ c => c) U (V.take i)) := hS
    have HLOW : Hid (∀ x ∈ L, ∀ j, i ≤ j → j < V.length → Cd.id x < Cd.id (V.getD j cd0)) := hlow
    clear hN hS hlow
    by_cases hlt : i < m
    · have hil : i < V.length := by rw [← HM.out]; exact hlt
      have HVB : Hid (∀ X, Below w.heap.size w X → Lies X b m 5 (fun i => (V.getD i cd0).cells)) := fun X h => HV.out.below h
      have HT : Hid (layK Cd.id (fun _ c => c) U (V.take (i + 1)) = putK Cd.id (fun _ c => c) (layK Cd.id (fun _ c => c) U (V.take i)) (V.getD i cd0)) := by
        show _ = _; rw [take_card V i hil, lay_snoc]
      have HUP : Hid (∀ j, i < j → j < V.length → Cd.id (V.getD i cd0) < Cd.id (V.getD j cd0)) := fun j h1 h2 => by
        have := List.pairwise_iff_getElem.1 HA.out i j hil h2 h1
        simpa [List.getD, hil, h2] using this
      have HL0 : Hid (∀ x ∈ L, Cd.id x < Cd.id (V.getD i cd0)) := fun x hx => HLOW.out x hx i (Nat.le_refl _) hil
      have HV5 : Hid (Vec wr w.heap.size 39 5 ad N cap (ccells L)) := hv
      have HB5 : Hid (Below w.heap.size w wr) := hb
      generalize layK Cd.id (fun _ c => c) U (V.take i) = S at *
      generalize hwr : wr = w5 at *
      clear hv hb hwr HLOW hil
      go_wp2_with fail
      go_loopw [5, 6] (fun v x wr => ∃ (k : Nat) (ad : Option Addr) (cap N : Nat) (L : List Cd), k ≤ n ∧ x = .int .i64 k ∧ v = .slice ad N cap ∧ N = L.length ∧ N ≤ i + k ∧ L ++ U.drop k = S ∧ (∀ x ∈ L, Cd.id x < Cd.id (V.getD i cd0)) ∧ Vec wr w.heap.size 39 5 ad N cap (ccells L) ∧ Below w.heap.size w wr) (fun _ x _ => n - (intOf x).toNat)
      case atStart => exact ⟨k, ad, cap, N, L, hk, rfl, rfl, HNN.out, hNi, HS.out, HL0.out, HV5.out, HB5.out⟩
      case round =>
        clear HNN HS HL0 HV5 HB5 hk hNi
        obtain ⟨k, ad, cap, N, L, hk, rfl, rfl, hN, hNi, hS, hlow, hv, hb⟩ := hrel
        have HNN : Hid (N = L.length) := hN
        have HS : Hid (L ++ U.drop k = S) := hS
        have HLOW : Hid (∀ x ∈ L, Cd.id x < Cd.id (V.getD i cd0)) := hlow
        clear hN hS hlow
        obtain ⟨bv, ov, hblv, hixv, e0, e1, e2, e3, e4⟩ := Lies.card (c := fun i => V.getD i cd0) (HVB.out _ hb) cb hlt
        have hz := hb.size
        have HALL : Hid (∀ X, Below wr.heap.size wr X → Vec X w.heap.size 39 5 ad N cap (ccells L) ∧ Below w.heap.size w X ∧ w.heap.size ≤ X.heap.size) := fun X h => ⟨hv.keep h, hb.trans (h.mono hb.size), Nat.le_trans hb.size h.size⟩
        by_cases hlk : k < n
        · have hkl : k < U.length := by rw [← HN.out]; exact hlk
          obtain ⟨bu, ou, hblu, hixu, f0, f1, f2, f3, f4⟩ := Lies.card (c := fun i => U.getD i cd0) (HU.out.below hb) ca hlk
          have HD : Hid (U.drop k = U.getD k cd0 :: U.drop (k + 1)) := by
            show _ = _; rw [List.drop_eq_getElem_cons hkl]; simp [List.getD, hkl]
          have hd1 : decide ((k : Int) < (n : Int)) = true := by simp; exact hlk
          clear hkl hv hb
          by_cases hq : Cd.id (U.getD k cd0) < Cd.id (V.getD i cd0)
          · have HQ : Hid (Cd.id (U.getD k cd0) < Cd.id (V.getD i cd0)) := hq
            have hd2 : decide (Cd.id (U.getD k cd0) < Cd.id (V.getD i cd0)) = true := decide_eq_true hq
            clear hq
            generalize U.getD k cd0 = u at *
            generalize V.getD i cd0 = c at *
            go_wp2_with fail
            go_quiet (fail)
            generalize hX : wr.drewN _ = X
            have hbX : Below wr.heap.size wr X := by rw [← hX]; exact below_drewN (Below.refl _ _) _
            obtain ⟨hvX, hbw, hzX⟩ := HALL.out X hbX
            replace f0 := (hbX.cell (p := ⟨bu, ou, none⟩) hblu).trans f0; replace f1 := (hbX.cell (p := ⟨bu, ou + 1, none⟩) hblu).trans f1; replace f2 := (hbX.cell (p := ⟨bu, ou + 2, none⟩) hblu).trans f2; replace f3 := (hbX.cell (p := ⟨bu, ou + 3, none⟩) hblu).trans f3; replace f4 := (hbX.cell (p := ⟨bu, ou + 4, none⟩) hblu).trans f4
            clear hX HALL
            go_wp2_with (at_builtin; refine wpList_push (by rfl) _ _ 24 (by rfl) w.heap.size 39 5 48 (.agg #[.int .i64 0, .int .i64 0, .int .i64 0, .bool false, .string ⟨#[]⟩]) Tryz.underlying24 (by kernel_rfl) rfl (by decide) ad N cap _ (by rfl) (hvX.keep ((Below.refl _ _).alloc (Nat.le_refl _) _)) _ _ u.cells (by rfl) rfl ?_ ?_ ?_ ?_ ?_ ?_; exact new_cells _ _ _; exact ones2 _; (omega); (omega); (simp; omega); intro ad' cap' w' hv' hb' hs')
            go_roundw
            case rel => exact ⟨k + 1, ad', cap', N + 1, L ++ [u], by omega, by go_num, rfl, by rw [List.length_append, ← HNN.out]; rfl, by omega, by rw [← HS.out, HD.out]; simp, fun x hx => by rcases List.mem_append.1 hx with h | h; (exact HLOW.out x h); (simp at h; subst h; exact HQ.out), by rw [ccells_app]; simpa [ccells] using hv', (hbw.alloc hzX _).trans hb'⟩
            case measure => simp [intOf]; omega
          · have HQ : Hid (¬ Cd.id (U.getD k cd0) < Cd.id (V.getD i cd0)) := hq
            have hd2 : decide (Cd.id (U.getD k cd0) < Cd.id (V.getD i cd0)) = false := decide_eq_false hq
            clear hq
            have HCS : Hid ((∀ x ∈ L ++ [V.getD i cd0], ∀ j, i + 1 ≤ j → j < V.length → Cd.id x < Cd.id (V.getD j cd0))) := fun x hx j h1 h2 => by
              have hc := HUP.out j (by omega) h2
              rcases List.mem_append.1 hx with h | h
              · have := HLOW.out x h; omega
              · simp at h; subst h; exact hc
            generalize hu : U.getD k cd0 = u at *
            generalize hcg : V.getD i cd0 = c at *
            clear hu hcg
            go_wp2_with fail
            go_quiet (fail)
            generalize hX : wr.drewN _ = X
            have hbX : Below wr.heap.size wr X := by rw [← hX]; exact below_drewN (Below.refl _ _) _
            obtain ⟨hvX, hbw, hzX⟩ := HALL.out X hbX
            replace f0 := (hbX.cell (p := ⟨bu, ou, none⟩) hblu).trans f0; replace f1 := (hbX.cell (p := ⟨bu, ou + 1, none⟩) hblu).trans f1; replace f2 := (hbX.cell (p := ⟨bu, ou + 2, none⟩) hblu).trans f2; replace f3 := (hbX.cell (p := ⟨bu, ou + 3, none⟩) hblu).trans f3; replace f4 := (hbX.cell (p := ⟨bu, ou + 4, none⟩) hblu).trans f4
            replace e0 := (hbX.cell (p := ⟨bv, ov, none⟩) hblv).trans e0; replace e1 := (hbX.cell (p := ⟨bv, ov + 1, none⟩) hblv).trans e1; replace e2 := (hbX.cell (p := ⟨bv, ov + 2, none⟩) hblv).trans e2; replace e3 := (hbX.cell (p := ⟨bv, ov + 3, none⟩) hblv).trans e3; replace e4 := (hbX.cell (p := ⟨bv, ov + 4, none⟩) hblv).trans e4
            clear hX HALL
            by_cases he : Cd.id u = Cd.id c
            · have HE : Hid (Cd.id u = Cd.id c) := he
              have hd3 : (Cd.id u == Cd.id c) = true := by simp [he]
              clear he
              have HALL : Hid (∀ Y, Below X.heap.size X Y → Vec Y w.heap.size 39 5 ad N cap (ccells L) ∧ Below w.heap.size w Y ∧ w.heap.size ≤ Y.heap.size) := fun Y h => ⟨hvX.keep h, hbw.trans (h.mono hzX), Nat.le_trans hzX h.size⟩
              go_wp2_with fail
              go_quiet (fail)
              generalize hY : X.drewN _ = Y
              have hbY : Below X.heap.size X Y := by rw [← hY]; exact below_drewN (Below.refl _ _) _
              obtain ⟨hvY, hbwY, hzY⟩ := HALL.out Y hbY
              replace e0 := (hbY.cell (p := ⟨bv, ov, none⟩) (Nat.lt_of_lt_of_le hblv hbX.size)).trans e0; replace e1 := (hbY.cell (p := ⟨bv, ov + 1, none⟩) (Nat.lt_of_lt_of_le hblv hbX.size)).trans e1; replace e2 := (hbY.cell (p := ⟨bv, ov + 2, none⟩) (Nat.lt_of_lt_of_le hblv hbX.size)).trans e2; replace e3 := (hbY.cell (p := ⟨bv, ov + 3, none⟩) (Nat.lt_of_lt_of_le hblv hbX.size)).trans e3; replace e4 := (hbY.cell (p := ⟨bv, ov + 4, none⟩) (Nat.lt_of_lt_of_le hblv hbX.size)).trans e4
              clear hY HALL hvX hbw hzX
              go_wp2_with (at_builtin; refine wpList_push (by rfl) _ _ 24 (by rfl) w.heap.size 39 5 48 (.agg #[.int .i64 0, .int .i64 0, .int .i64 0, .bool false, .string ⟨#[]⟩]) Tryz.underlying24 (by kernel_rfl) rfl (by decide) ad N cap _ (by rfl) (hvY.keep ((Below.refl _ _).alloc (Nat.le_refl _) _)) _ _ c.cells (by rfl) rfl ?_ ?_ ?_ ?_ ?_ ?_; exact new_cells _ _ _; exact ones2 _; (omega); (omega); (simp; omega); intro ad' cap' w' hv' hb' hs')
              go_roundw
              case rel => exact ⟨i + 1, k + 1, ad', cap', N + 1, L ++ [c], by omega, by omega, by go_num, by go_num, rfl, by rw [List.length_append, ← HNN.out]; rfl, by omega, by rw [HT.out, ← HS.out, HD.out, put_app Cd.id _ HLOW.out, put_eq Cd.id _ HE.out]; simp, HCS.out, by rw [ccells_app]; simpa [ccells] using hv', (hbwY.alloc hzY _).trans hb'⟩
              case measure => simp [intOf]; omega
            · have HE : Hid (Cd.id c < Cd.id u) := by have := HQ.out; show _ < _; omega
              have hd3 : (Cd.id u == Cd.id c) = false := by rw [beq_eq_false_iff_ne]; exact he
              clear he
              have HALL : Hid (∀ Y, Below X.heap.size X Y → Vec Y w.heap.size 39 5 ad N cap (ccells L) ∧ Below w.heap.size w Y ∧ w.heap.size ≤ Y.heap.size) := fun Y h => ⟨hvX.keep h, hbw.trans (h.mono hzX), Nat.le_trans hzX h.size⟩
              go_wp2_with fail
              go_quiet (fail)
              generalize hY : X.drewN _ = Y
              have hbY : Below X.heap.size X Y := by rw [← hY]; exact below_drewN (Below.refl _ _) _
              obtain ⟨hvY, hbwY, hzY⟩ := HALL.out Y hbY
              replace e0 := (hbY.cell (p := ⟨bv, ov, none⟩) (Nat.lt_of_lt_of_le hblv hbX.size)).trans e0; replace e1 := (hbY.cell (p := ⟨bv, ov + 1, none⟩) (Nat.lt_of_lt_of_le hblv hbX.size)).trans e1; replace e2 := (hbY.cell (p := ⟨bv, ov + 2, none⟩) (Nat.lt_of_lt_of_le hblv hbX.size)).trans e2; replace e3 := (hbY.cell (p := ⟨bv, ov + 3, none⟩) (Nat.lt_of_lt_of_le hblv hbX.size)).trans e3; replace e4 := (hbY.cell (p := ⟨bv, ov + 4, none⟩) (Nat.lt_of_lt_of_le hblv hbX.size)).trans e4
              clear hY HALL hvX hbw hzX
              go_wp2_with (at_builtin; refine wpList_push (by rfl) _ _ 24 (by rfl) w.heap.size 39 5 48 (.agg #[.int .i64 0, .int .i64 0, .int .i64 0, .bool false, .string ⟨#[]⟩]) Tryz.underlying24 (by kernel_rfl) rfl (by decide) ad N cap _ (by rfl) (hvY.keep ((Below.refl _ _).alloc (Nat.le_refl _) _)) _ _ c.cells (by rfl) rfl ?_ ?_ ?_ ?_ ?_ ?_; exact new_cells _ _ _; exact ones2 _; (omega); (omega); (simp; omega); intro ad' cap' w' hv' hb' hs')
              go_roundw
              case rel => exact ⟨i + 1, k, ad', cap', N + 1, L ++ [c], by omega, by omega, by go_num, by go_num, rfl, by rw [List.length_append, ← HNN.out]; rfl, by omega, by rw [HT.out, ← HS.out, put_app Cd.id _ HLOW.out, HD.out, put_lt Cd.id _ HE.out]; simp, HCS.out, by rw [ccells_app]; simpa [ccells] using hv', (hbwY.alloc hzY _).trans hb'⟩
              case measure => simp [intOf]; omega
        · have hkn : k = n := by omega
          have HD : Hid (U.drop k = []) := by show _ = _; rw [hkn, HN.out]; exact List.drop_length
          have hd0 : ¬ (k : Int) < (n : Int) := by omega
          have hd1 : decide ((k : Int) < (n : Int)) = false := decide_eq_false hd0
          clear hkn
          have HCS : Hid ((∀ x ∈ L ++ [V.getD i cd0], ∀ j, i + 1 ≤ j → j < V.length → Cd.id x < Cd.id (V.getD j cd0))) := fun x hx j h1 h2 => by
              have hc := HUP.out j (by omega) h2
              rcases List.mem_append.1 hx with h | h
              · have := HLOW.out x h; omega
              · simp at h; subst h; exact hc
          generalize hcg : V.getD i cd0 = c at *
          clear hcg hv hb
          go_wp2_with fail
          go_quiet (fail)
          generalize hX : wr.drewN _ = X
          have hbX : Below wr.heap.size wr X := by rw [← hX]; exact below_drewN (Below.refl _ _) _
          obtain ⟨hvX, hbw, hzX⟩ := HALL.out X hbX
          replace e0 := (hbX.cell (p := ⟨bv, ov, none⟩) hblv).trans e0; replace e1 := (hbX.cell (p := ⟨bv, ov + 1, none⟩) hblv).trans e1; replace e2 := (hbX.cell (p := ⟨bv, ov + 2, none⟩) hblv).trans e2; replace e3 := (hbX.cell (p := ⟨bv, ov + 3, none⟩) hblv).trans e3; replace e4 := (hbX.cell (p := ⟨bv, ov + 4, none⟩) hblv).trans e4
          clear hX HALL
          have HALL : Hid (∀ Y, Below X.heap.size X Y → Vec Y w.heap.size 39 5 ad N cap (ccells L) ∧ Below w.heap.size w Y ∧ w.heap.size ≤ Y.heap.size) := fun Y h => ⟨hvX.keep h, hbw.trans (h.mono hzX), Nat.le_trans hzX h.size⟩
          go_wp2_with fail
          go_quiet (fail)
          generalize hY : X.drewN _ = Y
          have hbY : Below X.heap.size X Y := by rw [← hY]; exact below_drewN (Below.refl _ _) _
          obtain ⟨hvY, hbwY, hzY⟩ := HALL.out Y hbY
          replace e0 := (hbY.cell (p := ⟨bv, ov, none⟩) (Nat.lt_of_lt_of_le hblv hbX.size)).trans e0; replace e1 := (hbY.cell (p := ⟨bv, ov + 1, none⟩) (Nat.lt_of_lt_of_le hblv hbX.size)).trans e1; replace e2 := (hbY.cell (p := ⟨bv, ov + 2, none⟩) (Nat.lt_of_lt_of_le hblv hbX.size)).trans e2; replace e3 := (hbY.cell (p := ⟨bv, ov + 3, none⟩) (Nat.lt_of_lt_of_le hblv hbX.size)).trans e3; replace e4 := (hbY.cell (p := ⟨bv, ov + 4, none⟩) (Nat.lt_of_lt_of_le hblv hbX.size)).trans e4
          clear hY HALL hvX hbw hzX
          go_wp2_with (at_builtin; refine wpList_push (by rfl) _ _ 24 (by rfl) w.heap.size 39 5 48 (.agg #[.int .i64 0, .int .i64 0, .int .i64 0, .bool false, .string ⟨#[]⟩]) Tryz.underlying24 (by kernel_rfl) rfl (by decide) ad N cap _ (by rfl) (hvY.keep ((Below.refl _ _).alloc (Nat.le_refl _) _)) _ _ c.cells (by rfl) rfl ?_ ?_ ?_ ?_ ?_ ?_; exact new_cells _ _ _; exact ones2 _; (omega); (omega); (simp; omega); intro ad' cap' w' hv' hb' hs')
          go_roundw
          case rel => exact ⟨i + 1, k, ad', cap', N + 1, L ++ [c], by omega, by omega, by go_num, by go_num, rfl, by rw [List.length_append, ← HNN.out]; rfl, by omega, by rw [HT.out, ← HS.out, put_app Cd.id _ HLOW.out, HD.out]; simp [putK], HCS.out, by rw [ccells_app]; simpa [ccells] using hv', (hbwY.alloc hzY _).trans hb'⟩
          case measure => simp [intOf]; omega
    · obtain rfl : m = i := by omega
      have HE : Hid (L ++ U.drop k = layK Cd.id (fun _ c => c) U V) := by
        show _ = _; rw [HS.out, HM.out, List.take_length]
      have HLU : Hid (Lies wr a n 5 (fun i => (U.getD i cd0).cells)) := HU.out.below hb
      have hz := hb.size
      have u1 : (0 : Int) ≤ (k : Int) := by omega
      have u2 : (k : Int) ≤ (ca : Int) := by omega
      clear HS HLOW
      go_wp2_with (first
        | (refine wpList_tailm (by rfl) 24 _ _ (by rfl) (by kernel_rfl) 5 (by kernel_rfl) a n ca k _ (by rfl) (by rfl) (by omega) (by omega) _ HLU.out hca ?_; intro A9 HL9)
        | (at_builtin; refine wpList_pushAll (by rfl) _ _ 24 (by rfl) w.heap.size 39 5 48 (.agg #[.int .i64 0, .int .i64 0, .int .i64 0, .bool false, .string ⟨#[]⟩]) Tryz.underlying24 (by kernel_rfl) rfl (by decide) ad N cap _ (by rfl) hv A9 (n - k) (ca - k) (fun j => (U.getD (k + j) cd0).cells) (by rfl) HL9 (fun _ _ => rfl) (fun j _ => ones2 _) ?_ ?_ ?_ (N + (n - k)) ?_ ?_; (omega); (omega); (exact hz); (omega); intro ad5 cap5 w5 hv5 hb5 hs5))
      go_ret
      refine ⟨ad5, cap5, _, rfl, ?_, ?_, hb.trans hb5⟩
      · rw [← HE.out, List.length_append, List.length_drop, ← HNN.out, ← HN.out]
      · rw [← HE.out, ccells_app]
        have e : ((List.range (n - k)).map fun j => (U.getD (k + j) cd0).cells).flatten = ccells (U.drop k) := by
          rw [HN.out]; exact range_cs U k
        rw [e] at hv5; exact hv5
end Go.Proofs.YtdjpkgaicmklmaaGreat

/- parcelref.carded, walked. -/
namespace Go.Proofs.YtdjpkgaicmklmaaGreat
open Go.RowKit
set_option maxRecDepth 100000 in
set_option maxHeartbeats 4000000 in
theorem rcarded_any (L : List Cd) (c : Cd) (a : Option Addr) (n ca : Nat) (w : World) (hL : Lies w a n 5 (fun i => (L.getD i cd0).cells)) (hn : n = L.length) (hn2 : n ≤ 1099511627776) (hasc : Asc Cd.id L) :
    Calls Tryz.prog 60 #[.slice a n ca, .agg c.cells.toArray] w fun e w' => ∃ ad cap N, e = .returned (.slice ad N cap) ∧ N = (putK Cd.id (fun _ c => c) L c).length ∧ Vec w' w.heap.size 39 5 ad N cap (ccells (putK Cd.id (fun _ c => c) L c)) ∧ Below w.heap.size w w' := by
  have HL : Hid (Lies w a n 5 (fun i => (L.getD i cd0).cells)) := hL
  have HN : Hid (n = L.length) := hn
  have HF : Hid (finI c (runI Cd.id c L) = putK Cd.id (fun _ c => c) L c) := fin_put Cd.id c L hasc
  obtain ⟨hX, hW, hB⟩ := one_box w 39 c.cells.toArray
  have HX0 : Hid (Bx (w.alloc (.cells c.cells.toArray 39)) w.heap.size 39 c.cells ∧ Below w.heap.size w (w.alloc (.cells c.cells.toArray 39)) ∧ (w.alloc (.cells c.cells.toArray 39)).heap.size = w.heap.size + 1) := ⟨hX, hB, hW⟩
  clear hL hn hasc hX hW hB
  go_enter Tryz.func60, Tryz.ntmps60
  go_wp2_with fail
  generalize w.alloc (.cells c.cells.toArray 39) = W at *
  go_loopw [5, 6, 7] (fun v t u wr => ∃ (i : Nat) (ad : Option Addr) (cap N : Nat), i ≤ n ∧ u = .int .i64 i ∧ v = .slice ad N cap ∧ t = .bool (runI Cd.id c (L.take i)).2 ∧ N = (runI Cd.id c (L.take i)).1.length ∧ Vec wr W.heap.size 39 5 ad N cap (ccells (runI Cd.id c (L.take i)).1) ∧ Below W.heap.size W wr) (fun _ _ u _ => n - (intOf u).toNat)
  case atStart => exact ⟨0, none, 0, 0, by omega, rfl, rfl, by rw [List.take_zero]; rfl, by rw [List.take_zero]; rfl, by rw [List.take_zero]; exact Vec.nil _ _ _ _, Below.refl _ _⟩
  case round =>
    obtain ⟨i, ad, cap, N, hi, rfl, rfl, rfl, hN, hv, hb⟩ := hrel
    have HNN : Hid (N = (runI Cd.id c (L.take i)).1.length) := hN
    have hNi : N ≤ 2 * n := by have := runI_len Cd.id c (L.take i); have h2 : (L.take i).length ≤ n := by { rw [List.length_take]; omega }; omega
    have HBC : Hid (∀ X, Below W.heap.size W X → X.cell? ⟨w.heap.size, 0, none⟩ = some (.int .i64 c.id) ∧ X.cell? ⟨w.heap.size, 1, none⟩ = some (.int .i64 c.site) ∧ X.cell? ⟨w.heap.size, 2, none⟩ = some (.int .i64 c.count) ∧ X.cell? ⟨w.heap.size, 3, none⟩ = some (.bool c.gone) ∧ X.cell? ⟨w.heap.size, 4, none⟩ = some (.string c.text)) := fun X hX => by
      have hx := HX0.out.1.below hX HX0.out.1.lt
      exact ⟨hx.cell 0, hx.cell 1, hx.cell 2, hx.cell 3, hx.cell 4⟩
    clear hN
    by_cases hlt : i < n
    · have hil : i < L.length := by rw [← HN.out]; exact hlt
      obtain ⟨bx, ox, hbl, hix, e0 , e1 , e2 , e3 , e4⟩ := Lies.card (c := fun i => L.getD i cd0) HL.out ca hlt
      have HEC : Hid (∀ X, Below W.heap.size W X → X.cell? ⟨bx, ox, none⟩ = some (.int .i64 (L.getD i cd0).id) ∧ X.cell? ⟨bx, ox + 1, none⟩ = some (.int .i64 (L.getD i cd0).site) ∧ X.cell? ⟨bx, ox + 2, none⟩ = some (.int .i64 (L.getD i cd0).count) ∧ X.cell? ⟨bx, ox + 3, none⟩ = some (.bool (L.getD i cd0).gone) ∧ X.cell? ⟨bx, ox + 4, none⟩ = some (.string (L.getD i cd0).text)) := fun X hX => by
        have hxw : Below w.heap.size w X := HX0.out.2.1.trans (hX.mono HX0.out.2.1.size)
        exact ⟨(hxw.cell (p := ⟨bx, ox, none⟩) hbl).trans e0, (hxw.cell (p := ⟨bx, ox + 1, none⟩) hbl).trans e1, (hxw.cell (p := ⟨bx, ox + 2, none⟩) hbl).trans e2, (hxw.cell (p := ⟨bx, ox + 3, none⟩) hbl).trans e3, (hxw.cell (p := ⟨bx, ox + 4, none⟩) hbl).trans e4⟩
      have HT : Hid (runI Cd.id c (L.take (i + 1)) = stepI Cd.id c (runI Cd.id c (L.take i)) (L.getD i cd0)) := by show _ = _; rw [take_card L i hil, runI_snoc]
      clear e0 e1 e2 e3 e4 hil
      generalize L.getD i cd0 = x at *
      generalize runI Cd.id c (L.take i) = s at *
      obtain ⟨P, bl⟩ := s
      dsimp only at HNN hv HT ⊢
      have HALL : Hid (∀ X, Below wr.heap.size wr X → Vec X W.heap.size 39 5 ad N cap (ccells P) ∧ Below W.heap.size W X ∧ W.heap.size ≤ X.heap.size) := fun X h => ⟨hv.keep h, hb.trans (h.mono hb.size), Nat.le_trans hb.size h.size⟩
      obtain ⟨z0, z1, z2, z3, z4⟩ := HBC.out _ hb
      obtain ⟨e0, e1, e2, e3, e4⟩ := HEC.out _ hb
      clear hv hb
      cases bl with
      | true =>
        by_cases hne : x.id = c.id
        · have HR : Hid (runI Cd.id c (L.take (i + 1)) = (P, true)) := by show _ = _; rw [HT.out]; unfold stepI; rw [if_neg (by intro q; cases q.1)]; simp only; rw [if_pos hne]
          have hd2 : (x.id != c.id) = false := by rw [bne_eq_false_iff_eq]; exact hne
          clear HT hne
          go_wp2_with fail
          go_quiet (fail)
          generalize hX : wr.drewN _ = X
          have hbX : Below wr.heap.size wr X := by rw [← hX]; exact below_drewN (Below.refl _ _) _
          obtain ⟨hvX, hbwX, hzX⟩ := HALL.out X hbX
          clear hX HALL z0 z1 z2 z3 z4 e0 e1 e2 e3 e4
          obtain ⟨z0, z1, z2, z3, z4⟩ := HBC.out _ hbwX
          obtain ⟨e0, e1, e2, e3, e4⟩ := HEC.out _ hbwX
          have HALL : Hid (∀ Y, Below X.heap.size X Y → Vec Y W.heap.size 39 5 ad N cap (ccells P) ∧ Below W.heap.size W Y ∧ W.heap.size ≤ Y.heap.size) := fun Y h => ⟨hvX.keep h, hbwX.trans (h.mono hbwX.size), Nat.le_trans hbwX.size h.size⟩
          clear hvX hbX hbwX hzX
          go_wp2_with fail
          go_quiet (fail)
          generalize hY : X.drewN _ = Y
          have hbY : Below X.heap.size X Y := by rw [← hY]; exact below_drewN (Below.refl _ _) _
          obtain ⟨hvY, hbwY, hzY⟩ := HALL.out Y hbY
          clear hY HALL z0 z1 z2 z3 z4 e0 e1 e2 e3 e4
          obtain ⟨z0, z1, z2, z3, z4⟩ := HBC.out _ hbwY
          obtain ⟨e0, e1, e2, e3, e4⟩ := HEC.out _ hbwY
          go_wp2_with fail
          go_roundw
          case rel => exact ⟨i + 1, ad, cap, N, by omega, by go_num, rfl, by rw [HR.out], by rw [HR.out]; simp; have := HNN.out; omega, by rw [HR.out]; exact hvY, hbwY⟩
          case measure => simp [intOf]; omega
        · have HR : Hid (runI Cd.id c (L.take (i + 1)) = (P ++ [x], true)) := by show _ = _; rw [HT.out]; unfold stepI; rw [if_neg (by intro q; cases q.1)]; simp only; rw [if_neg hne]
          have hd2 : (x.id != c.id) = true := bne_iff_ne.mpr hne
          clear HT hne
          go_wp2_with fail
          go_quiet (fail)
          generalize hX : wr.drewN _ = X
          have hbX : Below wr.heap.size wr X := by rw [← hX]; exact below_drewN (Below.refl _ _) _
          obtain ⟨hvX, hbwX, hzX⟩ := HALL.out X hbX
          clear hX HALL z0 z1 z2 z3 z4 e0 e1 e2 e3 e4
          obtain ⟨z0, z1, z2, z3, z4⟩ := HBC.out _ hbwX
          obtain ⟨e0, e1, e2, e3, e4⟩ := HEC.out _ hbwX
          have HALL : Hid (∀ Y, Below X.heap.size X Y → Vec Y W.heap.size 39 5 ad N cap (ccells P) ∧ Below W.heap.size W Y ∧ W.heap.size ≤ Y.heap.size) := fun Y h => ⟨hvX.keep h, hbwX.trans (h.mono hbwX.size), Nat.le_trans hbwX.size h.size⟩
          clear hvX hbX hbwX hzX
          go_wp2_with fail
          go_quiet (fail)
          generalize hY : X.drewN _ = Y
          have hbY : Below X.heap.size X Y := by rw [← hY]; exact below_drewN (Below.refl _ _) _
          obtain ⟨hvY, hbwY, hzY⟩ := HALL.out Y hbY
          clear hY HALL z0 z1 z2 z3 z4 e0 e1 e2 e3 e4
          obtain ⟨z0, z1, z2, z3, z4⟩ := HBC.out _ hbwY
          obtain ⟨e0, e1, e2, e3, e4⟩ := HEC.out _ hbwY
          go_wp2_with (at_builtin; refine wpList_push (by rfl) _ _ 24 (by rfl) W.heap.size 39 5 48 (.agg #[.int .i64 0, .int .i64 0, .int .i64 0, .bool false, .string ⟨#[]⟩]) Tryz.underlying24 (by kernel_rfl) rfl (by decide) ad (N) cap _ (by rfl) (hvY.keep ((Below.refl _ _).alloc (Nat.le_refl _) _)) _ _ x.cells (by rfl) rfl ?_ ?_ ?_ ?_ ?_ ?_; exact new_cells _ _ _; exact ones2 _; (omega); (omega); (simp; omega); intro ad' cap' w' hv' hb' hs')
          go_roundw
          case rel => exact ⟨i + 1, ad', cap', N + 1, by omega, by go_num, rfl, by rw [HR.out], by rw [HR.out]; simp; have := HNN.out; omega, by rw [HR.out]; show Vec w' _ _ _ _ _ _ (ccells (P ++ [x])); rw [ccells_app]; simpa [ccells] using hv', (hbwY.alloc hzY _).trans hb'⟩
          case measure => simp [intOf]; omega
      | false =>
        by_cases hle : c.id ≤ x.id
        · by_cases hne : x.id = c.id
          · have HR : Hid (runI Cd.id c (L.take (i + 1)) = (P ++ [c], true)) := by show _ = _; rw [HT.out]; unfold stepI; rw [if_pos ⟨rfl, hle⟩]; simp only; rw [if_pos hne]
            have hd1 : decide (c.id ≤ x.id) = true := decide_eq_true hle
            have hd2 : (x.id != c.id) = false := by rw [bne_eq_false_iff_eq]; exact hne
            clear HT hle hne
            go_wp2_with fail
            go_quiet (fail)
            generalize hX : wr.drewN _ = X
            have hbX : Below wr.heap.size wr X := by rw [← hX]; exact below_drewN (Below.refl _ _) _
            obtain ⟨hvX, hbwX, hzX⟩ := HALL.out X hbX
            clear hX HALL z0 z1 z2 z3 z4 e0 e1 e2 e3 e4
            obtain ⟨z0, z1, z2, z3, z4⟩ := HBC.out _ hbwX
            obtain ⟨e0, e1, e2, e3, e4⟩ := HEC.out _ hbwX
            go_wp2_with (at_builtin; refine wpList_push (by rfl) _ _ 24 (by rfl) W.heap.size 39 5 48 (.agg #[.int .i64 0, .int .i64 0, .int .i64 0, .bool false, .string ⟨#[]⟩]) Tryz.underlying24 (by kernel_rfl) rfl (by decide) ad (N) cap _ (by rfl) (hvX.keep ((Below.refl _ _).alloc (Nat.le_refl _) _)) _ _ c.cells (by rfl) rfl ?_ ?_ ?_ ?_ ?_ ?_; exact new_cells _ _ _; exact ones2 _; (omega); (omega); (simp; omega); intro ad1 cap1 w1 hv1 hb1 hs1)
            rw [show ccells P ++ c.cells = ccells (P ++ [c]) by rw [ccells_app]; simp [ccells]] at hv1
            have hbw1 := (hbwX.alloc hzX _).trans hb1
            have HALL : Hid (∀ X, Below w1.heap.size w1 X → Vec X W.heap.size 39 5 ad1 (N + 1) cap1 (ccells (P ++ [c])) ∧ Below W.heap.size W X ∧ W.heap.size ≤ X.heap.size) := fun X h => ⟨hv1.keep h, hbw1.trans (h.mono hbw1.size), Nat.le_trans hbw1.size h.size⟩
            clear z0 z1 z2 z3 z4 e0 e1 e2 e3 e4
            obtain ⟨z0, z1, z2, z3, z4⟩ := HBC.out _ hbw1
            obtain ⟨e0, e1, e2, e3, e4⟩ := HEC.out _ hbw1
            clear hvX hbX hbwX hzX hv1 hb1 hs1 hbw1
            go_wp2_with fail
            go_quiet (fail)
            generalize hY : w1.drewN _ = Y
            have hbY : Below w1.heap.size w1 Y := by rw [← hY]; exact below_drewN (Below.refl _ _) _
            obtain ⟨hvY, hbwY, hzY⟩ := HALL.out Y hbY
            clear hY HALL z0 z1 z2 z3 z4 e0 e1 e2 e3 e4
            obtain ⟨z0, z1, z2, z3, z4⟩ := HBC.out _ hbwY
            obtain ⟨e0, e1, e2, e3, e4⟩ := HEC.out _ hbwY
            go_wp2_with fail
            go_roundw
            case rel => exact ⟨i + 1, ad1, cap1, N + 1, by omega, by go_num, rfl, by rw [HR.out], by rw [HR.out]; simp; have := HNN.out; omega, by rw [HR.out]; exact hvY, hbwY⟩
            case measure => simp [intOf]; omega
          · have HR : Hid (runI Cd.id c (L.take (i + 1)) = (P ++ [c] ++ [x], true)) := by show _ = _; rw [HT.out]; unfold stepI; rw [if_pos ⟨rfl, hle⟩]; simp only; rw [if_neg hne]
            have hd1 : decide (c.id ≤ x.id) = true := decide_eq_true hle
            have hd2 : (x.id != c.id) = true := bne_iff_ne.mpr hne
            clear HT hle hne
            go_wp2_with fail
            go_quiet (fail)
            generalize hX : wr.drewN _ = X
            have hbX : Below wr.heap.size wr X := by rw [← hX]; exact below_drewN (Below.refl _ _) _
            obtain ⟨hvX, hbwX, hzX⟩ := HALL.out X hbX
            clear hX HALL z0 z1 z2 z3 z4 e0 e1 e2 e3 e4
            obtain ⟨z0, z1, z2, z3, z4⟩ := HBC.out _ hbwX
            obtain ⟨e0, e1, e2, e3, e4⟩ := HEC.out _ hbwX
            go_wp2_with (at_builtin; refine wpList_push (by rfl) _ _ 24 (by rfl) W.heap.size 39 5 48 (.agg #[.int .i64 0, .int .i64 0, .int .i64 0, .bool false, .string ⟨#[]⟩]) Tryz.underlying24 (by kernel_rfl) rfl (by decide) ad (N) cap _ (by rfl) (hvX.keep ((Below.refl _ _).alloc (Nat.le_refl _) _)) _ _ c.cells (by rfl) rfl ?_ ?_ ?_ ?_ ?_ ?_; exact new_cells _ _ _; exact ones2 _; (omega); (omega); (simp; omega); intro ad1 cap1 w1 hv1 hb1 hs1)
            rw [show ccells P ++ c.cells = ccells (P ++ [c]) by rw [ccells_app]; simp [ccells]] at hv1
            have hbw1 := (hbwX.alloc hzX _).trans hb1
            have HALL : Hid (∀ X, Below w1.heap.size w1 X → Vec X W.heap.size 39 5 ad1 (N + 1) cap1 (ccells (P ++ [c])) ∧ Below W.heap.size W X ∧ W.heap.size ≤ X.heap.size) := fun X h => ⟨hv1.keep h, hbw1.trans (h.mono hbw1.size), Nat.le_trans hbw1.size h.size⟩
            clear z0 z1 z2 z3 z4 e0 e1 e2 e3 e4
            obtain ⟨z0, z1, z2, z3, z4⟩ := HBC.out _ hbw1
            obtain ⟨e0, e1, e2, e3, e4⟩ := HEC.out _ hbw1
            clear hvX hbX hbwX hzX hv1 hb1 hs1 hbw1
            go_wp2_with fail
            go_quiet (fail)
            generalize hY : w1.drewN _ = Y
            have hbY : Below w1.heap.size w1 Y := by rw [← hY]; exact below_drewN (Below.refl _ _) _
            obtain ⟨hvY, hbwY, hzY⟩ := HALL.out Y hbY
            clear hY HALL z0 z1 z2 z3 z4 e0 e1 e2 e3 e4
            obtain ⟨z0, z1, z2, z3, z4⟩ := HBC.out _ hbwY
            obtain ⟨e0, e1, e2, e3, e4⟩ := HEC.out _ hbwY
            go_wp2_with (at_builtin; refine wpList_push (by rfl) _ _ 24 (by rfl) W.heap.size 39 5 48 (.agg #[.int .i64 0, .int .i64 0, .int .i64 0, .bool false, .string ⟨#[]⟩]) Tryz.underlying24 (by kernel_rfl) rfl (by decide) ad1 (N + 1) cap1 _ (by rfl) (hvY.keep ((Below.refl _ _).alloc (Nat.le_refl _) _)) _ _ x.cells (by rfl) rfl ?_ ?_ ?_ ?_ ?_ ?_; exact new_cells _ _ _; exact ones2 _; (omega); (omega); (simp; omega); intro ad' cap' w' hv' hb' hs')
            go_roundw
            case rel => exact ⟨i + 1, ad', cap', N + 1 + 1, by omega, by go_num, rfl, by rw [HR.out], by rw [HR.out]; simp; have := HNN.out; omega, by rw [HR.out]; show Vec w' _ _ _ _ _ _ (ccells (P ++ [c] ++ [x])); rw [ccells_app]; simpa [ccells] using hv', (hbwY.alloc hzY _).trans hb'⟩
            case measure => simp [intOf]; omega
        · have hne : ¬ x.id = c.id := by omega
          have HR : Hid (runI Cd.id c (L.take (i + 1)) = (P ++ [x], false)) := by show _ = _; rw [HT.out]; unfold stepI; rw [if_neg (by intro q; exact hle q.2)]; simp only; rw [if_neg hne]
          have hd1 : decide (c.id ≤ x.id) = false := decide_eq_false hle
          have hd2 : (x.id != c.id) = true := bne_iff_ne.mpr hne
          clear HT hle hne
          go_wp2_with fail
          go_quiet (fail)
          generalize hX : wr.drewN _ = X
          have hbX : Below wr.heap.size wr X := by rw [← hX]; exact below_drewN (Below.refl _ _) _
          obtain ⟨hvX, hbwX, hzX⟩ := HALL.out X hbX
          clear hX HALL z0 z1 z2 z3 z4 e0 e1 e2 e3 e4
          obtain ⟨z0, z1, z2, z3, z4⟩ := HBC.out _ hbwX
          obtain ⟨e0, e1, e2, e3, e4⟩ := HEC.out _ hbwX
          have HALL : Hid (∀ Y, Below X.heap.size X Y → Vec Y W.heap.size 39 5 ad N cap (ccells P) ∧ Below W.heap.size W Y ∧ W.heap.size ≤ Y.heap.size) := fun Y h => ⟨hvX.keep h, hbwX.trans (h.mono hbwX.size), Nat.le_trans hbwX.size h.size⟩
          clear hvX hbX hbwX hzX
          go_wp2_with fail
          go_quiet (fail)
          generalize hY : X.drewN _ = Y
          have hbY : Below X.heap.size X Y := by rw [← hY]; exact below_drewN (Below.refl _ _) _
          obtain ⟨hvY, hbwY, hzY⟩ := HALL.out Y hbY
          clear hY HALL z0 z1 z2 z3 z4 e0 e1 e2 e3 e4
          obtain ⟨z0, z1, z2, z3, z4⟩ := HBC.out _ hbwY
          obtain ⟨e0, e1, e2, e3, e4⟩ := HEC.out _ hbwY
          go_wp2_with (at_builtin; refine wpList_push (by rfl) _ _ 24 (by rfl) W.heap.size 39 5 48 (.agg #[.int .i64 0, .int .i64 0, .int .i64 0, .bool false, .string ⟨#[]⟩]) Tryz.underlying24 (by kernel_rfl) rfl (by decide) ad (N) cap _ (by rfl) (hvY.keep ((Below.refl _ _).alloc (Nat.le_refl _) _)) _ _ x.cells (by rfl) rfl ?_ ?_ ?_ ?_ ?_ ?_; exact new_cells _ _ _; exact ones2 _; (omega); (omega); (simp; omega); intro ad' cap' w' hv' hb' hs')
          go_roundw
          case rel => exact ⟨i + 1, ad', cap', N + 1, by omega, by go_num, rfl, by rw [HR.out], by rw [HR.out]; simp; have := HNN.out; omega, by rw [HR.out]; show Vec w' _ _ _ _ _ _ (ccells (P ++ [x])); rw [ccells_app]; simpa [ccells] using hv', (hbwY.alloc hzY _).trans hb'⟩
          case measure => simp [intOf]; omega
    · obtain rfl : n = i := by omega
      have HTK : Hid (L.take n = L) := by show _ = _; rw [HN.out]; exact List.take_length
      rw [HTK.out] at hv HNN ⊢
      generalize runI Cd.id c L = s at *
      obtain ⟨P, bl⟩ := s
      dsimp only at HNN hv HF ⊢
      have hold := fun X (hX : Below W.heap.size W X) => HX0.out.2.1.trans (hX.mono HX0.out.2.1.size)
      have HOLD : Hid (∀ X, Below W.heap.size W X → Below w.heap.size w X) := hold
      have HW : Hid (w.heap.size ≤ W.heap.size) := HX0.out.2.1.size
      obtain ⟨z0, z1, z2, z3, z4⟩ := HBC.out _ hb
      clear hold
      cases bl with
      | true =>
        have HE : Hid (P = putK Cd.id (fun _ c => c) L c) := by show _ = _; rw [← HF.out]; rfl
        go_wp2_with fail
        go_ret
        exact ⟨ad, cap, N, rfl, by rw [← HE.out]; exact HNN.out, by rw [← HE.out]; exact hv.mono HW.out, HOLD.out _ hb⟩
      | false =>
        have HE : Hid (P ++ [c] = putK Cd.id (fun _ c => c) L c) := by show _ = _; rw [← HF.out]; rfl
        have hzz := hb.size
        have HBW : Hid (Below W.heap.size W wr) := hb
        clear hb
        go_wp2_with (at_builtin; refine wpList_push (by rfl) _ _ 24 (by rfl) W.heap.size 39 5 48 (.agg #[.int .i64 0, .int .i64 0, .int .i64 0, .bool false, .string ⟨#[]⟩]) Tryz.underlying24 (by kernel_rfl) rfl (by decide) ad (N) cap _ (by rfl) (hv.keep ((Below.refl _ _).alloc (Nat.le_refl _) _)) _ _ c.cells (by rfl) rfl ?_ ?_ ?_ ?_ ?_ ?_; exact new_cells _ _ _; exact ones2 _; (omega); (omega); (simp; omega); intro ad' cap' w' hv' hb' hs')
        go_ret
        exact ⟨ad', cap', N + 1, rfl, by rw [← HE.out, List.length_append, ← HNN.out]; rfl, by rw [← HE.out, ccells_app]; exact (by simpa [ccells] using hv' : Vec w' W.heap.size 39 5 ad' (N + 1) cap' (ccells P ++ ccells [c])).mono HW.out, HOLD.out _ ((HBW.out.alloc hzz _).trans hb')⟩
end Go.Proofs.YtdjpkgaicmklmaaGreat

/- The reference's joined: walked. -/
namespace Go.Proofs.YtdjpkgaicmklmaaGreat
open Go.RowKit

theorem both_snoc (a b : List Ed) (e : Ed) : bothE a (b ++ [e]) = if e ∈ bothE a b then bothE a b else bothE a b ++ [e] := by
  unfold bothE; rw [List.foldl_append]; rfl
theorem range_ecells (E : List Ed) : ((List.range E.length).map fun i => (E.getD i ed0).cells).flatten = ecells E := by
  unfold ecells
  congr 1
  apply List.ext_getElem?
  intro i
  by_cases hi : i < E.length
  · simp [hi]
  · simp [hi]
theorem take_edit (E : List Ed) (i : Nat) (h : i < E.length) : E.take (i + 1) = E.take i ++ [E.getD i ed0] := by
  rw [List.take_succ_eq_append_getElem h, List.getD_eq_getElem?_getD, List.getElem?_eq_getElem h]; rfl
theorem ones_ed (x : Ed) : ∀ u, u ∈ x.cells → u.oneCell' = true := ones3 x

end Go.Proofs.YtdjpkgaicmklmaaGreat

