/- Texts of the proof, one behind the other; what each holds is said at its head. -/
import Derived.Test.YtdjpkgaicmklmabPartChained5
import Derived.Test.YtdjpkgaicmklmabPartChained2
import Derived.Test.YtdjpkgaicmklmabPartChained1
import Derived.Deep.QuietTactic
import Derived.BigQuiet
import Derived.Test.YtdjpkgaicmklmabPartChained4
import Derived.Test.YtdjpkgaicmklmabPartChained0
import Derived.Deep.RegionHeld3
/- Replicas that have seen some first writes: merged, and one that has seen more follows: without the program. -/
namespace Go.Proofs.Ytdjpkgaicmklmab
open Go.RowKit

def triS (S : Seen) (i : Nat) (E : List Ed) : Tri := ⟨clocksTo (runS S i).1 8, (runS S i).2, E⟩
def EdOk (E : List Ed) : Prop := ∀ x ∈ E, (1 ≤ x.id ∧ x.id ≤ 4611686018427387904) ∧ x.text.size ≤ 60
theorem triS_chk (S : Seen) (i : Nat) (hi : i ≤ 40) (E : List Ed) (h : E.length ≤ 16) (h2 : EdOk E) : (triS S i E).rep.chk = 0 := state_chk S i hi E h h2

def clashB2 (a b : List Cd) : Bool := a.any fun x => b.any fun y => decide (x.site = y.site ∧ x.count = y.count ∧ x ≠ y)
def mergeRd (a b : Tri) : Ans :=
  if a.rep.chk = 0 then
    if b.rep.chk = 0 then
      if clashB2 a.C b.C = true then ansErr 6 0
      else if 8 < (mergeK a.K b.K).length ∨ 40 < (mergeC a.C b.C).length ∨ 16 < (bothE a.E b.E).length then ansErr 1 0
      else ⟨0, 0, 0, 0, mergeK a.K b.K, mergeC a.C b.C, bothE a.E b.E⟩
    else ansErr b.rep.chk 0
  else ansErr a.rep.chk 0
theorem merge_states {S T M : Seen} (h : Most S T M) (i : Nat) (hi : i ≤ 40) (D E : List Ed) (hD : D.length ≤ 16) (hE : E.length ≤ 16) (hD2 : EdOk D) (hE2 : EdOk E) (hb : (bothE D E).length ≤ 16) :
    mergeRd (triS S i D) (triS T i E) = ⟨0, 0, 0, 0, (triS M i (bothE D E)).K, (triS M i (bothE D E)).C, bothE D E⟩ := by
  have c1 := triS_chk S i hi D hD hD2
  have c2 := triS_chk T i hi E hE hE2
  have hc : mergeC (triS S i D).C (triS T i E).C = (runS M i).2 := most_cards h i
  have hk : mergeK (triS S i D).K (triS T i E).K = clocksTo (runS M i).1 8 := merge_clocks _ _ _ (fun k hk => most_counts h i k hk)
  have hcl : clashB2 (triS S i D).C (triS T i E).C = false := by
    simp only [clashB2, List.any_eq_false, decide_eq_true_eq, Bool.not_eq_true]
    intro x hx y hy e
    have hy := run_isW T h.p2 i y hy
    rw [h.w2] at hy
    exact e.2.2 (isW_sole S.w x y (run_isW S h.p1 i x hx) hy e.1 e.2.1)
  have l1 := clocksTo_length (runS M i).1 8
  have l2 := runS_cards M i
  unfold mergeRd
  rw [if_pos c1, if_pos c2, if_neg (by rw [hcl]; decide), hc, hk, if_neg]
  · rfl
  · show ¬ (_ ∨ _ ∨ 16 < (bothE D E).length); omega

/-- One sees all that another sees. -/
structure Less (S T : Seen) : Prop where
  w : T.w = S.w
  lim : ∀ k, k < 8 → limS S k ≤ limS T k
  p1 : ∀ k, 0 ≤ limS S k
  p2 : ∀ k, 0 ≤ limS T k
theorem Less.most {S T : Seen} (h : Less S T) : Most S T T := ⟨h.w, h.w, fun k hk => by have := h.lim k hk; omega, h.p1, h.p2, h.p2⟩
theorem less_follows {S T : Seen} (h : Less S T) (i : Nat) (D E : List Ed) : followB (triS S i D) (triS T i E) = true := by
  simp only [followB, followK, followC, Bool.and_eq_true, List.all_eq_true]
  constructor
  · intro x hx
    obtain ⟨k, hk, rfl, h0⟩ := clocks_mem hx
    have hm := most_counts h.most i k hk
    have : look Ck.site (triS T i E).K (siteL.getD k 0) = some ⟨siteL.getD k 0, (runS T i).1.getD k 0⟩ := by
      show look Ck.site (clocksTo (runS T i).1 8) _ = _
      rw [clocks_look _ k (by omega) hk, if_pos (by omega)]
    rw [show (⟨siteL.getD k 0, (runS S i).1.getD k 0⟩ : Ck).site = siteL.getD k 0 from rfl, this]
    simp only [decide_eq_true_eq]; omega
  · intro x hx
    have hl := most_look h.most x.id i
    rw [look_some Cd.id (run_asc S i) hx] at hl
    show (match look Cd.id (runS T i).2 x.id with | some d => laterB d x || decide (d = x) | none => false) = true
    cases hd : look Cd.id (runS T i).2 x.id with
    | none => rw [hd] at hl; cases hl
    | some d =>
      rw [hd] at hl
      simp only [over, Option.some.injEq] at hl
      simp only [Bool.or_eq_true, decide_eq_true_eq]
      unfold keepC at hl
      cases hlt : laterB d x with
      | true => exact Or.inl rfl
      | false => rw [hlt] at hl; exact Or.inr hl
/-- One that has seen nothing follows just nothing. -/
theorem nothing_follows {S Z : Seen} (i : Nat) (hz : ∀ k, k < 8 → limS Z k = 0) (p : ∀ k, 0 ≤ limS Z k) (D E : List Ed) : followB (triS S i D) (triS Z i E) = decide ((triS S i D).K.length = 0) := by
  have hZK : clocksTo (runS Z i).1 8 = [] := by
    cases hh : clocksTo (runS Z i).1 8 with
    | nil => rfl
    | cons x l =>
      obtain ⟨k, hk, _, h0⟩ := clocks_mem (show x ∈ clocksTo (runS Z i).1 8 by rw [hh]; simp)
      rw [counts_min Z p k hk, hz k hk] at h0; omega
  by_cases h0 : (triS S i D).K.length = 0
  · rw [decide_eq_true h0]
    have hK : clocksTo (runS S i).1 8 = [] := List.length_eq_zero_iff.mp h0
    have hC : (runS S i).2 = [] := by
      cases hh : (runS S i).2 with
      | nil => rfl
      | cons x l =>
        have hg := (runS_good S i).1 x (by rw [hh]; simp)
        obtain ⟨k, hk, _, h1, h2⟩ := hg.site
        have := clocks_look (runS S i).1 k (n := 8) (by omega) hk
        rw [hK, if_pos (by omega)] at this; cases this
    simp [followB, followK, followC, triS, hK, hC]
  · rw [decide_eq_false h0]
    cases hh : clocksTo (runS S i).1 8 with
    | nil => exact absurd (by simp [triS, hh]) h0
    | cons x l => simp [followB, followK, triS, hh, hZK, look]
end Go.Proofs.Ytdjpkgaicmklmab

/- Two bundles that part in the last byte of their last record (a against b): their seals and their sums part: without the program. -/
namespace Go.Proofs.Ytdjpkgaicmklmab
open Go.RowKit

theorem top_xor (h : Nat) (hh : h < 2147483648) : 2147483648 + h = 2147483648 ^^^ h := by
  apply Nat.eq_of_testBit_eq
  intro j
  rw [Nat.testBit_xor, show (2147483648 : Nat) = 2 ^ 31 from rfl, Nat.testBit_two_pow]
  rcases Nat.lt_trichotomy j 31 with hj | hj | hj
  · rw [Nat.testBit_two_pow_add_gt hj, decide_eq_false (by omega)]; simp
  · rw [hj, Nat.testBit_two_pow_add_eq]; simp
  · have hp : 2 ^ 32 ≤ 2 ^ j := Nat.pow_le_pow_right (by omega) (by omega)
    rw [Nat.testBit_lt_two_pow (by omega), Nat.testBit_lt_two_pow (x := h) (by omega), decide_eq_false (by omega)]; rfl
theorem half_xor (x y : Nat) : (x ^^^ y) / 2 = x / 2 ^^^ y / 2 := by
  have := Nat.shiftRight_xor_distrib (a := x) (b := y) (i := 1)
  simpa [Nat.shiftRight_eq_div_pow] using this
theorem high_zip : ∀ (l m : List Bool), l.length = m.length → high (List.zipWith (· != ·) l m) = high l ^^^ high m
  | [], [], _ => rfl
  | [], _ :: _, h => by simp at h
  | _ :: _, [], h => by simp at h
  | b :: l, c :: m, h => by
    have ih := high_zip l m (by simpa using h)
    simp only [List.zipWith_cons_cons, high]
    rw [ih, half_xor]
    have hl := high_lt l
    have hm := high_lt m
    have h1 : high l / 2 < 2147483648 := by omega
    have h2 : high m / 2 < 2147483648 := by omega
    have h3 : high l / 2 ^^^ high m / 2 < 2147483648 := Nat.xor_lt_two_pow (n := 31) h1 h2
    generalize high l / 2 = u at *
    generalize high m / 2 = v at *
    cases b <;> cases c
    · simp
    · simp only [Bool.false_bne, if_true, Bool.false_eq_true, if_false, Nat.zero_add]
      rw [top_xor _ h3, top_xor _ h2, ← Nat.xor_assoc, Nat.xor_comm 2147483648 u, Nat.xor_assoc]
    · simp only [Bool.bne_false, if_true, Bool.false_eq_true, if_false, Nat.zero_add]
      rw [top_xor _ h3, top_xor _ h1, Nat.xor_assoc]
    · simp only [bne_self_eq_false, Bool.false_eq_true, if_true, if_false, Nat.zero_add]
      rw [top_xor _ h1, top_xor _ h2, Nat.xor_comm 2147483648 u, Nat.xor_assoc, ← Nat.xor_assoc 2147483648, Nat.xor_self, Nat.zero_xor]
theorem four_zip {x y : Nat} (hx : x < 4294967296) (hy : y < 4294967296) : List.zipWith (· != ·) (allBits (fourI x)) (allBits (fourI y)) = allBits (fourI ((x ^^^ y : Nat) : Int)) := by
  have hxy : x ^^^ y < 4294967296 := Nat.xor_lt_two_pow (n := 32) hx hy
  apply high_inj
  · simp [allBits_length, fourI_len]
  · simp [allBits_length, fourI_len]
  · rw [high_zip _ _ (by simp [allBits_length, fourI_len]), high_four x hx, high_four y hy, high_four _ hxy]
theorem zip_self : ∀ (l : List Bool), List.zipWith (· != ·) l l = List.replicate l.length false
  | [] => rfl
  | b :: l => by simp only [List.zipWith_cons_cons, zip_self l, List.length_cons, List.replicate_succ]; simp
theorem zip_app (a b c d : List Bool) (h : a.length = c.length) : List.zipWith (· != ·) (a ++ b) (c ++ d) = List.zipWith (· != ·) a c ++ List.zipWith (· != ·) b d := by
  rw [List.zipWith_append h]

/-- Bytes ahead, a record's, its last byte, its sum. -/
def lastB (P q : List UInt8) (x : UInt8) : List UInt8 := P ++ (q ++ [x]) ++ fourI (crc pSum (q ++ [x]))
theorem last_len (P q : List UInt8) (x : UInt8) : (lastB P q x).length = P.length + q.length + 5 := by simp [lastB, fourI_len]; omega
theorem last_zip (P q : List UInt8) : List.zipWith (· != ·) (allBits (lastB P q 97)) (allBits (lastB P q 98)) = List.replicate (8 * (P.length + q.length)) false ++ d40 := by
  have hc : crc pSum (q ++ [97]) ^^^ crc pSum (q ++ [98]) = crcB pSum 0 (bitsOf 3) := by
    rw [crc_part pSum _ _ (by simp), allBits_append, allBits_append, zip_app _ _ _ _ rfl, zip_self, crcB_append, crcB_zeros]
    congr 1
  unfold lastB d40
  rw [allBits_append, allBits_append, allBits_append, allBits_append, allBits_append, allBits_append, zip_app _ _ _ _ (by simp [allBits_length]), zip_app _ _ _ _ rfl, zip_app _ _ _ _ rfl, zip_self, zip_self, four_zip (crc_lt pSum_lt _) (crc_lt pSum_lt _), hc]
  rw [allBits_length, allBits_length, Nat.mul_add, ← List.replicate_append_replicate]
  simp only [List.append_assoc]
  rfl
theorem last_seal (P q : List UInt8) : crc pSeal (lastB P q 97) ^^^ crc pSeal (lastB P q 98) = crcB pSeal 0 d40 := by
  rw [crc_part pSeal _ _ (by rw [last_len, last_len]), last_zip, crcB_append, crcB_zeros]
theorem last_seal_ne (P q : List UInt8) : crc pSeal (lastB P q 97) ≠ crc pSeal (lastB P q 98) := by
  intro h
  have := last_seal P q
  rw [h, Nat.xor_self] at this
  exact strange_seal this.symm
def sealedL (P q : List UInt8) (x : UInt8) : List UInt8 := lastB P q x ++ fourI (crc pSeal (lastB P q x))
theorem last_sum_ne (P q : List UInt8) : crc pSum (sealedL P q 97) ≠ crc pSum (sealedL P q 98) := by
  intro h
  have := crc_part pSum (sealedL P q 97) (sealedL P q 98) (by simp [sealedL, last_len, fourI_len])
  rw [h, Nat.xor_self] at this
  unfold sealedL at this
  rw [allBits_append, allBits_append, zip_app _ _ _ _ (by rw [allBits_length, allBits_length, last_len, last_len]), last_zip, four_zip (crc_lt pSeal_lt _) (crc_lt pSeal_lt _), last_seal, List.append_assoc, crcB_append, crcB_zeros] at this
  exact strange_sum this.symm
/-- The bundle of records with one more, whose bytes end in x. -/
theorem bundle_last (l : List Fd) (f : Fd) (q : List UInt8) (x : UInt8) (h : recF f = q ++ [x]) :
    bundleB (l ++ [f]) = sealedL (bodyB l ++ [245, 95]) (byt ((q.length + 1 : Nat) : Int) :: q) x := by
  have e : bodyB (l ++ [f]) = lastB (bodyB l ++ [245, 95]) (byt ((q.length + 1 : Nat) : Int) :: q) x := by
    rw [bodyB_succ, h]; unfold frameB lastB; simp
  unfold bundleB sealedL
  rw [e]
end Go.Proofs.Ytdjpkgaicmklmab

/- A link upon another base is refused: without the program. -/
namespace Go.Proofs.Ytdjpkgaicmklmab
open Go.RowKit

theorem sealR_bundle (l : List Fd) : sealR (bundleB l) = (crc pSeal (bodyB l) : Int) := by
  have e4 : (bundleB l).length - 4 = (bodyB l).length := by unfold bundleB; rw [List.length_append]; simp [fourI]
  have hc := crc_lt pSeal_lt (bodyB l)
  unfold sealR
  rw [e4]
  unfold bundleB
  rw [List.drop_left, fourRd_four _ (by omega) (by omega)]
theorem two_lt {i : Nat} {x y : List UInt8} (h : i < [x, y].length) : i = 0 ∨ i = 1 := by simp at h; omega
theorem strange_replay {b c : List UInt8} (b1 : (readRd b).err = 0) (b2 : (readRd b).seq = 0) (c1 : (readRd c).err = 0) (c2 : (readRd c).seq = 1) (hne : (readRd c).base ≠ sealR b) :
    replayRd [b, c] = ansErr 17 1 ∧ replayRd [c, b] = ansErr 17 0 := by
  have t1 : linkR [b, c] 0 = b := by simp [linkR, seqIx, List.findIdx_cons, b2]
  have t2 : linkR [c, b] 0 = b := by simp [linkR, seqIx, List.findIdx_cons, b2, c2]
  constructor
  · have n4 : ∀ i, i < [b, c].length → bad4 [b, c] i = false := by
      intro i hi; rcases two_lt hi with rfl | rfl <;> simp [bad4, b1, c1]
    have n5 : ∀ i, i < [b, c].length → bad5 [b, c] i = false := by
      intro i hi; rcases two_lt hi with rfl | rfl <;> simp [bad5, b2, c2]
    have n6 : ∀ i, i < [b, c].length → bad6 [b, c] i = false := by
      intro i hi; rcases two_lt hi with rfl | rfl <;> simp [bad6, b2, c2]
    have n7 : firstOf (bad7 [b, c]) [b, c].length = some 1 := by
      rw [firstOf_some]
      refine ⟨?_, by simp, fun j hj => ?_⟩
      · simp [bad7, c2, t1]; exact fun e => hne e.symm
      · rw [show j = 0 by omega]; simp [bad7, b2]
    unfold replayRd
    rw [if_neg (by simp), firstOf_none.mpr n4, firstOf_none.mpr n5]
    simp only
    rw [if_neg (by rw [firstOf_none.mpr n6]; simp), n7]; rfl
  · have n4 : ∀ i, i < [c, b].length → bad4 [c, b] i = false := by
      intro i hi; rcases two_lt hi with rfl | rfl <;> simp [bad4, b1, c1]
    have n5 : ∀ i, i < [c, b].length → bad5 [c, b] i = false := by
      intro i hi; rcases two_lt hi with rfl | rfl <;> simp [bad5, b2, c2]
    have n6 : ∀ i, i < [c, b].length → bad6 [c, b] i = false := by
      intro i hi; rcases two_lt hi with rfl | rfl <;> simp [bad6, b2, c2]
    have n7 : firstOf (bad7 [c, b]) [c, b].length = some 0 := by
      rw [firstOf_some]
      refine ⟨?_, by simp, fun j hj => by omega⟩
      simp [bad7, c2, t2]; exact fun e => hne e.symm
    unfold replayRd
    rw [if_neg (by simp), firstOf_none.mpr n4, firstOf_none.mpr n5]
    simp only
    rw [if_neg (by rw [firstOf_none.mpr n6]; simp), n7]; rfl
end Go.Proofs.Ytdjpkgaicmklmab

/- The bundles of two replicas that part in the last byte of their last edit: without the program. -/
namespace Go.Proofs.Ytdjpkgaicmklmab
open Go.RowKit

def edX (x : UInt8) : Ed := ⟨1, ⟨#[x]⟩⟩
theorem recs_edit (K : List Ck) (C : List Cd) (E : List Ed) (e : Ed) : recsOf 0 0 (repOf K C (E ++ [e])) = recsOf 0 0 (repOf K C E) ++ [fdEdit e] := by
  have h : (List.range (E ++ [e]).length).map (fun i => fdEdit ((E ++ [e]).getD i ed0)) = (List.range E.length).map (fun i => fdEdit (E.getD i ed0)) ++ [fdEdit e] := by
    have a : ∀ l : List Ed, (List.range l.length).map (fun i => fdEdit (l.getD i ed0)) = l.map fdEdit := by
      intro l
      have := congrArg (List.map fdEdit) (range_getD l ed0)
      rw [List.map_map] at this; exact this
    rw [a, a, List.map_append]; rfl
  simp only [recsOf, recs3, recs2, recs1, repOf]
  rw [h]; simp
theorem recF_x (x : UInt8) : recF (fdEdit (edX x)) = [3, 1] ++ [x] := by
  rw [recF_edit]; rfl
theorem strange_bundle (K : List Ck) (C : List Cd) (E : List Ed) (x : UInt8) :
    bundleB (recsOf 0 0 (repOf K C (E ++ [edX x]))) = sealedL (bodyB (recsOf 0 0 (repOf K C E)) ++ [245, 95]) (byt 3 :: [3, 1]) x := by
  rw [recs_edit, bundle_last _ _ [3, 1] x (recF_x x)]; rfl
/-- They have one length, other seals, other sums. -/
theorem strange_parts (K : List Ck) (C : List Cd) (E : List Ed) :
    (bundleB (recsOf 0 0 (repOf K C (E ++ [edX 97])))).length = (bundleB (recsOf 0 0 (repOf K C (E ++ [edX 98])))).length ∧
    sealR (bundleB (recsOf 0 0 (repOf K C (E ++ [edX 97])))) ≠ sealR (bundleB (recsOf 0 0 (repOf K C (E ++ [edX 98])))) ∧
    crc pSum (bundleB (recsOf 0 0 (repOf K C (E ++ [edX 97])))) ≠ crc pSum (bundleB (recsOf 0 0 (repOf K C (E ++ [edX 98])))) := by
  refine ⟨?_, ?_, ?_⟩
  · rw [strange_bundle, strange_bundle]; simp [sealedL, last_len, fourI_len]
  · have e : ∀ x, sealR (sealedL (bodyB (recsOf 0 0 (repOf K C E)) ++ [245, 95]) (byt 3 :: [3, 1]) x) = (crc pSeal (lastB (bodyB (recsOf 0 0 (repOf K C E)) ++ [245, 95]) (byt 3 :: [3, 1]) x) : Int) := by
      intro x
      have hc := crc_lt pSeal_lt (lastB (bodyB (recsOf 0 0 (repOf K C E)) ++ [245, 95]) (byt 3 :: [3, 1]) x)
      unfold sealR sealedL
      rw [List.length_append, fourI_len, Nat.add_sub_cancel, List.drop_left, fourRd_four _ (by omega) (by omega)]
    rw [strange_bundle, strange_bundle, e, e]
    have := last_seal_ne (bodyB (recsOf 0 0 (repOf K C E)) ++ [245, 95]) (byt 3 :: [3, 1])
    omega
  · rw [strange_bundle, strange_bundle]
    exact last_sum_ne _ _
end Go.Proofs.Ytdjpkgaicmklmab

/- How the reference merges: clocks over all sites, cards over all numbers: it is the merge of rising lists: without the program. -/
namespace Go.Proofs.Ytdjpkgaicmklmab
open Go.RowKit

/-- The count of a site. -/
def clkOf (K : List Ck) (s : Int) : Int := match look Ck.site K s with
  | some c => c.count
  | none => 0
def mostC (a b : List Ck) (s : Int) : Int := max (clkOf a s) (clkOf b s)
/-- The greater clocks of both, over the sites up to n. -/
def refClk (a b : List Ck) : Nat → List Ck
  | 0 => []
  | n + 1 => if 0 < mostC a b ((n : Int) + 1) then refClk a b n ++ [⟨(n : Int) + 1, mostC a b ((n : Int) + 1)⟩] else refClk a b n
theorem refClk_mem {a b : List Ck} {x : Ck} : ∀ {n : Nat}, x ∈ refClk a b n → 1 ≤ x.site ∧ x.site ≤ n ∧ 0 < x.count ∧ x.count = mostC a b x.site
  | 0, h => by cases h
  | n + 1, h => by
    simp only [refClk] at h
    split at h
    · rename_i hp
      rcases List.mem_append.1 h with h | h
      · have := refClk_mem h; omega
      · simp at h; subst h; exact ⟨by simp; omega, by simp, hp, rfl⟩
    · have := refClk_mem h; omega
theorem refClk_asc (a b : List Ck) : ∀ n, Asc Ck.site (refClk a b n)
  | 0 => List.Pairwise.nil
  | n + 1 => by
    simp only [refClk]
    split
    · refine List.pairwise_append.2 ⟨refClk_asc a b n, List.pairwise_singleton _ _, fun x hx y hy => ?_⟩
      simp at hy; subst hy
      have := refClk_mem hx; simp; omega
    · exact refClk_asc a b n
theorem refClk_has {a b : List Ck} {s : Nat} (hs : 0 < mostC a b ((s : Int) + 1)) : ∀ {n : Nat}, s < n → (⟨(s : Int) + 1, mostC a b ((s : Int) + 1)⟩ : Ck) ∈ refClk a b n
  | 0, h => by omega
  | n + 1, h => by
    by_cases e : s = n
    · subst e; simp [refClk, hs]
    · have := refClk_has hs (n := n) (by omega)
      simp only [refClk]; split
      · exact List.mem_append_left _ this
      · exact this
theorem clkOf_look {K : List Ck} (s : Int) (hp : ∀ x ∈ K, 1 ≤ x.count) : (look Ck.site K s = none ∧ clkOf K s = 0) ∨ ∃ c, look Ck.site K s = some c ∧ c.site = s ∧ clkOf K s = c.count ∧ 1 ≤ c.count := by
  unfold clkOf
  cases h : look Ck.site K s with
  | none => exact Or.inl ⟨rfl, rfl⟩
  | some c => exact Or.inr ⟨c, rfl, (look_mem Ck.site h).2, rfl, hp c (look_mem Ck.site h).1⟩
theorem refClk_eq {a b : List Ck} (ha : Asc Ck.site a) (hb : Asc Ck.site b) (pa : ∀ x ∈ a, 1 ≤ x.site ∧ x.site ≤ 200 ∧ 1 ≤ x.count) (pb : ∀ x ∈ b, 1 ≤ x.site ∧ x.site ≤ 200 ∧ 1 ≤ x.count) : refClk a b 200 = mergeK a b := by
  refine asc_ext Ck.site (refClk_asc a b 200) (layK_asc Ck.site (fun o c h => keepK_site o c h) ha) fun s => ?_
  unfold mergeK
  rw [look_lay Ck.site (fun o c h => keepK_site o c h) ha hb]
  have h1 := clkOf_look (K := a) s (fun x hx => (pa x hx).2.2)
  have h2 := clkOf_look (K := b) s (fun x hx => (pb x hx).2.2)
  have key : ∀ c : Ck, c.site = s → 1 ≤ s → s ≤ 200 → 0 < c.count → c.count = mostC a b s → look Ck.site (refClk a b 200) s = some c := by
    intro c hs h3 h4 h5 h6
    obtain ⟨m, hm⟩ : ∃ m : Nat, s = (m : Int) + 1 := ⟨(s - 1).toNat, by omega⟩
    have := refClk_has (a := a) (b := b) (s := m) (by rw [← hm, ← h6]; exact h5) (n := 200) (by omega)
    rw [← hm, ← h6] at this
    have e : (⟨s, c.count⟩ : Ck) = c := by rw [← hs]
    rw [e] at this
    have := look_some Ck.site (refClk_asc a b 200) this
    rw [hs] at this; exact this
  rcases h1 with ⟨e1, z1⟩ | ⟨c, e1, s1, z1, p1⟩
  · rcases h2 with ⟨e2, z2⟩ | ⟨d, e2, s2, z2, p2⟩
    · rw [e1, e2]
      have : look Ck.site (refClk a b 200) s = none := look_none Ck.site (fun x hx e => by
        have := refClk_mem hx
        rw [e] at this; unfold mostC at this; omega)
      rw [this]; rfl
    · have r := pb d (look_mem Ck.site e2).1
      rw [e1, e2, key d s2 (by omega) (by omega) (by omega) (by unfold mostC; omega)]; rfl
  · have r := pa c (look_mem Ck.site e1).1
    rcases h2 with ⟨e2, z2⟩ | ⟨d, e2, s2, z2, p2⟩
    · rw [e1, e2, key c s1 (by omega) (by omega) (by omega) (by unfold mostC; omega)]; rfl
    · rw [e1, e2]
      simp only [over, keepK]
      split
      · exact key d s2 (by omega) (by omega) (by omega) (by unfold mostC; omega)
      · exact key c s1 (by omega) (by omega) (by omega) (by unfold mostC; omega)

/-- The least number above another among some; 0: none. -/
def lowStep (id n x : Int) : Int := if id < x ∧ (n = 0 ∨ x < n) then x else n
def lowAbove (id : Int) (l : List Int) : Int := l.foldl (lowStep id) 0
theorem low_fold (id : Int) (h0 : 0 ≤ id) : ∀ (l : List Int) (n : Int), (n = 0 ∨ id < n) → (l.foldl (lowStep id) n = 0 ∨ id < l.foldl (lowStep id) n) ∧
    (l.foldl (lowStep id) n = n ∨ l.foldl (lowStep id) n ∈ l) ∧ (∀ x ∈ l, id < x → l.foldl (lowStep id) n ≤ x ∧ l.foldl (lowStep id) n ≠ 0) ∧ (n ≠ 0 → l.foldl (lowStep id) n ≤ n ∧ l.foldl (lowStep id) n ≠ 0)
  | [], n, hn => ⟨hn, Or.inl rfl, fun x hx => (by cases hx), fun h => ⟨Int.le_refl _, h⟩⟩
  | y :: l, n, hn => by
    simp only [List.foldl_cons]
    have hs : lowStep id n y = 0 ∨ id < lowStep id n y := by unfold lowStep; split; (right; omega); exact hn
    obtain ⟨h1, h2, h3, h4⟩ := low_fold id h0 l (lowStep id n y) hs
    refine ⟨h1, ?_, ?_, ?_⟩
    · rcases h2 with h2 | h2
      · rw [h2]; unfold lowStep; split
        · right; simp
        · left; rfl
      · right; simp [h2]
    · intro x hx hlt
      rcases List.mem_cons.1 hx with rfl | hx
      · have hne : lowStep id n x ≠ 0 := by unfold lowStep; split; omega; omega
        have hle : lowStep id n x ≤ x := by unfold lowStep; split; omega; omega
        have := h4 hne; omega
      · exact h3 x hx hlt
    · intro hne
      have hne2 : lowStep id n y ≠ 0 := by unfold lowStep; split <;> omega
      have hle : lowStep id n y ≤ n := by unfold lowStep; split <;> omega
      have := h4 hne2; omega
theorem low_none {id : Int} {l : List Int} (h0 : 0 ≤ id) (h : ∀ x ∈ l, x ≤ id) : lowAbove id l = 0 := by
  obtain ⟨h1, h2, _, _⟩ := low_fold id h0 l 0 (Or.inl rfl)
  rcases h2 with h2 | h2
  · exact h2
  · rcases h1 with h1 | h1
    · exact h1
    · have := h _ h2; unfold lowAbove; omega
theorem low_is {id x : Int} {l : List Int} (h0 : 0 ≤ id) (hx : x ∈ l) (hlt : id < x) (hle : ∀ y ∈ l, id < y → x ≤ y) : lowAbove id l = x := by
  obtain ⟨h1, h2, h3, _⟩ := low_fold id h0 l 0 (Or.inl rfl)
  have := h3 x hx hlt
  unfold lowAbove
  rcases h2 with h2 | h2
  · omega
  · rcases h1 with h1 | h1
    · omega
    · have := hle _ h2 h1; omega

/-- The numbers of the cards of both. -/
def idsOf (a b : List Cd) : List Int := a.map Cd.id ++ b.map Cd.id
/-- The card of a number that the reference takes. -/
def takeC (a b : List Cd) (id : Int) : Cd := match look Cd.id a id, look Cd.id b id with
  | none, some y => y
  | some x, none => x
  | some x, some y => if laterB y x then y else x
  | none, none => ⟨0, 0, 0, false, ⟨#[]⟩⟩
theorem take_look {a b : List Cd} {id : Int} {c : Cd} (h : over keepC (look Cd.id a id) (look Cd.id b id) = some c) : takeC a b id = c := by
  unfold takeC
  cases h1 : look Cd.id a id with
  | none =>
    cases h2 : look Cd.id b id with
    | none => rw [h1, h2] at h; cases h
    | some y => rw [h1, h2] at h; simpa [over] using h
  | some x =>
    cases h2 : look Cd.id b id with
    | none => rw [h1, h2] at h; simpa [over] using h
    | some y => rw [h1, h2] at h; simpa [over, keepC] using h
theorem merge_ids {a b : List Cd} (ha : Asc Cd.id a) (hb : Asc Cd.id b) (id : Int) : (∃ c ∈ mergeC a b, c.id = id) ↔ id ∈ idsOf a b := by
  have hm : Asc Cd.id (mergeC a b) := layK_asc Cd.id (fun o c h => keepC_id o c h) ha
  have hl := look_lay Cd.id (fun o c h => keepC_id o c h) ha hb id
  unfold idsOf
  rw [List.mem_append, List.mem_map, List.mem_map]
  constructor
  · rintro ⟨c, hc, rfl⟩
    have := look_some Cd.id hm hc
    rw [show mergeC a b = layK Cd.id keepC a b from rfl, hl] at this
    cases h1 : look Cd.id a c.id with
    | some x => exact Or.inl ⟨x, (look_mem Cd.id h1).1, (look_mem Cd.id h1).2⟩
    | none =>
      cases h2 : look Cd.id b c.id with
      | some y => exact Or.inr ⟨y, (look_mem Cd.id h2).1, (look_mem Cd.id h2).2⟩
      | none => rw [h1, h2] at this; cases this
  · intro h
    have hs : ∃ c, over keepC (look Cd.id a id) (look Cd.id b id) = some c := by
      rcases h with ⟨x, hx, rfl⟩ | ⟨x, hx, rfl⟩
      · rw [look_some Cd.id ha hx]
        cases look Cd.id b x.id with
        | none => exact ⟨_, rfl⟩
        | some y => exact ⟨_, rfl⟩
      · rw [look_some Cd.id hb hx]
        cases look Cd.id a x.id with
        | none => exact ⟨_, rfl⟩
        | some y => exact ⟨_, rfl⟩
    obtain ⟨c, hc⟩ := hs
    rw [← hl] at hc
    exact ⟨c, (look_mem Cd.id hc).1, (look_mem Cd.id hc).2⟩
/-- The k-th number is the least above the one ahead of it; its card is the merged one. -/
def idAt (M : List Cd) (k : Nat) : Int := match M[k]? with
  | some c => c.id
  | none => 0
theorem low_first {a b : List Cd} (ha : Asc Cd.id a) (hb : Asc Cd.id b) (p : ∀ c ∈ mergeC a b, 0 < c.id) : lowAbove 0 (idsOf a b) = idAt (mergeC a b) 0 := by
  have hm : Asc Cd.id (mergeC a b) := layK_asc Cd.id (fun o c h => keepC_id o c h) ha
  unfold idAt
  cases hM : mergeC a b with
  | nil =>
    show lowAbove 0 (idsOf a b) = 0
    refine low_none (Int.le_refl _) fun x hx => ?_
    obtain ⟨c, hc, _⟩ := (merge_ids ha hb x).2 hx
    rw [hM] at hc; cases hc
  | cons c M =>
    rw [hM] at hm p
    show lowAbove 0 (idsOf a b) = c.id
    refine low_is (Int.le_refl _) ((merge_ids ha hb c.id).1 ⟨c, by rw [hM]; simp, rfl⟩) (p c (by simp)) fun y hy _ => ?_
    obtain ⟨d, hd, rfl⟩ := (merge_ids ha hb y).2 hy
    rw [hM] at hd
    rcases List.mem_cons.1 hd with rfl | hd
    · exact Int.le_refl _
    · have := (List.pairwise_cons.1 hm).1 d hd; omega
theorem low_next {a b : List Cd} (ha : Asc Cd.id a) (hb : Asc Cd.id b) (p : ∀ c ∈ mergeC a b, 0 < c.id) (k : Nat) (hk : k < (mergeC a b).length) :
    lowAbove (idAt (mergeC a b) k) (idsOf a b) = idAt (mergeC a b) (k + 1) ∧ 0 < idAt (mergeC a b) k ∧ takeC a b (idAt (mergeC a b) k) = (mergeC a b)[k] := by
  have hm : Asc Cd.id (mergeC a b) := layK_asc Cd.id (fun o c h => keepC_id o c h) ha
  have hl := look_lay Cd.id (fun o c h => keepC_id o c h) ha hb
  have hp : ∀ i j (hi : i < (mergeC a b).length) (hj : j < (mergeC a b).length), i < j → (mergeC a b)[i].id < (mergeC a b)[j].id := fun i j hi hj hij => List.pairwise_iff_getElem.1 hm i j hi hj hij
  have e0 : idAt (mergeC a b) k = (mergeC a b)[k].id := by unfold idAt; rw [List.getElem?_eq_getElem hk]
  have p0 := p _ (List.getElem_mem hk)
  rw [e0]
  refine ⟨?_, p0, take_look ?_⟩
  · unfold idAt
    by_cases h1 : k + 1 < (mergeC a b).length
    · rw [List.getElem?_eq_getElem h1]
      show lowAbove _ (idsOf a b) = (mergeC a b)[k + 1].id
      refine low_is (by omega) ((merge_ids ha hb _).1 ⟨_, List.getElem_mem h1, rfl⟩) (hp k (k + 1) hk h1 (by omega)) fun y hy hlt => ?_
      obtain ⟨d, hd, rfl⟩ := (merge_ids ha hb y).2 hy
      obtain ⟨j, hj, rfl⟩ := List.mem_iff_getElem.1 hd
      rcases Nat.lt_trichotomy j (k + 1) with h | h | h
      · rcases Nat.lt_or_ge j k with h2 | h2
        · have := hp j k hj hk h2; omega
        · have : j = k := by omega
          subst this; omega
      · subst h; exact Int.le_refl _
      · have := hp (k + 1) j h1 hj h; omega
    · rw [List.getElem?_eq_none (by omega)]
      show lowAbove _ (idsOf a b) = 0
      refine low_none (by omega) fun y hy => ?_
      obtain ⟨d, hd, rfl⟩ := (merge_ids ha hb y).2 hy
      obtain ⟨j, hj, rfl⟩ := List.mem_iff_getElem.1 hd
      rcases Nat.lt_or_ge j k with h2 | h2
      · have := hp j k hj hk h2; omega
      · have : j = k := by omega
        subst this; exact Int.le_refl _
  · rw [← hl]
    exact look_some Cd.id hm (List.getElem_mem hk)
end Go.Proofs.Ytdjpkgaicmklmab

/- How the program merges and extends: what is newer, laid over what is there: without the program. -/
namespace Go.Proofs.Ytdjpkgaicmklmab
open Go.RowKit

section
variable {α : Type} (key : α → Int)
theorem look_filter (p : α → Bool) : ∀ {l : List α}, Asc key l → ∀ k, look key (l.filter p) k = (look key l k).filter p
  | [], _, _ => rfl
  | x :: l, h, k => by
    simp only [Asc, List.pairwise_cons] at h
    have ih := look_filter p (l := l) h.2 k
    by_cases hp : p x = true
    · rw [List.filter_cons_of_pos hp]
      simp only [look]
      by_cases e : key x = k
      · rw [if_pos e, if_pos e]; simp [Option.filter, hp]
      · rw [if_neg e, if_neg e]; exact ih
    · rw [List.filter_cons_of_neg hp, ih]
      simp only [look]
      by_cases e : key x = k
      · rw [if_pos e, look_none key (fun y hy => by have := h.1 y hy; omega)]; simp [Option.filter, hp]
      · rw [if_neg e]
theorem put_app (f : α → α → α) {c : α} {D : List α} : ∀ {L : List α}, (∀ x ∈ L, key x < key c) → putK key f (L ++ D) c = L ++ putK key f D c
  | [], _ => rfl
  | x :: L, h => by
    simp only [List.cons_append, putK]
    rw [if_pos (h x (by simp)), put_app f (fun y hy => h y (by simp [hy]))]
theorem put_eq (f : α → α → α) {c o : α} {D : List α} (h : key o = key c) : putK key f (o :: D) c = f o c :: D := by
  simp only [putK]; rw [if_neg (by omega), if_pos h]
theorem put_lt (f : α → α → α) {c o : α} {D : List α} (h : key c < key o) : putK key f (o :: D) c = c :: o :: D := by
  simp only [putK]; rw [if_neg (by omega), if_neg (by omega)]
theorem lay_snoc (f : α → α → α) (a b : List α) (c : α) : layK key f a (b ++ [c]) = putK key f (layK key f a b) c := by
  unfold layK; rw [List.foldl_append]; rfl
theorem asc_filter {l : List α} (p : α → Bool) (h : Asc key l) : Asc key (l.filter p) := List.Pairwise.filter p h
end

/-- What one list of clocks has newer than another. -/
def newK (old r : List Ck) : List Ck := r.filter fun c => decide (clkOf old c.site < c.count)
def newP (old : List Cd) (c : Cd) : Bool := match look Cd.id old c.id with
  | some o => laterB c o
  | none => true
def newC (old r : List Cd) : List Cd := r.filter (newP old)
theorem newK_snoc (old r : List Ck) (c : Ck) : newK old (r ++ [c]) = if clkOf old c.site < c.count then newK old r ++ [c] else newK old r := by
  unfold newK; rw [List.filter_append]
  by_cases h : clkOf old c.site < c.count <;> simp [h]
theorem newC_snoc (old r : List Cd) (c : Cd) : newC old (r ++ [c]) = if newP old c = true then newC old r ++ [c] else newC old r := by
  unfold newC; rw [List.filter_append]
  by_cases h : newP old c = true <;> simp [h]
theorem newK_len (old r : List Ck) : (newK old r).length ≤ r.length := List.length_filter_le _ _
theorem newC_len (old r : List Cd) : (newC old r).length ≤ r.length := List.length_filter_le _ _
theorem newK_asc {old r : List Ck} (h : Asc Ck.site r) : Asc Ck.site (newK old r) := asc_filter Ck.site _ h
theorem newC_asc {old r : List Cd} (h : Asc Cd.id r) : Asc Cd.id (newC old r) := asc_filter Cd.id _ h
theorem lay_newK {a b : List Ck} (ha : Asc Ck.site a) (hb : Asc Ck.site b) (pb : ∀ x ∈ b, 1 ≤ x.count) : layK Ck.site (fun _ c => c) a (newK a b) = mergeK a b := by
  refine asc_ext Ck.site (layK_asc Ck.site (fun o c h => rfl) ha) (layK_asc Ck.site (fun o c h => keepK_site o c h) ha) fun k => ?_
  unfold mergeK
  rw [look_lay Ck.site (fun o c h => rfl) ha (newK_asc hb), look_lay Ck.site (fun o c h => keepK_site o c h) ha hb]
  unfold newK
  rw [look_filter Ck.site _ hb]
  cases h2 : look Ck.site b k with
  | none => simp [over_none, Option.filter]
  | some y =>
    have m2 := look_mem Ck.site h2
    have p2 := pb y m2.1
    cases h1 : look Ck.site a k with
    | none =>
      have hc : clkOf a y.site = 0 := by unfold clkOf; rw [m2.2, h1]
      have : clkOf a y.site < y.count := by omega
      simp [Option.filter, this, over]
    | some x =>
      have hc : clkOf a y.site = x.count := by unfold clkOf; rw [m2.2, h1]
      by_cases h : x.count < y.count
      · have : clkOf a y.site < y.count := by omega
        simp [Option.filter, this, over, keepK, h]
      · have : ¬ clkOf a y.site < y.count := by omega
        simp [Option.filter, this, over, keepK, h]
theorem lay_newC {a b : List Cd} (ha : Asc Cd.id a) (hb : Asc Cd.id b) : layK Cd.id (fun _ c => c) a (newC a b) = mergeC a b := by
  refine asc_ext Cd.id (layK_asc Cd.id (fun o c h => rfl) ha) (layK_asc Cd.id (fun o c h => keepC_id o c h) ha) fun k => ?_
  unfold mergeC
  rw [look_lay Cd.id (fun o c h => rfl) ha (newC_asc hb), look_lay Cd.id (fun o c h => keepC_id o c h) ha hb]
  unfold newC
  rw [look_filter Cd.id _ hb]
  cases h2 : look Cd.id b k with
  | none => simp [over_none, Option.filter]
  | some y =>
    have m2 := look_mem Cd.id h2
    cases h1 : look Cd.id a k with
    | none =>
      have hc : newP a y = true := by unfold newP; rw [m2.2, h1]
      simp [Option.filter, hc, over]
    | some x =>
      have hc : newP a y = laterB y x := by unfold newP; rw [m2.2, h1]
      by_cases h : laterB y x = true
      · simp [Option.filter, hc, over, keepC, h]
      · simp [Option.filter, hc, over, keepC, h]
/-- Of what follows, what is newer is what is otherwise. -/
theorem laterB_irr (x : Cd) : laterB x x = false := by unfold laterB; simp
theorem diff_new {o r : Tri} (ha : Asc Ck.site r.K ∧ Asc Cd.id r.C) (hp : ∀ x ∈ r.K, 1 ≤ x.count) (h : followB o r = true) : newK o.K r.K = (diffS o r).K ∧ newC o.C r.C = (diffS o r).C := by
  simp only [followB, followK, followC, Bool.and_eq_true, List.all_eq_true] at h
  constructor
  · unfold newK diffS
    apply List.filter_congr
    intro c hc
    have p := hp c hc
    cases hl : look Ck.site o.K c.site with
    | none =>
      have : clkOf o.K c.site = 0 := by unfold clkOf; rw [hl]
      simp; omega
    | some d =>
      have hd := look_mem Ck.site hl
      have hk : clkOf o.K c.site = d.count := by unfold clkOf; rw [hl]
      have := h.1 d hd.1
      rw [hd.2, look_some Ck.site ha.1 hc] at this
      simp only [decide_eq_true_eq] at this
      rw [hk]
      by_cases e : d.count < c.count
      · have : d ≠ c := fun e2 => by subst e2; omega
        simp [e, this]
      · have : d = c := by
          have h1 : d.site = c.site := hd.2
          have h2 : d.count = c.count := by omega
          cases d; cases c; simp at h1 h2; subst h1; subst h2; rfl
        subst this; simp
  · unfold newC diffS
    apply List.filter_congr
    intro c hc
    cases hl : look Cd.id o.C c.id with
    | none => simp [newP, hl]
    | some d =>
      have hd := look_mem Cd.id hl
      have := h.2 d hd.1
      rw [hd.2, look_some Cd.id ha.2 hc] at this
      simp only [Bool.or_eq_true, decide_eq_true_eq] at this
      simp only [newP, hl]
      rcases this with h3 | h3
      · have : d ≠ c := fun e2 => by subst e2; rw [laterB_irr] at h3; cases h3
        simp [h3, this]
      · subst h3; simp [laterB_irr]
end Go.Proofs.Ytdjpkgaicmklmab

/- The reference's Later, find, behind, clocks, joined: walked. -/
namespace Go.Proofs.Ytdjpkgaicmklmab
open Go.RowKit

/-- The place of a card's number, or -1. -/
def findR (R : Rep) (id : Int) : Option Nat := firstOf (fun i => (R.d i).id == id) R.n2
def findI (R : Rep) (id : Int) : Int := match findR R id with
  | some i => (i : Int)
  | none => -1

/-- The numbers of the cards of both, as they are gone over. -/
def idsR (A B : Rep) (i : Nat) : Int := if i < A.n2 then (A.d i).id else (B.d (i - A.n2)).id
def lowTo (A B : Rep) (id : Int) : Nat → Int
  | 0 => 0
  | k + 1 => lowStep id (lowTo A B id k) (idsR A B k)
def lowR (A B : Rep) (id : Int) : Int := lowTo A B id (A.n2 + B.n2)

end Go.Proofs.Ytdjpkgaicmklmab

/- The reference's clocks and joined: walked. -/
namespace Go.Proofs.Ytdjpkgaicmklmab
open Go.RowKit

/-- A replica's lists. -/
def Rep.tri (R : Rep) : Tri := ⟨(List.range R.n1).map R.c, (List.range R.n2).map R.d, (List.range R.n3).map R.e⟩
theorem clockTo_look (c : Nat → Ck) (s : Int) : ∀ n, clockTo c s n = (look Ck.site ((List.range n).map c) s).map (·.count)
  | 0 => rfl
  | n + 1 => by
    simp only [clockTo]
    rw [clockTo_look c s n, List.range_succ, List.map_append, look_append]
    cases look Ck.site ((List.range n).map c) s with
    | some x => rfl
    | none =>
      simp only [Option.map_none, List.map_cons, List.map_nil, look, Option.none_or]
      split <;> rfl
theorem clk_look (R : Rep) (s : Int) : R.clk s = clkOf R.tri.K s := by
  unfold Rep.clk clkOf Rep.tri
  rw [clockTo_look]
  cases look Ck.site ((List.range R.n1).map R.c) s <;> rfl
theorem kcells_app (a b : List Ck) : kcells (a ++ b) = kcells a ++ kcells b := by simp [kcells]

end Go.Proofs.Ytdjpkgaicmklmab

/- What is newer, of the program: later, cardAt, NewerClocks, NewerCards: walked. -/
namespace Go.Proofs.Ytdjpkgaicmklmab
open Go.RowKit

set_option maxRecDepth 100000 in
set_option maxHeartbeats 4000000 in
theorem plater_any (a b : Cd) (w : World) :
    Calls Try.prog 84 #[cdV a, cdV b] w fun e w' => e = .returned (.bool (laterB a b)) ∧ Below w.heap.size w w' := by
  obtain ⟨hA, hB, hs, hb⟩ := two_boxes w 68 68 a.cells.toArray b.cells.toArray
  have a1 := hA.cell 1; have a2 := hA.cell 2
  have b1 := hB.cell 1; have b2 := hB.cell 2
  dsimp only [List.getElem?_cons_zero, List.getElem?_cons_succ] at a1 a2 b1 b2
  have HB : Hid (Below w.heap.size w ((w.alloc (.cells a.cells.toArray 68)).alloc (.cells b.cells.toArray 68))) := hb
  have HL : Hid (laterB a b = (decide (b.count < a.count) || (a.count == b.count && decide (b.site < a.site)))) := by
    show _ = _; unfold laterB; first | rfl | (simp; done)
  clear hA hB hs hb
  by_cases h2 : a.count = b.count
  · have q : (a.count != b.count) = false := by simp [h2]
    have E : Hid (laterB a b = decide (b.site < a.site)) := by show _ = _; rw [HL.out]; simp [h2]
    clear HL h2
    go_enter Try.func84, Try.ntmps84
    go_wp2_with fail
    go_ret
    exact ⟨by rw [E.out]; rfl, HB.out⟩
  · have q : (a.count != b.count) = true := by simp [h2]
    have E : Hid (laterB a b = decide (b.count < a.count)) := by show _ = _; rw [HL.out]; simp [h2]
    clear HL h2
    go_enter Try.func84, Try.ntmps84
    go_wp2_with fail
    go_ret
    exact ⟨by rw [E.out]; rfl, HB.out⟩

/-- The place of a card's number, or the end. -/
def cardIx (L : List Cd) (id : Int) : Nat := L.findIdx fun c => c.id == id
theorem cardIx_hit {L : List Cd} {id : Int} {k : Nat} (hk : k < L.length) (h : ((L.getD k cd0).id == id) = true) (hno : ∀ j, j < k → ((L.getD j cd0).id == id) = false) : cardIx L id = k := by
  unfold cardIx
  rw [List.findIdx_eq hk]
  refine ⟨by simpa [List.getD, hk] using h, fun j hj => ?_⟩
  have := hno j hj
  simpa [List.getD, show j < L.length by omega] using this
theorem cardIx_none {L : List Cd} {id : Int} (hno : ∀ j, j < L.length → ((L.getD j cd0).id == id) = false) : cardIx L id = L.length := by
  unfold cardIx
  apply List.findIdx_eq_length_of_false
  intro c hc
  obtain ⟨j, hj, rfl⟩ := List.mem_iff_getElem.1 hc
  have := hno j hj
  simpa [List.getD, hj] using this
theorem cardIx_le (L : List Cd) (id : Int) : cardIx L id ≤ L.length := List.findIdx_le_length
theorem cardIx_look : ∀ (L : List Cd) (id : Int), look Cd.id L id = if cardIx L id < L.length then some (L.getD (cardIx L id) cd0) else none
  | [], id => rfl
  | c :: L, id => by
    have ih := cardIx_look L id
    unfold cardIx at ih ⊢
    simp only [look, List.findIdx_cons]
    by_cases e : c.id = id
    · simp [e]
    · have : (c.id == id) = false := by rw [beq_eq_false_iff_ne]; exact e
      rw [if_neg e, this, ih]
      simp
theorem newP_end {L : List Cd} {c : Cd} (h : ¬ cardIx L c.id < L.length) : newP L c = true := by
  unfold newP; rw [cardIx_look, if_neg h]
theorem newP_in {L : List Cd} {c : Cd} (h : cardIx L c.id < L.length) : newP L c = laterB c (L.getD (cardIx L c.id) cd0) := by
  unfold newP; rw [cardIx_look, if_pos h]
theorem clk_list {O : List Ck} {n : Nat} (hn : n = O.length) (s : Int) : (clockTo (fun i => O.getD i ck0) s n).getD 0 = clkOf O s := by
  subst hn
  rw [clockTo_look, range_getD]
  unfold clkOf
  cases look Ck.site O s <;> rfl
theorem take_clock (E : List Ck) (i : Nat) (h : i < E.length) : E.take (i + 1) = E.take i ++ [E.getD i ck0] := by
  rw [List.take_succ_eq_append_getElem h, List.getD_eq_getElem?_getD, List.getElem?_eq_getElem h]; rfl
theorem take_card (E : List Cd) (i : Nat) (h : i < E.length) : E.take (i + 1) = E.take i ++ [E.getD i cd0] := by
  rw [List.take_succ_eq_append_getElem h, List.getD_eq_getElem?_getD, List.getElem?_eq_getElem h]; rfl

set_option maxHeartbeats 2000000 in
theorem pcardAt_any (L : List Cd) (a : Option Addr) (n cap : Nat) (id : Int) (w : World) (hn : n = L.length) (hn2 : n ≤ 140737488355328) (hL : Lies w a n 5 (fun i => (L.getD i cd0).cells)) :
    Calls Try.prog 83 #[.slice a n cap, .int .i64 id] w fun e w' => e = .returned (.int .i64 (cardIx L id : Int)) ∧ w' = w := by
  have HL : Hid (n = L.length) := hn
  clear hn
  go_enter Try.func83, Try.ntmps83
  go_wp2
  go_loop [5] (fun i => ∃ k : Nat, k ≤ n ∧ i = .int .i64 k ∧ (∀ j, j < k → ((L.getD j cd0).id == id) = false)) (fun i => n - (intOf i).toNat)
  case atStart => exact ⟨0, Nat.zero_le _, rfl, fun j hj => by omega⟩
  case round =>
    obtain ⟨k, hk, rfl, hno⟩ := hrel
    have HN : Hid (∀ j, j < k → ((L.getD j cd0).id == id) = false) := hno
    clear hno
    by_cases hlt : k < n
    · obtain ⟨b, o, hbl, hix, c0, c1, c2, c3, c4⟩ := Lies.card (c := fun i => L.getD i cd0) hL cap hlt
      have HE : Hid (((L.getD k cd0).id == id) = true → cardIx L id = k) := fun hq => cardIx_hit (by rw [← HL.out]; exact hlt) hq HN.out
      have HQ : Hid (((L.getD k cd0).id == id) = false → ∀ j, j < k + 1 → ((L.getD j cd0).id == id) = false) := fun hq j hj => by rcases Nat.lt_or_ge j k with h | h; (exact HN.out j h); (rw [show j = k by omega]; exact hq)
      generalize L.getD k cd0 = c at *
      cases hq : (c.id == id) with
      | true =>
        have E : Hid (cardIx L id = k) := HE.out hq
        go_wp2
        go_ret
        exact ⟨ret_int (by rw [E.out]), rfl⟩
      | false =>
        have E : Hid (∀ j, j < k + 1 → ((L.getD j cd0).id == id) = false) := HQ.out hq
        go_wp2
        go_round
        case rel => exact ⟨k + 1, by omega, by go_num, E.out⟩
        case measure => simp [intOf]; omega
    · have e1 : k = n := by omega
      have E : Hid (cardIx L id = n) := by
        show _ = _
        rw [HL.out]; exact cardIx_none (fun j hj => HN.out j (by have := HL.out; omega))
      clear e1
      go_wp2
      go_ret
      exact ⟨ret_int (by rw [E.out]), rfl⟩

set_option maxRecDepth 100000 in
set_option maxHeartbeats 4000000 in
theorem newerClocks_any (O R : List Ck) (a b : Option Addr) (n m ca cb : Nat) (w : World) (hO : Lies w a n 2 (fun i => (O.getD i ck0).cells)) (hR : Lies w b m 2 (fun i => (R.getD i ck0).cells)) (hn : n = O.length) (hm : m = R.length) (hn2 : n ≤ 1099511627776) (hm2 : m ≤ 1099511627776) :
    Calls Try.prog 64 #[.slice a n ca, .slice b m cb] w fun e w' => ∃ ad cap N, e = .returned (.slice ad N cap) ∧ N = (newK O R).length ∧ Vec w' w.heap.size 72 2 ad N cap (kcells (newK O R)) ∧ Below w.heap.size w w' := by
  have hV0 : Hid (Vec (w.alloc (.cells #[] 72)) w.heap.size 72 2 (some ⟨w.heap.size, 0, none⟩) 0 0 (kcells [])) := Vec.lit w w.heap.size 72 2 0 [] (Nat.le_refl _) (by omega) rfl
  have HN : Hid (n = O.length) := hn
  have HM : Hid (m = R.length) := hm
  have HO : Hid (Lies w a n 2 (fun i => (O.getD i ck0).cells)) := hO
  have HR : Hid (Lies w b m 2 (fun i => (R.getD i ck0).cells)) := hR
  clear hn hm hO hR
  go_enter Try.func64, Try.ntmps64
  go_wp2_with fail
  go_loopw [5, 6, 7] (fun v u _ wr => ∃ (i : Nat) (ad : Option Addr) (cap N : Nat), i ≤ m ∧ u = .int .i64 i ∧ v = .slice ad N cap ∧ N = (newK O (R.take i)).length ∧ N ≤ i ∧ Vec wr w.heap.size 72 2 ad N cap (kcells (newK O (R.take i))) ∧ Below w.heap.size w wr) (fun _ u _ _ => m - (intOf u).toNat)
  case atStart => exact ⟨0, _, _, 0, by omega, rfl, rfl, rfl, by omega, hV0.out, (Below.refl _ _).alloc (Nat.le_refl _) _⟩
  case round =>
    obtain ⟨i, ad, cap, N, hi, rfl, rfl, hN, hNi, hv, hb⟩ := hrel
    have HNN : Hid (N = (newK O (R.take i)).length) := hN
    clear hN
    by_cases hlt : i < m
    · have hil : i < R.length := by rw [← HM.out]; exact hlt
      obtain ⟨bb, ob, hblb, hixb, e0, e1⟩ := Lies.clock (c := fun i => R.getD i ck0) (HR.out.below hb) cb hlt
      have HT : Hid (newK O (R.take (i + 1)) = if clkOf O (R.getD i ck0).site < (R.getD i ck0).count then newK O (R.take i) ++ [R.getD i ck0] else newK O (R.take i)) := by
        show _ = _; rw [take_clock R i hil, newK_snoc]
      clear hil
      generalize R.getD i ck0 = c at *
      go_wp2_with fail
      refine (countOf_any a n ca (fun i => O.getD i ck0) c.site _ (by omega) (HO.out.below hb)).mono ?_
      rintro e w1 ⟨rfl, rfl⟩
      rw [clk_list HN.out]
      have hz := hb.size
      have HBA : Hid (∀ o : Obj, Below w.heap.size w (w1.alloc o)) := fun o => hb.alloc hb.size o
      by_cases hp : clkOf O c.site < c.count
      · rw [if_pos hp] at HT
        generalize clkOf O c.site = x at *
        go_wp2_with (at_builtin; refine wpList_push (by rfl) _ _ 24 (by rfl) w.heap.size 72 2 16 (.agg #[.int .i64 0, .int .i64 0]) Try.underlying24 (by kernel_rfl) rfl (by decide) ad N cap _ (by rfl) (hv.keep ((Below.refl _ _).alloc (Nat.le_refl _) _)) _ _ c.cells (by rfl) rfl ?_ ?_ ?_ ?_ ?_ ?_; exact new_cells _ _ _; exact ones1 _; (omega); (omega); (simp; omega); intro ad' cap' w' hv' hb' hs')
        go_roundw
        case rel => exact ⟨i + 1, ad', cap', N + 1, by omega, by go_num, rfl, by rw [HT.out, List.length_append, ← HNN.out]; rfl, by omega, by rw [HT.out, kcells_app]; simpa [kcells] using hv', (HBA.out _).trans hb'⟩
        case measure => simp [intOf]; omega
      · rw [if_neg hp] at HT
        generalize clkOf O c.site = x at *
        go_wp2_with fail
        go_roundw
        case rel => exact ⟨i + 1, ad, cap, N, by omega, by go_num, rfl, by rw [HT.out]; exact HNN.out, by omega, by rw [HT.out]; exact hv, hb⟩
        case measure => simp [intOf]; omega
    · obtain rfl : m = i := by omega
      have HE : Hid (newK O (R.take m) = newK O R) := by show _ = _; rw [HM.out, List.take_length]
      go_wp2_with fail
      go_ret
      exact ⟨ad, cap, N, rfl, by rw [← HE.out]; exact HNN.out, by rw [← HE.out]; exact hv, hb⟩

set_option maxRecDepth 100000 in
set_option maxHeartbeats 4000000 in
theorem newerCards_any (O R : List Cd) (a b : Option Addr) (n m ca cb : Nat) (w : World) (hO : Lies w a n 5 (fun i => (O.getD i cd0).cells)) (hR : Lies w b m 5 (fun i => (R.getD i cd0).cells)) (hn : n = O.length) (hm : m = R.length) (hn2 : n ≤ 1099511627776) (hm2 : m ≤ 1099511627776) :
    Calls Try.prog 65 #[.slice a n ca, .slice b m cb] w fun e w' => ∃ ad cap N, e = .returned (.slice ad N cap) ∧ N = (newC O R).length ∧ Vec w' w.heap.size 68 5 ad N cap (ccells (newC O R)) ∧ Below w.heap.size w w' := by
  have hV0 : Hid (Vec (w.alloc (.cells #[] 68)) w.heap.size 68 5 (some ⟨w.heap.size, 0, none⟩) 0 0 (ccells [])) := Vec.lit w w.heap.size 68 5 0 [] (Nat.le_refl _) (by omega) rfl
  have HN : Hid (n = O.length) := hn
  have HM : Hid (m = R.length) := hm
  have HO : Hid (Lies w a n 5 (fun i => (O.getD i cd0).cells)) := hO
  have HR : Hid (Lies w b m 5 (fun i => (R.getD i cd0).cells)) := hR
  clear hn hm hO hR
  go_enter Try.func65, Try.ntmps65
  go_wp2_with fail
  go_loopw [5, 6, 7] (fun v u _ wr => ∃ (i : Nat) (ad : Option Addr) (cap N : Nat), i ≤ m ∧ u = .int .i64 i ∧ v = .slice ad N cap ∧ N = (newC O (R.take i)).length ∧ N ≤ i ∧ Vec wr w.heap.size 68 5 ad N cap (ccells (newC O (R.take i))) ∧ Below w.heap.size w wr) (fun _ u _ _ => m - (intOf u).toNat)
  case atStart => exact ⟨0, _, _, 0, by omega, rfl, rfl, rfl, by omega, hV0.out, (Below.refl _ _).alloc (Nat.le_refl _) _⟩
  case round =>
    obtain ⟨i, ad, cap, N, hi, rfl, rfl, hN, hNi, hv, hb⟩ := hrel
    have HNN : Hid (N = (newC O (R.take i)).length) := hN
    clear hN
    by_cases hlt : i < m
    · have hil : i < R.length := by rw [← HM.out]; exact hlt
      obtain ⟨bb, ob, hblb, hixb, e0, e1, e2, e3, e4⟩ := Lies.card (c := fun i => R.getD i cd0) (HR.out.below hb) cb hlt
      have HT : Hid (newC O (R.take (i + 1)) = if newP O (R.getD i cd0) = true then newC O (R.take i) ++ [R.getD i cd0] else newC O (R.take i)) := by
        show _ = _; rw [take_card R i hil, newC_snoc]
      clear hil
      generalize R.getD i cd0 = c at *
      go_wp2_with fail
      refine (pcardAt_any O a n ca c.id _ HN.out (by omega) (HO.out.below hb)).mono ?_
      rintro e w1 ⟨rfl, rfl⟩
      have hz := hb.size
      have HV : Hid (∀ X, Below w1.heap.size w1 X → Vec X w.heap.size 68 5 ad N cap (ccells (newC O (R.take i))) ∧ Below w.heap.size w X ∧ w.heap.size ≤ X.heap.size) := fun X h => ⟨hv.keep h, hb.trans (h.mono hb.size), Nat.le_trans hb.size h.size⟩
      have HO1 : Hid (Lies w1 a n 5 (fun i => (O.getD i cd0).cells)) := HO.out.below hb
      have HLE : Hid (cardIx O c.id ≤ n) := by show _ ≤ _; rw [HN.out]; exact cardIx_le _ _
      clear hv hb
      by_cases hq : cardIx O c.id < n
      · obtain ⟨bo, oo, hblo, hixo, f0, f1, f2, f3, f4⟩ := Lies.card (c := fun i => O.getD i cd0) HO1.out ca hq
        have HP : Hid (newP O c = laterB c (O.getD (cardIx O c.id) cd0)) := newP_in (by rw [← HN.out]; exact hq)
        generalize O.getD (cardIx O c.id) cd0 = d at *
        generalize cardIx O c.id = q at *
        have hqn : ((q : Int) == (n : Int)) = false := by rw [beq_eq_false_iff_ne]; omega
        go_wp2_with fail
        go_region_held3 (fun w' => w'.cell? ⟨bb, ob, none⟩ = some (.int .i64 c.id) ∧ w'.cell? ⟨bb, ob + 1, none⟩ = some (.int .i64 c.site) ∧ w'.cell? ⟨bb, ob + 2, none⟩ = some (.int .i64 c.count) ∧ w'.cell? ⟨bb, ob + 3, none⟩ = some (.bool c.gone) ∧ w'.cell? ⟨bb, ob + 4, none⟩ = some (.string c.text) ∧
             w'.cell? ⟨bo, oo, none⟩ = some (.int .i64 d.id) ∧ w'.cell? ⟨bo, oo + 1, none⟩ = some (.int .i64 d.site) ∧ w'.cell? ⟨bo, oo + 2, none⟩ = some (.int .i64 d.count) ∧ w'.cell? ⟨bo, oo + 3, none⟩ = some (.bool d.gone) ∧ w'.cell? ⟨bo, oo + 4, none⟩ = some (.string d.text)) (first | (go_keep; done) | (simp only [hcc bb _ hblb, hcc bo _ hblo]; go_keep; done))
             (first | (go_at_call 84; refine (plater_any c d _).mono ?_; rintro e w' ⟨rfl, hb2⟩; obtain ⟨hcc, hff⟩ := bcell hb2))
        have hbw : Below w1.heap.size w1 w' := Below.trans (by (repeat (first | exact Below.refl _ _ | refine Below.drew ?_))) hb2
        obtain ⟨hvX, hbX, hzX⟩ := HV.out w' hbw
        replace e0 := (hbw.cell (p := ⟨bb, ob, none⟩) hblb).trans e0
        replace e1 := (hbw.cell (p := ⟨bb, ob + 1, none⟩) hblb).trans e1
        replace e2 := (hbw.cell (p := ⟨bb, ob + 2, none⟩) hblb).trans e2
        replace e3 := (hbw.cell (p := ⟨bb, ob + 3, none⟩) hblb).trans e3
        replace e4 := (hbw.cell (p := ⟨bb, ob + 4, none⟩) hblb).trans e4
        clear hbw hb2 hcc hff HV
        cases hl : laterB c d with
        | true =>
          rw [HP.out, if_pos hl] at HT
          clear HP hl
          go_wp2_with (at_builtin; refine wpList_push (by rfl) _ _ 25 (by rfl) w.heap.size 68 5 48 (.agg #[.int .i64 0, .int .i64 0, .int .i64 0, .bool false, .string ⟨#[]⟩]) Try.underlying25 (by kernel_rfl) rfl (by decide) ad N cap _ (by rfl) (hvX.keep ((Below.refl _ _).alloc (Nat.le_refl _) _)) _ _ c.cells (by rfl) rfl ?_ ?_ ?_ ?_ ?_ ?_; exact new_cells _ _ _; exact ones2 _; (omega); (omega); (simp; omega); intro ad' cap' w9 hv' hb' hs')
          go_roundw
          case rel => exact ⟨i + 1, ad', cap', N + 1, by omega, by go_num, rfl, by rw [HT.out, List.length_append, ← HNN.out]; rfl, by omega, by rw [HT.out, ccells_app]; simpa [ccells] using hv', (hbX.alloc hzX _).trans hb'⟩
          case measure => simp [intOf]; omega
        | false =>
          rw [HP.out, if_neg (by rw [hl]; decide)] at HT
          clear HP hl
          go_wp2_with fail
          go_roundw
          case rel => exact ⟨i + 1, ad, cap, N, by omega, by go_num, rfl, by rw [HT.out]; exact HNN.out, by omega, by rw [HT.out]; exact hvX, hbX⟩
          case measure => simp [intOf]; omega
      · have HP : Hid (newP O c = true) := newP_end (by rw [← HN.out]; exact hq)
        have hqe : cardIx O c.id = n := by have := HLE.out; omega
        rw [hqe]
        rw [HP.out, if_pos rfl] at HT
        clear hqe hq HLE HP
        have hqn : ((n : Int) == (n : Int)) = true := by simp
        go_wp2_with fail
        go_quiet (fail)
        have hvx := fun (k : Nat) => (HV.out _ (below_drewN (Below.refl w1.heap.size w1) k)).1
        go_wp2_with (at_builtin; refine wpList_push (by rfl) _ _ 25 (by rfl) w.heap.size 68 5 48 (.agg #[.int .i64 0, .int .i64 0, .int .i64 0, .bool false, .string ⟨#[]⟩]) Try.underlying25 (by kernel_rfl) rfl (by decide) ad N cap _ (by rfl) ((hvx _).keep ((Below.refl _ _).alloc (Nat.le_refl _) _)) _ _ c.cells (by rfl) rfl ?_ ?_ ?_ ?_ ?_ ?_; exact new_cells _ _ _; exact ones2 _; (omega); (omega); (simp; omega); intro ad' cap' w' hv' hb' hs')
        go_roundw
        case rel => exact ⟨i + 1, ad', cap', N + 1, by omega, by go_num, rfl, by rw [HT.out, List.length_append, ← HNN.out]; rfl, by omega, by rw [HT.out, ccells_app]; simpa [ccells] using hv', ((HV.out _ (below_drewN (Below.refl _ _) _)).2.1.alloc (HV.out _ (below_drewN (Below.refl _ _) _)).2.2 _).trans hb'⟩
        case measure => simp [intOf]; omega
    · obtain rfl : m = i := by omega
      have HE : Hid (newC O (R.take m) = newC O R) := by show _ = _; rw [HM.out, List.take_length]
      go_wp2_with fail
      go_ret
      exact ⟨ad, cap, N, rfl, by rw [← HE.out]; exact HNN.out, by rw [← HE.out]; exact hv, hb⟩
end Go.Proofs.Ytdjpkgaicmklmab

/- clocksOver of the program: one rising list laid over another: walked. -/
namespace Go.Proofs.Ytdjpkgaicmklmab
open Go.RowKit

section
variable {P : Program} {w : World} {ops : Array Oper} {rest : List Oper} {o : Oper} {a : Act} {Q : Exit → Act → World → Prop}
/-- 'l[k:]': the list behind, its address a name. -/
theorem wpList_tailm (hgd : o.guard = none) (t : TypeId) (x lo : Operand) (ho : o.op = .slice t x (some lo) none none) (ht : P.underlying t = some (.slice (P.elem t))) (m : Nat) (hs : (P.info? (P.elem t)).map (·.size) = some m)
    (ad : Option Addr) (n cap k : Nat) (K : Int) (hx : a.eval x = .slice ad n cap) (hlo : a.eval lo = .int .i64 K) (hK : K = (k : Int)) (hk : k ≤ n) (f : Nat → List Value) (hL : Lies w ad n m f) (hc : n ≤ cap)
    (h : ∀ ad', Lies w ad' (n - k) m (fun i => f (k + i)) → wpList P ops Q rest (a.put o.dst (.slice ad' (n - k) (cap - k))) w) : wpList P ops Q (o :: rest) a w := by
  subst hK
  cases hq : P.info? (P.elem t) with
  | none => simp [hq] at hs
  | some i =>
    have hi : i.size = m := by simpa [hq] using hs
    have hz : (sizeOf (P.elem t)).run P w = .ok m w := by simp [sizeOf, typeInfo, hq, hi]
    have hrun : (Instr.sliceAt t (.slice ad n cap) (some (.int .i64 (k : Int))) none none).run P w = .ok (.slice (if cap = k then ad else ad.map (·.add (k * m))) (n - k) (cap - k)) w := by
      rw [run_sliceAt_slice w t _ _ _ _ ht, run_slice_l w t ad n cap ht .i64 (k : Int) (by omega) (by omega), hz]
      simp [sliced]
    refine wpList_plain hgd fun K hK => ?_
    unfold Oper.wp
    simp [execOp, ho, hx, hlo, hrun, Result.andThen]
    exact hK _ _ (h _ (hL.drop cap k hc))
end
theorem range_cells {α : Type} (cells : α → List Value) (z : α) (U : List α) (k : Nat) : ((List.range (U.length - k)).map fun j => cells (U.getD (k + j) z)).flatten = ((U.drop k).map cells).flatten := by
  congr 1
  apply List.ext_getElem?
  intro i
  by_cases hi : k + i < U.length
  · have h2 : i < U.length - k := by omega
    simp [hi, h2, List.getD]
  · have h2 : ¬ i < U.length - k := by omega
    simp [h2]
theorem range_ks (U : List Ck) (k : Nat) : ((List.range (U.length - k)).map fun j => (U.getD (k + j) ck0).cells).flatten = kcells (U.drop k) := range_cells Ck.cells ck0 U k
theorem range_cs (U : List Cd) (k : Nat) : ((List.range (U.length - k)).map fun j => (U.getD (k + j) cd0).cells).flatten = ccells (U.drop k) := range_cells Cd.cells cd0 U k

set_option maxRecDepth 100000 in
set_option maxHeartbeats 8000000 in
theorem clocksOver_any (U V : List Ck) (a b : Option Addr) (n m ca cb : Nat) (w : World) (hU : Lies w a n 2 (fun i => (U.getD i ck0).cells)) (hV : Lies w b m 2 (fun i => (V.getD i ck0).cells)) (hn : n = U.length) (hm : m = V.length) (hn2 : n ≤ 1099511627776) (hm2 : m ≤ 1099511627776) (hca : n ≤ ca) (hA : Asc Ck.site V) :
    Calls Try.prog 86 #[.slice a n ca, .slice b m cb] w fun e w' => ∃ ad cap N, e = .returned (.slice ad N cap) ∧ N = (layK Ck.site (fun _ c => c) U V).length ∧ Vec w' w.heap.size 72 2 ad N cap (kcells (layK Ck.site (fun _ c => c) U V)) ∧ Below w.heap.size w w' := by
  have hV0 : Hid (Vec (w.alloc (.cells #[] 72)) w.heap.size 72 2 (some ⟨w.heap.size, 0, none⟩) 0 0 (kcells [])) := Vec.lit w w.heap.size 72 2 0 [] (Nat.le_refl _) (by omega) rfl
  have HN : Hid (n = U.length) := hn
  have HM : Hid (m = V.length) := hm
  have HU : Hid (Lies w a n 2 (fun i => (U.getD i ck0).cells)) := hU
  have HV : Hid (Lies w b m 2 (fun i => (V.getD i ck0).cells)) := hV
  have HA : Hid (Asc Ck.site V) := hA
  clear hn hm hU hV hA
  go_enter Try.func86, Try.ntmps86
  go_wp2_with fail
  go_loopw [5, 6, 7] (fun v x u wr => ∃ (i k : Nat) (ad : Option Addr) (cap N : Nat) (L : List Ck), i ≤ m ∧ k ≤ n ∧ u = .int .i64 i ∧ x = .int .i64 k ∧ v = .slice ad N cap ∧ N = L.length ∧ N ≤ i + k ∧ L ++ U.drop k = layK Ck.site (fun _ c => c) U (V.take i) ∧ (∀ x ∈ L, ∀ j, i ≤ j → j < V.length → Ck.site x < Ck.site (V.getD j ck0)) ∧ Vec wr w.heap.size 72 2 ad N cap (kcells L) ∧ Below w.heap.size w wr) (fun _ _ u _ => m - (intOf u).toNat)
  case atStart => exact ⟨0, 0, _, _, 0, [], by omega, by omega, rfl, rfl, rfl, rfl, by omega, by simp [layK], (fun x hx => by cases hx), hV0.out, (Below.refl _ _).alloc (Nat.le_refl _) _⟩
  case round =>
    clear hV0
    obtain ⟨i, k, ad, cap, N, L, hi, hk, rfl, rfl, rfl, hN, hNi, hS, hlow, hv, hb⟩ := hrel
    have HNN : Hid (N = L.length) := hN
    have HS : Hid (L ++ U.drop k = layK Ck.site (fun _ c => c) U (V.take i)) := hS
    have HLOW : Hid (∀ x ∈ L, ∀ j, i ≤ j → j < V.length → Ck.site x < Ck.site (V.getD j ck0)) := hlow
    clear hN hS hlow
    by_cases hlt : i < m
    · have hil : i < V.length := by rw [← HM.out]; exact hlt
      have HVB : Hid (∀ X, Below w.heap.size w X → Lies X b m 2 (fun i => (V.getD i ck0).cells)) := fun X h => HV.out.below h
      have HT : Hid (layK Ck.site (fun _ c => c) U (V.take (i + 1)) = putK Ck.site (fun _ c => c) (layK Ck.site (fun _ c => c) U (V.take i)) (V.getD i ck0)) := by
        show _ = _; rw [take_clock V i hil, lay_snoc]
      have HUP : Hid (∀ j, i < j → j < V.length → Ck.site (V.getD i ck0) < Ck.site (V.getD j ck0)) := fun j h1 h2 => by
        have := List.pairwise_iff_getElem.1 HA.out i j hil h2 h1
        simpa [List.getD, hil, h2] using this
      have HL0 : Hid (∀ x ∈ L, Ck.site x < Ck.site (V.getD i ck0)) := fun x hx => HLOW.out x hx i (Nat.le_refl _) hil
      have HV5 : Hid (Vec wr w.heap.size 72 2 ad N cap (kcells L)) := hv
      have HB5 : Hid (Below w.heap.size w wr) := hb
      generalize layK Ck.site (fun _ c => c) U (V.take i) = S at *
      generalize hwr : wr = w5 at *
      clear hv hb hwr HLOW hil
      go_wp2_with fail
      go_loopw [5, 6] (fun v x wr => ∃ (k : Nat) (ad : Option Addr) (cap N : Nat) (L : List Ck), k ≤ n ∧ x = .int .i64 k ∧ v = .slice ad N cap ∧ N = L.length ∧ N ≤ i + k ∧ L ++ U.drop k = S ∧ (∀ x ∈ L, Ck.site x < Ck.site (V.getD i ck0)) ∧ Vec wr w.heap.size 72 2 ad N cap (kcells L) ∧ Below w.heap.size w wr) (fun _ x _ => n - (intOf x).toNat)
      case atStart => exact ⟨k, ad, cap, N, L, hk, rfl, rfl, HNN.out, hNi, HS.out, HL0.out, HV5.out, HB5.out⟩
      case round =>
        clear HNN HS HL0 HV5 HB5 hk hNi
        obtain ⟨k, ad, cap, N, L, hk, rfl, rfl, hN, hNi, hS, hlow, hv, hb⟩ := hrel
        have HNN : Hid (N = L.length) := hN
        have HS : Hid (L ++ U.drop k = S) := hS
        have HLOW : Hid (∀ x ∈ L, Ck.site x < Ck.site (V.getD i ck0)) := hlow
        clear hN hS hlow
        obtain ⟨bv, ov, hblv, hixv, e0, e1⟩ := Lies.clock (c := fun i => V.getD i ck0) (HVB.out _ hb) cb hlt
        have hz := hb.size
        have HALL : Hid (∀ X, Below wr.heap.size wr X → Vec X w.heap.size 72 2 ad N cap (kcells L) ∧ Below w.heap.size w X ∧ w.heap.size ≤ X.heap.size) := fun X h => ⟨hv.keep h, hb.trans (h.mono hb.size), Nat.le_trans hb.size h.size⟩
        by_cases hlk : k < n
        · have hkl : k < U.length := by rw [← HN.out]; exact hlk
          obtain ⟨bu, ou, hblu, hixu, f0, f1⟩ := Lies.clock (c := fun i => U.getD i ck0) (HU.out.below hb) ca hlk
          have HD : Hid (U.drop k = U.getD k ck0 :: U.drop (k + 1)) := by
            show _ = _; rw [List.drop_eq_getElem_cons hkl]; simp [List.getD, hkl]
          have hd1 : decide ((k : Int) < (n : Int)) = true := by simp; exact hlk
          clear hkl hv hb
          by_cases hq : Ck.site (U.getD k ck0) < Ck.site (V.getD i ck0)
          · have HQ : Hid (Ck.site (U.getD k ck0) < Ck.site (V.getD i ck0)) := hq
            have hd2 : decide (Ck.site (U.getD k ck0) < Ck.site (V.getD i ck0)) = true := decide_eq_true hq
            clear hq
            generalize U.getD k ck0 = u at *
            generalize V.getD i ck0 = c at *
            go_wp2_with fail
            go_quiet (fail)
            generalize hX : wr.drewN _ = X
            have hbX : Below wr.heap.size wr X := by rw [← hX]; exact below_drewN (Below.refl _ _) _
            obtain ⟨hvX, hbw, hzX⟩ := HALL.out X hbX
            replace f0 := (hbX.cell (p := ⟨bu, ou, none⟩) hblu).trans f0; replace f1 := (hbX.cell (p := ⟨bu, ou + 1, none⟩) hblu).trans f1
            clear hX HALL
            go_wp2_with (at_builtin; refine wpList_push (by rfl) _ _ 24 (by rfl) w.heap.size 72 2 16 (.agg #[.int .i64 0, .int .i64 0]) Try.underlying24 (by kernel_rfl) rfl (by decide) ad N cap _ (by rfl) (hvX.keep ((Below.refl _ _).alloc (Nat.le_refl _) _)) _ _ u.cells (by rfl) rfl ?_ ?_ ?_ ?_ ?_ ?_; exact new_cells _ _ _; exact ones1 _; (omega); (omega); (simp; omega); intro ad' cap' w' hv' hb' hs')
            go_roundw
            case rel => exact ⟨k + 1, ad', cap', N + 1, L ++ [u], by omega, by go_num, rfl, by rw [List.length_append, ← HNN.out]; rfl, by omega, by rw [← HS.out, HD.out]; simp, fun x hx => by rcases List.mem_append.1 hx with h | h; (exact HLOW.out x h); (simp at h; subst h; exact HQ.out), by rw [kcells_app]; simpa [kcells] using hv', (hbw.alloc hzX _).trans hb'⟩
            case measure => simp [intOf]; omega
          · have HQ : Hid (¬ Ck.site (U.getD k ck0) < Ck.site (V.getD i ck0)) := hq
            have hd2 : decide (Ck.site (U.getD k ck0) < Ck.site (V.getD i ck0)) = false := decide_eq_false hq
            clear hq
            have HCS : Hid ((∀ x ∈ L ++ [V.getD i ck0], ∀ j, i + 1 ≤ j → j < V.length → Ck.site x < Ck.site (V.getD j ck0))) := fun x hx j h1 h2 => by
              have hc := HUP.out j (by omega) h2
              rcases List.mem_append.1 hx with h | h
              · have := HLOW.out x h; omega
              · simp at h; subst h; exact hc
            generalize hu : U.getD k ck0 = u at *
            generalize hcg : V.getD i ck0 = c at *
            clear hu hcg
            go_wp2_with fail
            go_quiet (fail)
            generalize hX : wr.drewN _ = X
            have hbX : Below wr.heap.size wr X := by rw [← hX]; exact below_drewN (Below.refl _ _) _
            obtain ⟨hvX, hbw, hzX⟩ := HALL.out X hbX
            replace f0 := (hbX.cell (p := ⟨bu, ou, none⟩) hblu).trans f0; replace f1 := (hbX.cell (p := ⟨bu, ou + 1, none⟩) hblu).trans f1
            replace e0 := (hbX.cell (p := ⟨bv, ov, none⟩) hblv).trans e0; replace e1 := (hbX.cell (p := ⟨bv, ov + 1, none⟩) hblv).trans e1
            clear hX HALL
            by_cases he : Ck.site u = Ck.site c
            · have HE : Hid (Ck.site u = Ck.site c) := he
              have hd3 : (Ck.site u == Ck.site c) = true := by simp [he]
              clear he
              have HALL : Hid (∀ Y, Below X.heap.size X Y → Vec Y w.heap.size 72 2 ad N cap (kcells L) ∧ Below w.heap.size w Y ∧ w.heap.size ≤ Y.heap.size) := fun Y h => ⟨hvX.keep h, hbw.trans (h.mono hzX), Nat.le_trans hzX h.size⟩
              go_wp2_with fail
              go_quiet (fail)
              generalize hY : X.drewN _ = Y
              have hbY : Below X.heap.size X Y := by rw [← hY]; exact below_drewN (Below.refl _ _) _
              obtain ⟨hvY, hbwY, hzY⟩ := HALL.out Y hbY
              replace e0 := (hbY.cell (p := ⟨bv, ov, none⟩) (Nat.lt_of_lt_of_le hblv hbX.size)).trans e0; replace e1 := (hbY.cell (p := ⟨bv, ov + 1, none⟩) (Nat.lt_of_lt_of_le hblv hbX.size)).trans e1
              clear hY HALL hvX hbw hzX
              go_wp2_with (at_builtin; refine wpList_push (by rfl) _ _ 24 (by rfl) w.heap.size 72 2 16 (.agg #[.int .i64 0, .int .i64 0]) Try.underlying24 (by kernel_rfl) rfl (by decide) ad N cap _ (by rfl) (hvY.keep ((Below.refl _ _).alloc (Nat.le_refl _) _)) _ _ c.cells (by rfl) rfl ?_ ?_ ?_ ?_ ?_ ?_; exact new_cells _ _ _; exact ones1 _; (omega); (omega); (simp; omega); intro ad' cap' w' hv' hb' hs')
              go_roundw
              case rel => exact ⟨i + 1, k + 1, ad', cap', N + 1, L ++ [c], by omega, by omega, by go_num, by go_num, rfl, by rw [List.length_append, ← HNN.out]; rfl, by omega, by rw [HT.out, ← HS.out, HD.out, put_app Ck.site _ HLOW.out, put_eq Ck.site _ HE.out]; simp, HCS.out, by rw [kcells_app]; simpa [kcells] using hv', (hbwY.alloc hzY _).trans hb'⟩
              case measure => simp [intOf]; omega
            · have HE : Hid (Ck.site c < Ck.site u) := by have := HQ.out; show _ < _; omega
              have hd3 : (Ck.site u == Ck.site c) = false := by rw [beq_eq_false_iff_ne]; exact he
              clear he
              have HALL : Hid (∀ Y, Below X.heap.size X Y → Vec Y w.heap.size 72 2 ad N cap (kcells L) ∧ Below w.heap.size w Y ∧ w.heap.size ≤ Y.heap.size) := fun Y h => ⟨hvX.keep h, hbw.trans (h.mono hzX), Nat.le_trans hzX h.size⟩
              go_wp2_with fail
              go_quiet (fail)
              generalize hY : X.drewN _ = Y
              have hbY : Below X.heap.size X Y := by rw [← hY]; exact below_drewN (Below.refl _ _) _
              obtain ⟨hvY, hbwY, hzY⟩ := HALL.out Y hbY
              replace e0 := (hbY.cell (p := ⟨bv, ov, none⟩) (Nat.lt_of_lt_of_le hblv hbX.size)).trans e0; replace e1 := (hbY.cell (p := ⟨bv, ov + 1, none⟩) (Nat.lt_of_lt_of_le hblv hbX.size)).trans e1
              clear hY HALL hvX hbw hzX
              go_wp2_with (at_builtin; refine wpList_push (by rfl) _ _ 24 (by rfl) w.heap.size 72 2 16 (.agg #[.int .i64 0, .int .i64 0]) Try.underlying24 (by kernel_rfl) rfl (by decide) ad N cap _ (by rfl) (hvY.keep ((Below.refl _ _).alloc (Nat.le_refl _) _)) _ _ c.cells (by rfl) rfl ?_ ?_ ?_ ?_ ?_ ?_; exact new_cells _ _ _; exact ones1 _; (omega); (omega); (simp; omega); intro ad' cap' w' hv' hb' hs')
              go_roundw
              case rel => exact ⟨i + 1, k, ad', cap', N + 1, L ++ [c], by omega, by omega, by go_num, by go_num, rfl, by rw [List.length_append, ← HNN.out]; rfl, by omega, by rw [HT.out, ← HS.out, put_app Ck.site _ HLOW.out, HD.out, put_lt Ck.site _ HE.out]; simp, HCS.out, by rw [kcells_app]; simpa [kcells] using hv', (hbwY.alloc hzY _).trans hb'⟩
              case measure => simp [intOf]; omega
        · have hkn : k = n := by omega
          have HD : Hid (U.drop k = []) := by show _ = _; rw [hkn, HN.out]; exact List.drop_length
          have hd0 : ¬ (k : Int) < (n : Int) := by omega
          have hd1 : decide ((k : Int) < (n : Int)) = false := decide_eq_false hd0
          clear hkn
          have HCS : Hid ((∀ x ∈ L ++ [V.getD i ck0], ∀ j, i + 1 ≤ j → j < V.length → Ck.site x < Ck.site (V.getD j ck0))) := fun x hx j h1 h2 => by
              have hc := HUP.out j (by omega) h2
              rcases List.mem_append.1 hx with h | h
              · have := HLOW.out x h; omega
              · simp at h; subst h; exact hc
          generalize hcg : V.getD i ck0 = c at *
          clear hcg hv hb
          go_wp2_with fail
          go_quiet (fail)
          generalize hX : wr.drewN _ = X
          have hbX : Below wr.heap.size wr X := by rw [← hX]; exact below_drewN (Below.refl _ _) _
          obtain ⟨hvX, hbw, hzX⟩ := HALL.out X hbX
          replace e0 := (hbX.cell (p := ⟨bv, ov, none⟩) hblv).trans e0; replace e1 := (hbX.cell (p := ⟨bv, ov + 1, none⟩) hblv).trans e1
          clear hX HALL
          have HALL : Hid (∀ Y, Below X.heap.size X Y → Vec Y w.heap.size 72 2 ad N cap (kcells L) ∧ Below w.heap.size w Y ∧ w.heap.size ≤ Y.heap.size) := fun Y h => ⟨hvX.keep h, hbw.trans (h.mono hzX), Nat.le_trans hzX h.size⟩
          go_wp2_with fail
          go_quiet (fail)
          generalize hY : X.drewN _ = Y
          have hbY : Below X.heap.size X Y := by rw [← hY]; exact below_drewN (Below.refl _ _) _
          obtain ⟨hvY, hbwY, hzY⟩ := HALL.out Y hbY
          replace e0 := (hbY.cell (p := ⟨bv, ov, none⟩) (Nat.lt_of_lt_of_le hblv hbX.size)).trans e0; replace e1 := (hbY.cell (p := ⟨bv, ov + 1, none⟩) (Nat.lt_of_lt_of_le hblv hbX.size)).trans e1
          clear hY HALL hvX hbw hzX
          go_wp2_with (at_builtin; refine wpList_push (by rfl) _ _ 24 (by rfl) w.heap.size 72 2 16 (.agg #[.int .i64 0, .int .i64 0]) Try.underlying24 (by kernel_rfl) rfl (by decide) ad N cap _ (by rfl) (hvY.keep ((Below.refl _ _).alloc (Nat.le_refl _) _)) _ _ c.cells (by rfl) rfl ?_ ?_ ?_ ?_ ?_ ?_; exact new_cells _ _ _; exact ones1 _; (omega); (omega); (simp; omega); intro ad' cap' w' hv' hb' hs')
          go_roundw
          case rel => exact ⟨i + 1, k, ad', cap', N + 1, L ++ [c], by omega, by omega, by go_num, by go_num, rfl, by rw [List.length_append, ← HNN.out]; rfl, by omega, by rw [HT.out, ← HS.out, put_app Ck.site _ HLOW.out, HD.out]; simp [putK], HCS.out, by rw [kcells_app]; simpa [kcells] using hv', (hbwY.alloc hzY _).trans hb'⟩
          case measure => simp [intOf]; omega
    · obtain rfl : m = i := by omega
      have HE : Hid (L ++ U.drop k = layK Ck.site (fun _ c => c) U V) := by
        show _ = _; rw [HS.out, HM.out, List.take_length]
      have HLU : Hid (Lies wr a n 2 (fun i => (U.getD i ck0).cells)) := HU.out.below hb
      have hz := hb.size
      have u1 : (0 : Int) ≤ (k : Int) := by omega
      have u2 : (k : Int) ≤ (ca : Int) := by omega
      clear HS HLOW
      go_wp2_with (first
        | (refine wpList_tailm (by rfl) 24 _ _ (by rfl) (by kernel_rfl) 2 (by kernel_rfl) a n ca k _ (by rfl) (by rfl) (by omega) (by omega) _ HLU.out hca ?_; intro A9 HL9)
        | (at_builtin; refine wpList_pushAll (by rfl) _ _ 24 (by rfl) w.heap.size 72 2 16 (.agg #[.int .i64 0, .int .i64 0]) Try.underlying24 (by kernel_rfl) rfl (by decide) ad N cap _ (by rfl) hv A9 (n - k) (ca - k) (fun j => (U.getD (k + j) ck0).cells) (by rfl) HL9 (fun _ _ => rfl) (fun j _ => ones1 _) ?_ ?_ ?_ (N + (n - k)) ?_ ?_; (omega); (omega); (exact hz); (omega); intro ad5 cap5 w5 hv5 hb5 hs5))
      go_ret
      refine ⟨ad5, cap5, _, rfl, ?_, ?_, hb.trans hb5⟩
      · rw [← HE.out, List.length_append, List.length_drop, ← HNN.out, ← HN.out]
      · rw [← HE.out, kcells_app]
        have e : ((List.range (n - k)).map fun j => (U.getD (k + j) ck0).cells).flatten = kcells (U.drop k) := by
          rw [HN.out]; exact range_ks U k
        rw [e] at hv5; exact hv5
end Go.Proofs.Ytdjpkgaicmklmab

/- cardsOver of the program: one rising list laid over another: walked. -/
namespace Go.Proofs.Ytdjpkgaicmklmab
open Go.RowKit


set_option maxRecDepth 100000 in
set_option maxHeartbeats 8000000 in
theorem cardsOver_any (U V : List Cd) (a b : Option Addr) (n m ca cb : Nat) (w : World) (hU : Lies w a n 5 (fun i => (U.getD i cd0).cells)) (hV : Lies w b m 5 (fun i => (V.getD i cd0).cells)) (hn : n = U.length) (hm : m = V.length) (hn2 : n ≤ 1099511627776) (hm2 : m ≤ 1099511627776) (hca : n ≤ ca) (hA : Asc Cd.id V) :
    Calls Try.prog 87 #[.slice a n ca, .slice b m cb] w fun e w' => ∃ ad cap N, e = .returned (.slice ad N cap) ∧ N = (layK Cd.id (fun _ c => c) U V).length ∧ Vec w' w.heap.size 68 5 ad N cap (ccells (layK Cd.id (fun _ c => c) U V)) ∧ Below w.heap.size w w' := by
  have hV0 : Hid (Vec (w.alloc (.cells #[] 68)) w.heap.size 68 5 (some ⟨w.heap.size, 0, none⟩) 0 0 (ccells [])) := Vec.lit w w.heap.size 68 5 0 [] (Nat.le_refl _) (by omega) rfl
  have HN : Hid (n = U.length) := hn
  have HM : Hid (m = V.length) := hm
  have HU : Hid (Lies w a n 5 (fun i => (U.getD i cd0).cells)) := hU
  have HV : Hid (Lies w b m 5 (fun i => (V.getD i cd0).cells)) := hV
  have HA : Hid (Asc Cd.id V) := hA
  clear hn hm hU hV hA
  go_enter Try.func87, Try.ntmps87
  go_wp2_with fail
  go_loopw [5, 6, 7] (fun v x u wr => ∃ (i k : Nat) (ad : Option Addr) (cap N : Nat) (L : List Cd), i ≤ m ∧ k ≤ n ∧ u = .int .i64 i ∧ x = .int .i64 k ∧ v = .slice ad N cap ∧ N = L.length ∧ N ≤ i + k ∧ L ++ U.drop k = layK Cd.id (fun _ c => c) U (V.take i) ∧ (∀ x ∈ L, ∀ j, i ≤ j → j < V.length → Cd.id x < Cd.id (V.getD j cd0)) ∧ Vec wr w.heap.size 68 5 ad N cap (ccells L) ∧ Below w.heap.size w wr) (fun _ _ u _ => m - (intOf u).toNat)
  case atStart => exact ⟨0, 0, _, _, 0, [], by omega, by omega, rfl, rfl, rfl, rfl, by omega, by simp [layK], (fun x hx => by cases hx), hV0.out, (Below.refl _ _).alloc (Nat.le_refl _) _⟩
  case round =>
    clear hV0
    obtain ⟨i, k, ad, cap, N, L, hi, hk, rfl, rfl, rfl, hN, hNi, hS, hlow, hv, hb⟩ := hrel
    have HNN : Hid (N = L.length) := hN
    have HS : Hid (L ++ U.drop k = layK Cd.id (fun _ c => c) U (V.take i)) := hS
    have HLOW : Hid (∀ x ∈ L, ∀ j, i ≤ j → j < V.length → Cd.id x < Cd.id (V.getD j cd0)) := hlow
    clear hN hS hlow
    by_cases hlt : i < m
    · have hil : i < V.length := by rw [← HM.out]; exact hlt
      have HVB : Hid (∀ X, Below w.heap.size w X → Lies X b m 5 (fun i => (V.getD i cd0).cells)) := fun X h => HV.out.below h
      have HT : Hid (layK Cd.id (fun _ c => c) U (V.take (i + 1)) = putK Cd.id (fun _ c => c) (layK Cd.id (fun _ c => c) U (V.take i)) (V.getD i cd0)) := by
        show _ = _; rw [take_card V i hil, lay_snoc]
      have HUP : Hid (∀ j, i < j → j < V.length → Cd.id (V.getD i cd0) < Cd.id (V.getD j cd0)) := fun j h1 h2 => by
        have := List.pairwise_iff_getElem.1 HA.out i j hil h2 h1
        simpa [List.getD, hil, h2] using this
      have HL0 : Hid (∀ x ∈ L, Cd.id x < Cd.id (V.getD i cd0)) := fun x hx => HLOW.out x hx i (Nat.le_refl _) hil
      have HV5 : Hid (Vec wr w.heap.size 68 5 ad N cap (ccells L)) := hv
      have HB5 : Hid (Below w.heap.size w wr) := hb
      generalize layK Cd.id (fun _ c => c) U (V.take i) = S at *
      generalize hwr : wr = w5 at *
      clear hv hb hwr HLOW hil
      go_wp2_with fail
      go_loopw [5, 6] (fun v x wr => ∃ (k : Nat) (ad : Option Addr) (cap N : Nat) (L : List Cd), k ≤ n ∧ x = .int .i64 k ∧ v = .slice ad N cap ∧ N = L.length ∧ N ≤ i + k ∧ L ++ U.drop k = S ∧ (∀ x ∈ L, Cd.id x < Cd.id (V.getD i cd0)) ∧ Vec wr w.heap.size 68 5 ad N cap (ccells L) ∧ Below w.heap.size w wr) (fun _ x _ => n - (intOf x).toNat)
      case atStart => exact ⟨k, ad, cap, N, L, hk, rfl, rfl, HNN.out, hNi, HS.out, HL0.out, HV5.out, HB5.out⟩
      case round =>
        clear HNN HS HL0 HV5 HB5 hk hNi
        obtain ⟨k, ad, cap, N, L, hk, rfl, rfl, hN, hNi, hS, hlow, hv, hb⟩ := hrel
        have HNN : Hid (N = L.length) := hN
        have HS : Hid (L ++ U.drop k = S) := hS
        have HLOW : Hid (∀ x ∈ L, Cd.id x < Cd.id (V.getD i cd0)) := hlow
        clear hN hS hlow
        obtain ⟨bv, ov, hblv, hixv, e0, e1, e2, e3, e4⟩ := Lies.card (c := fun i => V.getD i cd0) (HVB.out _ hb) cb hlt
        have hz := hb.size
        have HALL : Hid (∀ X, Below wr.heap.size wr X → Vec X w.heap.size 68 5 ad N cap (ccells L) ∧ Below w.heap.size w X ∧ w.heap.size ≤ X.heap.size) := fun X h => ⟨hv.keep h, hb.trans (h.mono hb.size), Nat.le_trans hb.size h.size⟩
        by_cases hlk : k < n
        · have hkl : k < U.length := by rw [← HN.out]; exact hlk
          obtain ⟨bu, ou, hblu, hixu, f0, f1, f2, f3, f4⟩ := Lies.card (c := fun i => U.getD i cd0) (HU.out.below hb) ca hlk
          have HD : Hid (U.drop k = U.getD k cd0 :: U.drop (k + 1)) := by
            show _ = _; rw [List.drop_eq_getElem_cons hkl]; simp [List.getD, hkl]
          have hd1 : decide ((k : Int) < (n : Int)) = true := by simp; exact hlk
          clear hkl hv hb
          by_cases hq : Cd.id (U.getD k cd0) < Cd.id (V.getD i cd0)
          · have HQ : Hid (Cd.id (U.getD k cd0) < Cd.id (V.getD i cd0)) := hq
            have hd2 : decide (Cd.id (U.getD k cd0) < Cd.id (V.getD i cd0)) = true := decide_eq_true hq
            clear hq
            generalize U.getD k cd0 = u at *
            generalize V.getD i cd0 = c at *
            go_wp2_with fail
            go_quiet (fail)
            generalize hX : wr.drewN _ = X
            have hbX : Below wr.heap.size wr X := by rw [← hX]; exact below_drewN (Below.refl _ _) _
            obtain ⟨hvX, hbw, hzX⟩ := HALL.out X hbX
            replace f0 := (hbX.cell (p := ⟨bu, ou, none⟩) hblu).trans f0; replace f1 := (hbX.cell (p := ⟨bu, ou + 1, none⟩) hblu).trans f1; replace f2 := (hbX.cell (p := ⟨bu, ou + 2, none⟩) hblu).trans f2; replace f3 := (hbX.cell (p := ⟨bu, ou + 3, none⟩) hblu).trans f3; replace f4 := (hbX.cell (p := ⟨bu, ou + 4, none⟩) hblu).trans f4
            clear hX HALL
            go_wp2_with (at_builtin; refine wpList_push (by rfl) _ _ 25 (by rfl) w.heap.size 68 5 48 (.agg #[.int .i64 0, .int .i64 0, .int .i64 0, .bool false, .string ⟨#[]⟩]) Try.underlying25 (by kernel_rfl) rfl (by decide) ad N cap _ (by rfl) (hvX.keep ((Below.refl _ _).alloc (Nat.le_refl _) _)) _ _ u.cells (by rfl) rfl ?_ ?_ ?_ ?_ ?_ ?_; exact new_cells _ _ _; exact ones2 _; (omega); (omega); (simp; omega); intro ad' cap' w' hv' hb' hs')
            go_roundw
            case rel => exact ⟨k + 1, ad', cap', N + 1, L ++ [u], by omega, by go_num, rfl, by rw [List.length_append, ← HNN.out]; rfl, by omega, by rw [← HS.out, HD.out]; simp, fun x hx => by rcases List.mem_append.1 hx with h | h; (exact HLOW.out x h); (simp at h; subst h; exact HQ.out), by rw [ccells_app]; simpa [ccells] using hv', (hbw.alloc hzX _).trans hb'⟩
            case measure => simp [intOf]; omega
          · have HQ : Hid (¬ Cd.id (U.getD k cd0) < Cd.id (V.getD i cd0)) := hq
            have hd2 : decide (Cd.id (U.getD k cd0) < Cd.id (V.getD i cd0)) = false := decide_eq_false hq
            clear hq
            have HCS : Hid ((∀ x ∈ L ++ [V.getD i cd0], ∀ j, i + 1 ≤ j → j < V.length → Cd.id x < Cd.id (V.getD j cd0))) := fun x hx j h1 h2 => by
              have hc := HUP.out j (by omega) h2
              rcases List.mem_append.1 hx with h | h
              · have := HLOW.out x h; omega
              · simp at h; subst h; exact hc
            generalize hu : U.getD k cd0 = u at *
            generalize hcg : V.getD i cd0 = c at *
            clear hu hcg
            go_wp2_with fail
            go_quiet (fail)
            generalize hX : wr.drewN _ = X
            have hbX : Below wr.heap.size wr X := by rw [← hX]; exact below_drewN (Below.refl _ _) _
            obtain ⟨hvX, hbw, hzX⟩ := HALL.out X hbX
            replace f0 := (hbX.cell (p := ⟨bu, ou, none⟩) hblu).trans f0; replace f1 := (hbX.cell (p := ⟨bu, ou + 1, none⟩) hblu).trans f1; replace f2 := (hbX.cell (p := ⟨bu, ou + 2, none⟩) hblu).trans f2; replace f3 := (hbX.cell (p := ⟨bu, ou + 3, none⟩) hblu).trans f3; replace f4 := (hbX.cell (p := ⟨bu, ou + 4, none⟩) hblu).trans f4
            replace e0 := (hbX.cell (p := ⟨bv, ov, none⟩) hblv).trans e0; replace e1 := (hbX.cell (p := ⟨bv, ov + 1, none⟩) hblv).trans e1; replace e2 := (hbX.cell (p := ⟨bv, ov + 2, none⟩) hblv).trans e2; replace e3 := (hbX.cell (p := ⟨bv, ov + 3, none⟩) hblv).trans e3; replace e4 := (hbX.cell (p := ⟨bv, ov + 4, none⟩) hblv).trans e4
            clear hX HALL
            by_cases he : Cd.id u = Cd.id c
            · have HE : Hid (Cd.id u = Cd.id c) := he
              have hd3 : (Cd.id u == Cd.id c) = true := by simp [he]
              clear he
              have HALL : Hid (∀ Y, Below X.heap.size X Y → Vec Y w.heap.size 68 5 ad N cap (ccells L) ∧ Below w.heap.size w Y ∧ w.heap.size ≤ Y.heap.size) := fun Y h => ⟨hvX.keep h, hbw.trans (h.mono hzX), Nat.le_trans hzX h.size⟩
              go_wp2_with fail
              go_quiet (fail)
              generalize hY : X.drewN _ = Y
              have hbY : Below X.heap.size X Y := by rw [← hY]; exact below_drewN (Below.refl _ _) _
              obtain ⟨hvY, hbwY, hzY⟩ := HALL.out Y hbY
              replace e0 := (hbY.cell (p := ⟨bv, ov, none⟩) (Nat.lt_of_lt_of_le hblv hbX.size)).trans e0; replace e1 := (hbY.cell (p := ⟨bv, ov + 1, none⟩) (Nat.lt_of_lt_of_le hblv hbX.size)).trans e1; replace e2 := (hbY.cell (p := ⟨bv, ov + 2, none⟩) (Nat.lt_of_lt_of_le hblv hbX.size)).trans e2; replace e3 := (hbY.cell (p := ⟨bv, ov + 3, none⟩) (Nat.lt_of_lt_of_le hblv hbX.size)).trans e3; replace e4 := (hbY.cell (p := ⟨bv, ov + 4, none⟩) (Nat.lt_of_lt_of_le hblv hbX.size)).trans e4
              clear hY HALL hvX hbw hzX
              go_wp2_with (at_builtin; refine wpList_push (by rfl) _ _ 25 (by rfl) w.heap.size 68 5 48 (.agg #[.int .i64 0, .int .i64 0, .int .i64 0, .bool false, .string ⟨#[]⟩]) Try.underlying25 (by kernel_rfl) rfl (by decide) ad N cap _ (by rfl) (hvY.keep ((Below.refl _ _).alloc (Nat.le_refl _) _)) _ _ c.cells (by rfl) rfl ?_ ?_ ?_ ?_ ?_ ?_; exact new_cells _ _ _; exact ones2 _; (omega); (omega); (simp; omega); intro ad' cap' w' hv' hb' hs')
              go_roundw
              case rel => exact ⟨i + 1, k + 1, ad', cap', N + 1, L ++ [c], by omega, by omega, by go_num, by go_num, rfl, by rw [List.length_append, ← HNN.out]; rfl, by omega, by rw [HT.out, ← HS.out, HD.out, put_app Cd.id _ HLOW.out, put_eq Cd.id _ HE.out]; simp, HCS.out, by rw [ccells_app]; simpa [ccells] using hv', (hbwY.alloc hzY _).trans hb'⟩
              case measure => simp [intOf]; omega
            · have HE : Hid (Cd.id c < Cd.id u) := by have := HQ.out; show _ < _; omega
              have hd3 : (Cd.id u == Cd.id c) = false := by rw [beq_eq_false_iff_ne]; exact he
              clear he
              have HALL : Hid (∀ Y, Below X.heap.size X Y → Vec Y w.heap.size 68 5 ad N cap (ccells L) ∧ Below w.heap.size w Y ∧ w.heap.size ≤ Y.heap.size) := fun Y h => ⟨hvX.keep h, hbw.trans (h.mono hzX), Nat.le_trans hzX h.size⟩
              go_wp2_with fail
              go_quiet (fail)
              generalize hY : X.drewN _ = Y
              have hbY : Below X.heap.size X Y := by rw [← hY]; exact below_drewN (Below.refl _ _) _
              obtain ⟨hvY, hbwY, hzY⟩ := HALL.out Y hbY
              replace e0 := (hbY.cell (p := ⟨bv, ov, none⟩) (Nat.lt_of_lt_of_le hblv hbX.size)).trans e0; replace e1 := (hbY.cell (p := ⟨bv, ov + 1, none⟩) (Nat.lt_of_lt_of_le hblv hbX.size)).trans e1; replace e2 := (hbY.cell (p := ⟨bv, ov + 2, none⟩) (Nat.lt_of_lt_of_le hblv hbX.size)).trans e2; replace e3 := (hbY.cell (p := ⟨bv, ov + 3, none⟩) (Nat.lt_of_lt_of_le hblv hbX.size)).trans e3; replace e4 := (hbY.cell (p := ⟨bv, ov + 4, none⟩) (Nat.lt_of_lt_of_le hblv hbX.size)).trans e4
              clear hY HALL hvX hbw hzX
              go_wp2_with (at_builtin; refine wpList_push (by rfl) _ _ 25 (by rfl) w.heap.size 68 5 48 (.agg #[.int .i64 0, .int .i64 0, .int .i64 0, .bool false, .string ⟨#[]⟩]) Try.underlying25 (by kernel_rfl) rfl (by decide) ad N cap _ (by rfl) (hvY.keep ((Below.refl _ _).alloc (Nat.le_refl _) _)) _ _ c.cells (by rfl) rfl ?_ ?_ ?_ ?_ ?_ ?_; exact new_cells _ _ _; exact ones2 _; (omega); (omega); (simp; omega); intro ad' cap' w' hv' hb' hs')
              go_roundw
              case rel => exact ⟨i + 1, k, ad', cap', N + 1, L ++ [c], by omega, by omega, by go_num, by go_num, rfl, by rw [List.length_append, ← HNN.out]; rfl, by omega, by rw [HT.out, ← HS.out, put_app Cd.id _ HLOW.out, HD.out, put_lt Cd.id _ HE.out]; simp, HCS.out, by rw [ccells_app]; simpa [ccells] using hv', (hbwY.alloc hzY _).trans hb'⟩
              case measure => simp [intOf]; omega
        · have hkn : k = n := by omega
          have HD : Hid (U.drop k = []) := by show _ = _; rw [hkn, HN.out]; exact List.drop_length
          have hd0 : ¬ (k : Int) < (n : Int) := by omega
          have hd1 : decide ((k : Int) < (n : Int)) = false := decide_eq_false hd0
          clear hkn
          have HCS : Hid ((∀ x ∈ L ++ [V.getD i cd0], ∀ j, i + 1 ≤ j → j < V.length → Cd.id x < Cd.id (V.getD j cd0))) := fun x hx j h1 h2 => by
              have hc := HUP.out j (by omega) h2
              rcases List.mem_append.1 hx with h | h
              · have := HLOW.out x h; omega
              · simp at h; subst h; exact hc
          generalize hcg : V.getD i cd0 = c at *
          clear hcg hv hb
          go_wp2_with fail
          go_quiet (fail)
          generalize hX : wr.drewN _ = X
          have hbX : Below wr.heap.size wr X := by rw [← hX]; exact below_drewN (Below.refl _ _) _
          obtain ⟨hvX, hbw, hzX⟩ := HALL.out X hbX
          replace e0 := (hbX.cell (p := ⟨bv, ov, none⟩) hblv).trans e0; replace e1 := (hbX.cell (p := ⟨bv, ov + 1, none⟩) hblv).trans e1; replace e2 := (hbX.cell (p := ⟨bv, ov + 2, none⟩) hblv).trans e2; replace e3 := (hbX.cell (p := ⟨bv, ov + 3, none⟩) hblv).trans e3; replace e4 := (hbX.cell (p := ⟨bv, ov + 4, none⟩) hblv).trans e4
          clear hX HALL
          have HALL : Hid (∀ Y, Below X.heap.size X Y → Vec Y w.heap.size 68 5 ad N cap (ccells L) ∧ Below w.heap.size w Y ∧ w.heap.size ≤ Y.heap.size) := fun Y h => ⟨hvX.keep h, hbw.trans (h.mono hzX), Nat.le_trans hzX h.size⟩
          go_wp2_with fail
          go_quiet (fail)
          generalize hY : X.drewN _ = Y
          have hbY : Below X.heap.size X Y := by rw [← hY]; exact below_drewN (Below.refl _ _) _
          obtain ⟨hvY, hbwY, hzY⟩ := HALL.out Y hbY
          replace e0 := (hbY.cell (p := ⟨bv, ov, none⟩) (Nat.lt_of_lt_of_le hblv hbX.size)).trans e0; replace e1 := (hbY.cell (p := ⟨bv, ov + 1, none⟩) (Nat.lt_of_lt_of_le hblv hbX.size)).trans e1; replace e2 := (hbY.cell (p := ⟨bv, ov + 2, none⟩) (Nat.lt_of_lt_of_le hblv hbX.size)).trans e2; replace e3 := (hbY.cell (p := ⟨bv, ov + 3, none⟩) (Nat.lt_of_lt_of_le hblv hbX.size)).trans e3; replace e4 := (hbY.cell (p := ⟨bv, ov + 4, none⟩) (Nat.lt_of_lt_of_le hblv hbX.size)).trans e4
          clear hY HALL hvX hbw hzX
          go_wp2_with (at_builtin; refine wpList_push (by rfl) _ _ 25 (by rfl) w.heap.size 68 5 48 (.agg #[.int .i64 0, .int .i64 0, .int .i64 0, .bool false, .string ⟨#[]⟩]) Try.underlying25 (by kernel_rfl) rfl (by decide) ad N cap _ (by rfl) (hvY.keep ((Below.refl _ _).alloc (Nat.le_refl _) _)) _ _ c.cells (by rfl) rfl ?_ ?_ ?_ ?_ ?_ ?_; exact new_cells _ _ _; exact ones2 _; (omega); (omega); (simp; omega); intro ad' cap' w' hv' hb' hs')
          go_roundw
          case rel => exact ⟨i + 1, k, ad', cap', N + 1, L ++ [c], by omega, by omega, by go_num, by go_num, rfl, by rw [List.length_append, ← HNN.out]; rfl, by omega, by rw [HT.out, ← HS.out, put_app Cd.id _ HLOW.out, HD.out]; simp [putK], HCS.out, by rw [ccells_app]; simpa [ccells] using hv', (hbwY.alloc hzY _).trans hb'⟩
          case measure => simp [intOf]; omega
    · obtain rfl : m = i := by omega
      have HE : Hid (L ++ U.drop k = layK Cd.id (fun _ c => c) U V) := by
        show _ = _; rw [HS.out, HM.out, List.take_length]
      have HLU : Hid (Lies wr a n 5 (fun i => (U.getD i cd0).cells)) := HU.out.below hb
      have hz := hb.size
      have u1 : (0 : Int) ≤ (k : Int) := by omega
      have u2 : (k : Int) ≤ (ca : Int) := by omega
      clear HS HLOW
      go_wp2_with (first
        | (refine wpList_tailm (by rfl) 25 _ _ (by rfl) (by kernel_rfl) 5 (by kernel_rfl) a n ca k _ (by rfl) (by rfl) (by omega) (by omega) _ HLU.out hca ?_; intro A9 HL9)
        | (at_builtin; refine wpList_pushAll (by rfl) _ _ 25 (by rfl) w.heap.size 68 5 48 (.agg #[.int .i64 0, .int .i64 0, .int .i64 0, .bool false, .string ⟨#[]⟩]) Try.underlying25 (by kernel_rfl) rfl (by decide) ad N cap _ (by rfl) hv A9 (n - k) (ca - k) (fun j => (U.getD (k + j) cd0).cells) (by rfl) HL9 (fun _ _ => rfl) (fun j _ => ones2 _) ?_ ?_ ?_ (N + (n - k)) ?_ ?_; (omega); (omega); (exact hz); (omega); intro ad5 cap5 w5 hv5 hb5 hs5))
      go_ret
      refine ⟨ad5, cap5, _, rfl, ?_, ?_, hb.trans hb5⟩
      · rw [← HE.out, List.length_append, List.length_drop, ← HNN.out, ← HN.out]
      · rw [← HE.out, ccells_app]
        have e : ((List.range (n - k)).map fun j => (U.getD (k + j) cd0).cells).flatten = ccells (U.drop k) := by
          rw [HN.out]; exact range_cs U k
        rw [e] at hv5; exact hv5
end Go.Proofs.Ytdjpkgaicmklmab

/- The reference's joined: walked. -/
namespace Go.Proofs.Ytdjpkgaicmklmab
open Go.RowKit

theorem both_snoc (a b : List Ed) (e : Ed) : bothE a (b ++ [e]) = if e ∈ bothE a b then bothE a b else bothE a b ++ [e] := by
  unfold bothE; rw [List.foldl_append]; rfl
theorem range_ecells (E : List Ed) : ((List.range E.length).map fun i => (E.getD i ed0).cells).flatten = ecells E := by
  unfold ecells
  congr 1
  apply List.ext_getElem?
  intro i
  by_cases hi : i < E.length
  · simp [hi]
  · simp [hi]
theorem take_edit (E : List Ed) (i : Nat) (h : i < E.length) : E.take (i + 1) = E.take i ++ [E.getD i ed0] := by
  rw [List.take_succ_eq_append_getElem h, List.getD_eq_getElem?_getD, List.getElem?_eq_getElem h]; rfl
theorem ones_ed (x : Ed) : ∀ u, u ∈ x.cells → u.oneCell' = true := ones3 x

end Go.Proofs.Ytdjpkgaicmklmab

/- hasEdit, mergedEdits, sameCard, Clashing of the program: walked. -/
namespace Go.Proofs.Ytdjpkgaicmklmab
open Go.RowKit

abbrev edV (x : Ed) : Value := .agg #[.int .i64 x.id, .string x.text]

set_option maxRecDepth 100000 in
set_option maxHeartbeats 4000000 in
theorem hasEdit_any (L : List Ed) (x : Ed) (a : Option Addr) (n ca : Nat) (w : World) (hL : Lies w a n 2 (fun i => (L.getD i ed0).cells)) (hn : n = L.length) (hn2 : n ≤ 1099511627776) :
    Calls Try.prog 85 #[.slice a n ca, edV x] w fun e w' => e = .returned (.bool (decide (x ∈ L))) ∧ Below w.heap.size w w' := by
  obtain ⟨hX, hsz, hbb⟩ := one_box w 61 x.cells.toArray
  have HN : Hid (n = L.length) := hn
  have HL : Hid (Lies w a n 2 (fun i => (L.getD i ed0).cells)) := hL
  have HX0 : Hid (Bx (w.alloc (.cells x.cells.toArray 61)) w.heap.size 61 x.cells) := hX
  have HB0 : Hid (Below w.heap.size w (w.alloc (.cells x.cells.toArray 61))) := hbb
  clear hn hL hX hsz hbb
  go_enter Try.func85, Try.ntmps85
  go_wp2_with fail
  go_loopw [5] (fun u wr => ∃ k : Nat, k ≤ n ∧ u = .int .i64 k ∧ ¬ x ∈ L.take k ∧ Bx wr w.heap.size 61 x.cells ∧ Below w.heap.size w wr) (fun u _ => n - (intOf u).toNat)
  case atStart => exact ⟨0, Nat.zero_le _, rfl, by simp, HX0.out, HB0.out⟩
  case round =>
    clear HX0 HB0
    obtain ⟨k, hk, rfl, hno, hx, hb⟩ := hrel
    have HNO : Hid (¬ x ∈ L.take k) := hno
    clear hno
    have x0 := hx.cell 0; have x1 := hx.cell 1
    dsimp only [List.getElem?_cons_zero, List.getElem?_cons_succ] at x0 x1
    by_cases hlt : k < n
    · have hkl : k < L.length := by rw [← HN.out]; exact hlt
      have HTK : Hid (L.take (k + 1) = L.take k ++ [L.getD k ed0]) := take_edit L k hkl
      have HMM : Hid (L.getD k ed0 ∈ L) := getD_mem hkl
      obtain ⟨bo, oo, hblo, hixo, g0, g1⟩ := Lies.edit (c := fun i => L.getD i ed0) (HL.out.below hb) ca hlt
      have HBX : Hid (∀ q, Bx (wr.drewN q) w.heap.size 61 x.cells ∧ Below w.heap.size w (wr.drewN q)) := fun q => ⟨hx.drewN q, below_drewN hb q⟩
      clear hkl hx hb
      generalize L.getD k ed0 = le at *
      by_cases heq : le = x
      · have HD : Hid (decide (x ∈ L) = true) := by rw [heq] at HMM; show _ = _; rw [decide_eq_true_iff]; exact HMM.out
        rw [heq] at g0 g1
        clear heq
        go_wp2_with fail
        go_quiet (fail)
        go_wp2_with fail
        go_ret
        exact ⟨by rw [HD.out]; rfl, (HBX.out _).2⟩
      · have HD : Hid (¬ x ∈ L.take (k + 1)) := by
          show ¬ _; rw [HTK.out]
          simp only [List.mem_append, List.mem_singleton]
          rintro (h | h)
          · exact HNO.out h
          · exact heq h.symm
        have hne := ed_ne heq
        clear heq
        rcases hne with hne | ⟨r1, hne⟩
        · have hq : (le.id == x.id) = false := by rw [beq_eq_false_iff_ne]; exact hne
          clear hne
          go_wp2_with fail
          go_quiet (fail)
          go_wp2_with fail
          go_roundw
          case rel => exact ⟨k + 1, by omega, by go_num, HD.out, (HBX.out _).1, (HBX.out _).2⟩
          case measure => simp [intOf]; omega
        · rw [r1] at g0
          have hnb := ba_beq hne
          have hnl := bl_beq hne
          clear hne r1
          go_wp2_with fail
          go_quiet (fail)
          go_wp2_with fail
          go_roundw
          case rel => exact ⟨k + 1, by omega, by go_num, HD.out, (HBX.out _).1, (HBX.out _).2⟩
          case measure => simp [intOf]; omega
    · obtain rfl : n = k := by omega
      have HD : Hid (decide (x ∈ L) = false) := by
        have h := HNO.out
        rw [HN.out, List.take_length] at h
        show _ = _; rw [decide_eq_false_iff_not]; exact h
      go_wp2_with fail
      go_ret
      exact ⟨by rw [HD.out]; rfl, hb⟩

set_option maxRecDepth 100000 in
set_option maxHeartbeats 4000000 in
theorem mergedEdits_any (EA EB : List Ed) (a b : Option Addr) (n m ca cb : Nat) (w : World) (hA : Lies w a n 2 (fun i => (EA.getD i ed0).cells)) (hB : Lies w b m 2 (fun i => (EB.getD i ed0).cells)) (hn : n = EA.length) (hm : m = EB.length) (hn2 : n ≤ 274877906944) (hm2 : m ≤ 274877906944) :
    Calls Try.prog 66 #[.slice a n ca, .slice b m cb] w fun e w' => ∃ ad cap N, e = .returned (.slice ad N cap) ∧ N = (bothE EA EB).length ∧ Vec w' w.heap.size 61 2 ad N cap (ecells (bothE EA EB)) ∧ Below w.heap.size w w' := by
  have hV0 : Hid (Vec (w.alloc (.cells #[] 61)) w.heap.size 61 2 (some ⟨w.heap.size, 0, none⟩) 0 0 []) := Vec.lit w w.heap.size 61 2 0 [] (Nat.le_refl _) (by omega) rfl
  have HN : Hid (n = EA.length) := hn
  have HM : Hid (m = EB.length) := hm
  have HA : Hid (Lies w a n 2 (fun i => (EA.getD i ed0).cells)) := hA
  have HB : Hid (Lies w b m 2 (fun i => (EB.getD i ed0).cells)) := hB
  have HA2 : Hid (Lies (w.alloc (.cells #[] 61)) a n 2 (fun i => (EA.getD i ed0).cells)) := hA.below ((Below.refl _ _).alloc (Nat.le_refl _) _)
  have HSZ : Hid (w.heap.size ≤ (w.alloc (.cells #[] 61)).heap.size) := by show _ ≤ _; simp
  clear hn hm hA hB
  go_enter Try.func66, Try.ntmps66
  go_wp2_with (at_builtin; refine wpList_pushAll (by rfl) _ _ 26 (by rfl) w.heap.size 61 2 24 (.agg #[.int .i64 0, .string ⟨#[]⟩]) Try.underlying26 (by kernel_rfl) rfl (by decide) _ 0 0 [] (by rfl) hV0.out a n ca (fun i => (EA.getD i ed0).cells) (by rfl) HA2.out (fun _ _ => rfl) (fun j _ => ones_ed _) ?_ ?_ ?_ n ?_ ?_; (omega); (omega); (exact HSZ.out); (omega); intro ad1 cap1 w1 hv1 hb1 hs1)
  rw [List.nil_append, HN.out, range_ecells, ← HN.out] at hv1
  have HV1 : Hid (Vec w1 w.heap.size 61 2 ad1 n cap1 (ecells EA)) := hv1
  have HB1 : Hid (Below w.heap.size w w1) := ((Below.refl _ w).alloc (Nat.le_refl _) _).trans hb1
  clear hv1 hb1 hs1 hV0
  go_loopw [5, 6] (fun v u wr => ∃ (i : Nat) (ad : Option Addr) (cap N : Nat), i ≤ m ∧ u = .int .i64 i ∧ v = .slice ad N cap ∧ N = (bothE EA (EB.take i)).length ∧ N ≤ n + i ∧ Vec wr w.heap.size 61 2 ad N cap (ecells (bothE EA (EB.take i))) ∧ Below w.heap.size w wr) (fun _ u _ => m - (intOf u).toNat)
  case atStart => exact ⟨0, ad1, cap1, n, by omega, rfl, rfl, by simpa [bothE] using HN.out, by omega, by simpa [bothE] using HV1.out, HB1.out⟩
  case round =>
    clear HV1 HB1
    obtain ⟨i, ad, cap, N, hi, rfl, rfl, hN, hN2, hv, hbw⟩ := hrel
    have HNN : Hid (N = (bothE EA (EB.take i)).length) := hN
    clear hN
    by_cases hlt : i < m
    · have hil : i < EB.length := by rw [← HM.out]; exact hlt
      have HT : Hid (bothE EA (EB.take (i + 1)) = if EB.getD i ed0 ∈ bothE EA (EB.take i) then bothE EA (EB.take i) else bothE EA (EB.take i) ++ [EB.getD i ed0]) := by
        show _ = _; rw [take_edit EB i hil, both_snoc]
      obtain ⟨bb, ob, hblb, hixb, e0, e1⟩ := Lies.edit (c := fun i => EB.getD i ed0) (HB.out.below hbw) cb hlt
      generalize hL : bothE EA (EB.take i) = L at *
      have HL : Hid (Lies wr ad N 2 (fun k => (L.getD k ed0).cells)) := evec_lies hv HNN.out.symm
      generalize EB.getD i ed0 = ee at *
      clear hL hil
      go_wp2_with fail
      refine (hasEdit_any L ee ad N cap _ HL.out HNN.out (by omega)).mono ?_
      rintro e w1 ⟨rfl, hb1⟩
      have hv1 := hv.keep hb1
      have hbw1 := hbw.trans (hb1.mono hbw.size)
      have hz1 := hbw1.size
      replace e0 := (hb1.cell (p := ⟨bb, ob, none⟩) hblb).trans e0
      replace e1 := (hb1.cell (p := ⟨bb, ob + 1, none⟩) hblb).trans e1
      clear hv hbw hb1
      by_cases hth : ee ∈ L
      · rw [if_pos hth] at HT
        have hd : decide (ee ∈ L) = true := by simp [hth]
        rw [hd]
        clear hth hd
        go_wp2_with fail
        go_roundw
        case rel => exact ⟨i + 1, ad, cap, N, by omega, by go_num, rfl, by rw [HT.out]; exact HNN.out, by omega, by rw [HT.out]; exact hv1, hbw1⟩
        case measure => simp [intOf]; omega
      · rw [if_neg hth] at HT
        have hd : decide (ee ∈ L) = false := by simp [hth]
        rw [hd]
        clear hth hd
        go_wp2_with (at_builtin; refine wpList_push (by rfl) _ _ 26 (by rfl) w.heap.size 61 2 24 (.agg #[.int .i64 0, .string ⟨#[]⟩]) Try.underlying26 (by kernel_rfl) rfl (by decide) ad N cap _ (by rfl) (hv1.keep ((Below.refl _ _).alloc (Nat.le_refl _) _)) _ _ ee.cells (by rfl) rfl ?_ ?_ ?_ ?_ ?_ ?_; exact new_cells _ _ _; exact ones3 _; (omega); (omega); (simp; omega); intro ad' cap' w' hv' hb' hs')
        go_roundw
        case rel => exact ⟨i + 1, ad', cap', N + 1, by omega, by go_num, rfl, by rw [HT.out, List.length_append, ← HNN.out]; rfl, by omega, by rw [HT.out, ecells_app]; simpa [ecells] using hv', (hbw1.alloc hz1 _).trans hb'⟩
        case measure => simp [intOf]; omega
    · obtain rfl : m = i := by omega
      have HE : Hid (bothE EA (EB.take m) = bothE EA EB) := by show _ = _; rw [HM.out, List.take_length]
      go_wp2_with fail
      go_ret
      exact ⟨ad, cap, N, rfl, by rw [← HE.out]; exact HNN.out, by rw [← HE.out]; exact hv, hbw⟩

set_option maxRecDepth 100000 in
set_option maxHeartbeats 4000000 in
theorem sameCard_any (x y : Cd) (w : World) :
    Calls Try.prog 63 #[cdV x, cdV y] w fun e w' => e = .returned (.bool (decide (x = y))) ∧ Below w.heap.size w w' := by
  obtain ⟨hA, hB, hs, hb⟩ := two_boxes w 68 68 x.cells.toArray y.cells.toArray
  have a0 := hA.cell 0; have a1 := hA.cell 1; have a2 := hA.cell 2; have a3 := hA.cell 3; have a4 := hA.cell 4
  have b0 := hB.cell 0; have b1 := hB.cell 1; have b2 := hB.cell 2; have b3 := hB.cell 3; have b4 := hB.cell 4
  dsimp only [List.getElem?_cons_zero, List.getElem?_cons_succ] at a0 a1 a2 a3 a4 b0 b1 b2 b3 b4
  have HBL : Hid (Below w.heap.size w ((w.alloc (.cells x.cells.toArray 68)).alloc (.cells y.cells.toArray 68))) := hb
  have HST : Hid (stampB x y = (x.site == y.site && x.count == y.count)) := rfl
  have HA : Hid (∀ w', Below ((w.alloc (.cells x.cells.toArray 68)).alloc (.cells y.cells.toArray 68)).heap.size ((w.alloc (.cells x.cells.toArray 68)).alloc (.cells y.cells.toArray 68)) w' → (w'.cell? ⟨w.heap.size, 3, none⟩ = some (.bool x.gone) ∧ w'.cell? ⟨w.heap.size, 4, none⟩ = some (.string x.text)) ∧ (w'.cell? ⟨w.heap.size + 1, 3, none⟩ = some (.bool y.gone) ∧ w'.cell? ⟨w.heap.size + 1, 4, none⟩ = some (.string y.text)) ∧ Below w.heap.size w w') := fun w' h =>
    ⟨⟨(hA.below h hA.lt).cell 3, (hA.below h hA.lt).cell 4⟩, ⟨(hB.below h hB.lt).cell 3, (hB.below h hB.lt).cell 4⟩, hb.trans (h.mono hb.size)⟩
  clear hA hB hs hb
  by_cases he : x = y
  · subst he
    have HS2 : Hid (stampB x x = true) := by show _ = _; rw [HST.out]; simp
    clear HST
    go_enter Try.func63, Try.ntmps63
    go_wp2_with fail
    refine (sameStamp_any x x _).mono ?_
    rintro e w1 ⟨rfl, hb1⟩
    rw [HS2.out]
    obtain ⟨⟨p3, p4⟩, ⟨q3, q4⟩, hbw⟩ := HA.out w1 hb1
    clear hb1
    go_wp2_with fail
    go_ret
    exact ⟨by simp, hbw⟩
  · have HD : Hid (decide (x = y) = false) := by show _ = _; simp [he]
    have hne := cd_ne he
    clear he
    rcases hne with hne | ⟨r1, hne⟩ | ⟨r1, r2, hne⟩ | ⟨r1, r2, r3, hne⟩ | ⟨r1, r2, r3, r4, hne⟩
    · have qi : (x.id == y.id) = false := by rw [beq_eq_false_iff_ne]; exact hne
      clear hne HST
      go_enter Try.func63, Try.ntmps63
      go_wp2_with fail
      go_ret
      exact ⟨by rw [HD.out]; rfl, HBL.out⟩
    · have qi : (x.id == y.id) = true := by simp [r1]
      have HS2 : Hid (stampB x y = false) := by show _ = _; rw [HST.out]; simp [hne]
      clear hne HST r1
      go_enter Try.func63, Try.ntmps63
      go_wp2_with fail
      refine (sameStamp_any x y _).mono ?_
      rintro e w1 ⟨rfl, hb1⟩
      rw [HS2.out]
      obtain ⟨⟨p3, p4⟩, ⟨q3, q4⟩, hbw⟩ := HA.out w1 hb1
      clear hb1
      go_wp2_with fail
      go_ret
      exact ⟨by rw [HD.out]; rfl, hbw⟩
    · have qi : (x.id == y.id) = true := by simp [r1]
      have HS2 : Hid (stampB x y = false) := by show _ = _; rw [HST.out]; simp [hne]
      clear hne HST r1 r2
      go_enter Try.func63, Try.ntmps63
      go_wp2_with fail
      refine (sameStamp_any x y _).mono ?_
      rintro e w1 ⟨rfl, hb1⟩
      rw [HS2.out]
      obtain ⟨⟨p3, p4⟩, ⟨q3, q4⟩, hbw⟩ := HA.out w1 hb1
      clear hb1
      go_wp2_with fail
      go_ret
      exact ⟨by rw [HD.out]; rfl, hbw⟩
    · have qi : (x.id == y.id) = true := by simp [r1]
      have qg : (x.gone == y.gone) = false := by rw [beq_eq_false_iff_ne]; exact hne
      have HS2 : Hid (stampB x y = true) := by show _ = _; rw [HST.out]; simp [r2, r3]
      clear hne HST r1 r2 r3
      go_enter Try.func63, Try.ntmps63
      go_wp2_with fail
      refine (sameStamp_any x y _).mono ?_
      rintro e w1 ⟨rfl, hb1⟩
      rw [HS2.out]
      obtain ⟨⟨p3, p4⟩, ⟨q3, q4⟩, hbw⟩ := HA.out w1 hb1
      clear hb1
      go_wp2_with fail
      go_ret
      exact ⟨by rw [HD.out]; rfl, hbw⟩
    · have qi : (x.id == y.id) = true := by simp [r1]
      have qg : (x.gone == y.gone) = true := by simp [r4]
      have hnb := ba_beq hne
      have hnl := bl_beq hne
      have HS2 : Hid (stampB x y = true) := by show _ = _; rw [HST.out]; simp [r2, r3]
      clear hne HST r1 r2 r3 r4
      go_enter Try.func63, Try.ntmps63
      go_wp2_with fail
      refine (sameStamp_any x y _).mono ?_
      rintro e w1 ⟨rfl, hb1⟩
      rw [HS2.out]
      obtain ⟨⟨p3, p4⟩, ⟨q3, q4⟩, hbw⟩ := HA.out w1 hb1
      clear hb1
      go_wp2_with fail
      go_ret
      exact ⟨by rw [HD.out]; rfl, hbw⟩
end Go.Proofs.Ytdjpkgaicmklmab

