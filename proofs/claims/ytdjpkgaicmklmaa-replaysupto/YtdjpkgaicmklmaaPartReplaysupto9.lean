/- Texts of the proof, one behind the other; what each holds is said at its head. -/
import Derived.Test.YtdjpkgaicmklmaaPartReplaysupto8
import Derived.Test.YtdjpkgaicmklmaaPartReplaysupto4
import Derived.Test.YtdjpkgaicmklmaaPartReplaysupto5
import Derived.Test.YtdjpkgaicmklmaaPartReplaysupto0
import Derived.Deep.QuietTactic
import Derived.BigQuiet
import Derived.Test.YtdjpkgaicmklmaaPartReplaysupto6
import Derived.Deep.RegionHeld3
/- Extend: a chain and one link more: without the program. -/
namespace Go.Proofs.Ytdjpkgaicmklmaa
open Go.RowKit

instance decCk : DecidableEq Ck := fun a b => match a, b with
  | ⟨i, s⟩, ⟨j, t⟩ => if h : i = j ∧ s = t then isTrue (by rw [h.1, h.2]) else isFalse (fun e => by injection e with e1 e2; exact h ⟨e1, e2⟩)
instance decCd : DecidableEq Cd := fun a b => match a, b with
  | ⟨i, s, c, g, t⟩, ⟨i', s', c', g', t'⟩ => if h : i = i' ∧ s = s' ∧ c = c' ∧ g = g' ∧ t = t' then isTrue (by rw [h.1, h.2.1, h.2.2.1, h.2.2.2.1, h.2.2.2.2]) else isFalse (fun e => by injection e with e1 e2 e3 e4 e5; exact h ⟨e1, e2, e3, e4, e5⟩)

theorem range_getD {α : Type} (l : List α) (d : α) : (List.range l.length).map (fun i => l.getD i d) = l := by
  apply List.ext_getElem?; intro i
  by_cases hi : i < l.length
  · simp [hi]
  · simp [Nat.le_of_not_lt hi]
theorem asc_of {α : Type} (key : α → Int) (d : α) (l : List α) (h : ∀ i, i + 1 < l.length → key (l.getD i d) < key (l.getD (i + 1) d)) : Asc key l := by
  have all : ∀ (i k : Nat), i + k + 1 < l.length → key (l.getD i d) < key (l.getD (i + k + 1) d) := by
    intro i k
    induction k with
    | zero => exact h i
    | succ k ih => intro hk; have := ih (by omega); have := h (i + k + 1) (by omega); rw [show i + (k + 1) + 1 = i + k + 1 + 1 by omega]; omega
  unfold Asc
  rw [List.pairwise_iff_getElem]
  intro i j hi hj hij
  have := all i (j - i - 1) (by omega)
  rw [show i + (j - i - 1) + 1 = j by omega] at this
  simpa [hi, hj] using this
theorem asc_next {α : Type} (key : α → Int) (d : α) {l : List α} (h : Asc key l) (i : Nat) (hi : i + 1 < l.length) : key (l.getD i d) < key (l.getD (i + 1) d) := by
  unfold Asc at h
  rw [List.pairwise_iff_getElem] at h
  have := h i (i + 1) (by omega) hi (by omega)
  simpa [hi, show i < l.length by omega] using this
theorem Tri.asc {r : Tri} (h : r.rep.chk = 0) : Asc Ck.site r.K ∧ Asc Cd.id r.C := by
  have := Rep.rising h
  exact ⟨asc_of Ck.site ck0 r.K (fun i hi => this.c i hi), asc_of Cd.id cd0 r.C (fun i hi => this.d i hi)⟩

def diffS (o r : Tri) : Tri := ⟨r.K.filter (fun c => decide (look Ck.site o.K c.site ≠ some c)), r.C.filter (fun c => decide (look Cd.id o.C c.id ≠ some c)), r.E⟩
def followK (o r : List Ck) : Bool := o.all fun c => match look Ck.site r c.site with
  | some d => decide (c.count ≤ d.count)
  | none => false
def followC (o r : List Cd) : Bool := o.all fun c => match look Cd.id r c.id with
  | some d => laterB d c || decide (d = c)
  | none => false
def followB (o r : Tri) : Bool := followK o.K r.K && followC o.C r.C
theorem follow_has {o r : Tri} (h : followB o r = true) : (∀ x ∈ o.K, ∃ y ∈ r.K, y.site = x.site) ∧ (∀ x ∈ o.C, ∃ y ∈ r.C, y.id = x.id) := by
  simp only [followB, followK, followC, Bool.and_eq_true, List.all_eq_true] at h
  constructor
  · intro x hx
    have := h.1 x hx
    split at this
    · rename_i d hd; exact ⟨d, (look_mem Ck.site hd).1, (look_mem Ck.site hd).2⟩
    · cases this
  · intro x hx
    have := h.2 x hx
    split at this
    · rename_i d hd; exact ⟨d, (look_mem Cd.id hd).1, (look_mem Cd.id hd).2⟩
    · cases this
/-- What changed, laid over what it follows, is it. -/
theorem lay_diffS {o r : Tri} (ho : Asc Ck.site o.K ∧ Asc Cd.id o.C) (hr : Asc Ck.site r.K ∧ Asc Cd.id r.C) (h : followB o r = true) : layS o (diffS o r) = r := by
  obtain ⟨h1, h2⟩ := follow_has h
  have a := lay_diff Ck.site (fun c => decide (look Ck.site o.K c.site ≠ some c)) ho.1 hr.1 h1 (fun c _ hc => by simpa using hc)
  have b := lay_diff Cd.id (fun c => decide (look Cd.id o.C c.id ≠ some c)) ho.2 hr.2 h2 (fun c _ hc => by simpa using hc)
  unfold layS diffS
  simp only
  rw [a, b]
theorem mem_fit {r : Tri} (h : Fit r.rep) : (∀ x ∈ r.K, Num x.site ∧ Num x.count) ∧ (∀ x ∈ r.C, Num x.id ∧ Num x.site ∧ Num x.count ∧ x.text.size ≤ 60) ∧ (∀ x ∈ r.E, Num x.id ∧ x.text.size ≤ 60) := by
  refine ⟨fun x hx => ?_, fun x hx => ?_, fun x hx => ?_⟩
  · obtain ⟨i, hi, rfl⟩ := List.mem_iff_getElem.mp hx
    have := h.c1 i hi; simpa [Tri.rep, repOf, hi] using this
  · obtain ⟨i, hi, rfl⟩ := List.mem_iff_getElem.mp hx
    have := h.d1 i hi; simpa [Tri.rep, repOf, hi] using this
  · obtain ⟨i, hi, rfl⟩ := List.mem_iff_getElem.mp hx
    have := h.e1 i hi; simpa [Tri.rep, repOf, hi] using this
theorem diff_fit {o r : Tri} (hr : r.rep.chk = 0) : Fit (diffS o r).rep := by
  have hF := Rep.fit hr
  obtain ⟨m1, m2, m3⟩ := mem_fit hF
  have l1 : (diffS o r).K.length ≤ r.K.length := List.length_filter_le ..
  have l2 : (diffS o r).C.length ≤ r.C.length := List.length_filter_le ..
  refine ⟨Nat.le_trans l1 hF.n1, Nat.le_trans l2 hF.n2, hF.n3, fun i hi => ?_, fun i hi => ?_, fun i hi => ?_⟩
  · exact m1 _ (List.mem_filter.mp (getD_mem (d := ck0) hi)).1
  · exact m2 _ (List.mem_filter.mp (getD_mem (d := cd0) hi)).1
  · exact m3 _ (getD_mem (d := ed0) hi)
theorem diff_rising {o r : Tri} (hr : r.rep.chk = 0) : Rising (diffS o r).rep := by
  obtain ⟨a, b⟩ := Tri.asc hr
  have a2 : Asc Ck.site (diffS o r).K := List.Pairwise.filter _ a
  have b2 : Asc Cd.id (diffS o r).C := List.Pairwise.filter _ b
  exact ⟨fun i hi => asc_next Ck.site ck0 a2 i hi, fun i hi => asc_next Cd.id cd0 b2 i hi⟩
theorem sealR_bound (b : List UInt8) : 0 ≤ sealR b ∧ sealR b ≤ 4294967295 := by
  unfold sealR fourRd
  generalize b.drop (b.length - 4) = s
  have h0 := (s.getD 0 0).toNat_lt
  have h1 := (s.getD 1 0).toNat_lt
  have h2 := (s.getD 2 0).toNat_lt
  have h3 := (s.getD 3 0).toNat_lt
  omega

/-- The bundle of the next link. -/
def nextB (n : Nat) (last : List UInt8) (o r : Tri) : List UInt8 := bundleB (recsOf (n : Int) (sealR last) (diffS o r).rep)
theorem next_read {n : Nat} (h0 : 0 < n) (h16 : n ≤ 16) {last : List UInt8} {o r : Tri} (hr : r.rep.chk = 0) : readRd (nextB n last o r) = ⟨n, sealR last, 0, 0, (diffS o r).K, (diffS o r).C, (diffS o r).E⟩ := by
  have hs := sealR_bound last
  unfold nextB
  rw [readRd_bundle (diff_fit hr) (diff_rising hr) ⟨by omega, by omega⟩ hs.1 hs.2 (fun h => by omega)]
  simp only [Tri.rep, repOf]
  rw [range_getD, range_getD, range_getD]
theorem get_snoc {bs : List (List UInt8)} {b : List UInt8} (i : Nat) (hi : i < bs.length) : (bs ++ [b]).getD i [] = bs.getD i [] := by
  rw [List.getD_eq_getElem?_getD, List.getElem?_append_left hi, ← List.getD_eq_getElem?_getD]
theorem get_last {bs : List (List UInt8)} {b : List UInt8} : (bs ++ [b]).getD bs.length [] = b := by simp
/-- A chain of one. -/
theorem links_one {R : Rep} (h : R.chk = 0) : Links [bundleB (recsOf 0 0 R)] ∧ chainSt [bundleB (recsOf 0 0 R)] 0 = ⟨(List.range R.n1).map R.c, (List.range R.n2).map R.d, (List.range R.n3).map R.e⟩ := by
  have e := readRd_bundle (Rep.fit h) (Rep.rising h) (s := 0) (b := 0) ⟨by decide, by decide⟩ (by decide) (by decide) (fun _ => rfl)
  have hL : Links [bundleB (recsOf 0 0 R)] := by
    refine ⟨by simp, by simp, fun i hi => ?_, fun i hi => ?_, fun i hi => ?_⟩
    · have : i = 0 := by simpa using hi
      subst this; show (readRd (bundleB (recsOf 0 0 R))).err = 0; rw [e]
    · have : i = 0 := by simpa using hi
      subst this; show (readRd (bundleB (recsOf 0 0 R))).seq = 0; rw [e]
    · simp at hi
  refine ⟨hL, ?_⟩
  have h1 := hL.link (List.Perm.refl _) 0 (by simp)
  simp only [chainSt]
  rw [show ((0 : Nat) : Int) = 0 from rfl] at h1
  rw [h1]
  show (readRd (bundleB (recsOf 0 0 R))).st = _
  rw [e]; rfl
/-- A chain with the next link is one, and makes what was handed in. -/
theorem links_next {bs : List (List UInt8)} {r : Tri} (h : Links bs) (hn : bs.length < 16) (ho : (chainSt bs (bs.length - 1)).rep.chk = 0) (hr : r.rep.chk = 0) (hf : followB (chainSt bs (bs.length - 1)) r = true) :
    Links (bs ++ [nextB bs.length (bs.getD (bs.length - 1) []) (chainSt bs (bs.length - 1)) r]) ∧
    chainSt (bs ++ [nextB bs.length (bs.getD (bs.length - 1) []) (chainSt bs (bs.length - 1)) r]) bs.length = r := by
  have pos := h.pos
  generalize ho' : chainSt bs (bs.length - 1) = o at *
  have e := next_read (n := bs.length) pos (by omega) (last := bs.getD (bs.length - 1) []) (o := o) hr
  generalize hb : nextB bs.length (bs.getD (bs.length - 1) []) o r = b at *
  have hlen : (bs ++ [b]).length = bs.length + 1 := by simp
  have hL : Links (bs ++ [b]) := by
    refine ⟨by simp, by simp; omega, fun i hi => ?_, fun i hi => ?_, fun i hi => ?_⟩
    · rw [hlen] at hi
      by_cases hi2 : i < bs.length
      · rw [get_snoc i hi2]; exact h.err i hi2
      · rw [show i = bs.length by omega, get_last, e]
    · rw [hlen] at hi
      by_cases hi2 : i < bs.length
      · rw [get_snoc i hi2]; exact h.seq i hi2
      · rw [show i = bs.length by omega, get_last, e]
    · rw [hlen] at hi
      rw [get_snoc i (by omega)]
      by_cases hi2 : i + 1 < bs.length
      · rw [get_snoc (i + 1) hi2]; exact h.base i hi2
      · rw [show i + 1 = bs.length by omega, get_last, e, show i = bs.length - 1 by omega]
  refine ⟨hL, ?_⟩
  have hold : ∀ n, n < bs.length → chainSt (bs ++ [b]) n = chainSt bs n := by
    intro n
    induction n with
    | zero =>
      intro hn'
      have h1 := hL.link (List.Perm.refl _) 0 (by simp)
      have h2 := h.link (List.Perm.refl _) 0 hn'
      rw [get_snoc 0 hn'] at h1
      rw [show ((0 : Nat) : Int) = 0 from rfl] at h1 h2
      simp only [chainSt]; rw [h1, h2]
    | succ n ih =>
      intro hn'
      have h1 := hL.link (List.Perm.refl _) (n + 1) (by simp; omega)
      have h2 := h.link (List.Perm.refl _) (n + 1) hn'
      rw [get_snoc (n + 1) hn'] at h1
      simp only [chainSt]; rw [ih (by omega), h1, h2]
  obtain ⟨k, hk⟩ : ∃ k, bs.length = k + 1 := ⟨bs.length - 1, by omega⟩
  have h1 := hL.link (List.Perm.refl _) bs.length (by simp)
  rw [get_last] at h1
  have h3 : chainSt (bs ++ [b]) bs.length = layS (chainSt (bs ++ [b]) k) (readRd (linkR (bs ++ [b]) (bs.length : Nat))).st := by rw [hk]; rfl
  rw [h3, h1, hold k (by omega), show k = bs.length - 1 by omega, ho', e]
  exact lay_diffS (Tri.asc ho) (Tri.asc hr) hf

/-- What Extend answers. -/
structure Xt where
  b : List UInt8
  err : Int
  place : Int
def extendRd (l : List (List UInt8)) (r : Tri) : Xt :=
  if (replayRd l).err = 0 then
    if 16 ≤ l.length then ⟨[], 1, 0⟩
    else if r.rep.chk = 0 then
      if followB (replayRd l).st r = true then ⟨nextB l.length (linkR l ((l.length - 1 : Nat) : Int)) (replayRd l).st r, 0, 0⟩ else ⟨[], 18, 0⟩
    else ⟨[], r.rep.chk, 0⟩
  else ⟨[], (replayRd l).err, (replayRd l).place⟩
theorem extend_links {bs l : List (List UInt8)} {r : Tri} (h : Links bs) (hp : l.Perm bs) (hn : bs.length < 16) (ho : (chainSt bs (bs.length - 1)).rep.chk = 0) (hr : r.rep.chk = 0) (hf : followB (chainSt bs (bs.length - 1)) r = true) :
    extendRd l r = ⟨nextB bs.length (bs.getD (bs.length - 1) []) (chainSt bs (bs.length - 1)) r, 0, 0⟩ := by
  have pos := h.pos
  have e := replay_links h hp ho
  have e1 : (replayRd l).err = 0 := by rw [e]
  have e2 : (replayRd l).st = chainSt bs (bs.length - 1) := by rw [e]; rfl
  unfold extendRd
  rw [if_pos e1, e2, hp.length_eq, if_neg (by omega), if_pos hr, if_pos hf, h.link hp _ (by omega)]
end Go.Proofs.Ytdjpkgaicmklmaa

/- Replicas that have seen some first writes: merged, and one that has seen more follows: without the program. -/
namespace Go.Proofs.Ytdjpkgaicmklmaa
open Go.RowKit

def triS (S : Seen) (i : Nat) (E : List Ed) : Tri := ⟨clocksTo (runS S i).1 8, (runS S i).2, E⟩
def EdOk (E : List Ed) : Prop := ∀ x ∈ E, (1 ≤ x.id ∧ x.id ≤ 4611686018427387904) ∧ x.text.size ≤ 60
theorem triS_chk (S : Seen) (i : Nat) (hi : i ≤ 40) (E : List Ed) (h : E.length ≤ 16) (h2 : EdOk E) : (triS S i E).rep.chk = 0 := state_chk S i hi E h h2

def clashB2 (a b : List Cd) : Bool := a.any fun x => b.any fun y => decide (x.site = y.site ∧ x.count = y.count ∧ x ≠ y)
def mergeRd (a b : Tri) : Ans :=
  if a.rep.chk = 0 then
    if b.rep.chk = 0 then
      if clashB2 a.C b.C = true then ansErr 6 0
      else if 8 < (mergeK a.K b.K).length ∨ 40 < (mergeC a.C b.C).length ∨ 16 < (bothE a.E b.E).length then ansErr 1 0
      else ⟨0, 0, 0, 0, mergeK a.K b.K, mergeC a.C b.C, bothE a.E b.E⟩
    else ansErr b.rep.chk 0
  else ansErr a.rep.chk 0
theorem merge_states {S T M : Seen} (h : Most S T M) (i : Nat) (hi : i ≤ 40) (D E : List Ed) (hD : D.length ≤ 16) (hE : E.length ≤ 16) (hD2 : EdOk D) (hE2 : EdOk E) (hb : (bothE D E).length ≤ 16) :
    mergeRd (triS S i D) (triS T i E) = ⟨0, 0, 0, 0, (triS M i (bothE D E)).K, (triS M i (bothE D E)).C, bothE D E⟩ := by
  have c1 := triS_chk S i hi D hD hD2
  have c2 := triS_chk T i hi E hE hE2
  have hc : mergeC (triS S i D).C (triS T i E).C = (runS M i).2 := most_cards h i
  have hk : mergeK (triS S i D).K (triS T i E).K = clocksTo (runS M i).1 8 := merge_clocks _ _ _ (fun k hk => most_counts h i k hk)
  have hcl : clashB2 (triS S i D).C (triS T i E).C = false := by
    simp only [clashB2, List.any_eq_false, decide_eq_true_eq, Bool.not_eq_true]
    intro x hx y hy e
    have hy := run_isW T h.p2 i y hy
    rw [h.w2] at hy
    exact e.2.2 (isW_sole S.w x y (run_isW S h.p1 i x hx) hy e.1 e.2.1)
  have l1 := clocksTo_length (runS M i).1 8
  have l2 := runS_cards M i
  unfold mergeRd
  rw [if_pos c1, if_pos c2, if_neg (by rw [hcl]; decide), hc, hk, if_neg]
  · rfl
  · show ¬ (_ ∨ _ ∨ 16 < (bothE D E).length); omega

/-- One sees all that another sees. -/
structure Less (S T : Seen) : Prop where
  w : T.w = S.w
  lim : ∀ k, k < 8 → limS S k ≤ limS T k
  p1 : ∀ k, 0 ≤ limS S k
  p2 : ∀ k, 0 ≤ limS T k
theorem Less.most {S T : Seen} (h : Less S T) : Most S T T := ⟨h.w, h.w, fun k hk => by have := h.lim k hk; omega, h.p1, h.p2, h.p2⟩
theorem less_follows {S T : Seen} (h : Less S T) (i : Nat) (D E : List Ed) : followB (triS S i D) (triS T i E) = true := by
  simp only [followB, followK, followC, Bool.and_eq_true, List.all_eq_true]
  constructor
  · intro x hx
    obtain ⟨k, hk, rfl, h0⟩ := clocks_mem hx
    have hm := most_counts h.most i k hk
    have : look Ck.site (triS T i E).K (siteL.getD k 0) = some ⟨siteL.getD k 0, (runS T i).1.getD k 0⟩ := by
      show look Ck.site (clocksTo (runS T i).1 8) _ = _
      rw [clocks_look _ k (by omega) hk, if_pos (by omega)]
    rw [show (⟨siteL.getD k 0, (runS S i).1.getD k 0⟩ : Ck).site = siteL.getD k 0 from rfl, this]
    simp only [decide_eq_true_eq]; omega
  · intro x hx
    have hl := most_look h.most x.id i
    rw [look_some Cd.id (run_asc S i) hx] at hl
    show (match look Cd.id (runS T i).2 x.id with | some d => laterB d x || decide (d = x) | none => false) = true
    cases hd : look Cd.id (runS T i).2 x.id with
    | none => rw [hd] at hl; cases hl
    | some d =>
      rw [hd] at hl
      simp only [over, Option.some.injEq] at hl
      simp only [Bool.or_eq_true, decide_eq_true_eq]
      unfold keepC at hl
      cases hlt : laterB d x with
      | true => exact Or.inl rfl
      | false => rw [hlt] at hl; exact Or.inr hl
/-- One that has seen nothing follows just nothing. -/
theorem nothing_follows {S Z : Seen} (i : Nat) (hz : ∀ k, k < 8 → limS Z k = 0) (p : ∀ k, 0 ≤ limS Z k) (D E : List Ed) : followB (triS S i D) (triS Z i E) = decide ((triS S i D).K.length = 0) := by
  have hZK : clocksTo (runS Z i).1 8 = [] := by
    cases hh : clocksTo (runS Z i).1 8 with
    | nil => rfl
    | cons x l =>
      obtain ⟨k, hk, _, h0⟩ := clocks_mem (show x ∈ clocksTo (runS Z i).1 8 by rw [hh]; simp)
      rw [counts_min Z p k hk, hz k hk] at h0; omega
  by_cases h0 : (triS S i D).K.length = 0
  · rw [decide_eq_true h0]
    have hK : clocksTo (runS S i).1 8 = [] := List.length_eq_zero_iff.mp h0
    have hC : (runS S i).2 = [] := by
      cases hh : (runS S i).2 with
      | nil => rfl
      | cons x l =>
        have hg := (runS_good S i).1 x (by rw [hh]; simp)
        obtain ⟨k, hk, _, h1, h2⟩ := hg.site
        have := clocks_look (runS S i).1 k (n := 8) (by omega) hk
        rw [hK, if_pos (by omega)] at this; cases this
    simp [followB, followK, followC, triS, hK, hC]
  · rw [decide_eq_false h0]
    cases hh : clocksTo (runS S i).1 8 with
    | nil => exact absurd (by simp [triS, hh]) h0
    | cons x l => simp [followB, followK, triS, hh, hZK, look]
end Go.Proofs.Ytdjpkgaicmklmaa

/- How the reference merges: clocks over all sites, cards over all numbers: it is the merge of rising lists: without the program. -/
namespace Go.Proofs.Ytdjpkgaicmklmaa
open Go.RowKit

/-- The count of a site. -/
def clkOf (K : List Ck) (s : Int) : Int := match look Ck.site K s with
  | some c => c.count
  | none => 0
def mostC (a b : List Ck) (s : Int) : Int := max (clkOf a s) (clkOf b s)
/-- The greater clocks of both, over the sites up to n. -/
def refClk (a b : List Ck) : Nat → List Ck
  | 0 => []
  | n + 1 => if 0 < mostC a b ((n : Int) + 1) then refClk a b n ++ [⟨(n : Int) + 1, mostC a b ((n : Int) + 1)⟩] else refClk a b n
theorem refClk_mem {a b : List Ck} {x : Ck} : ∀ {n : Nat}, x ∈ refClk a b n → 1 ≤ x.site ∧ x.site ≤ n ∧ 0 < x.count ∧ x.count = mostC a b x.site
  | 0, h => by cases h
  | n + 1, h => by
    simp only [refClk] at h
    split at h
    · rename_i hp
      rcases List.mem_append.1 h with h | h
      · have := refClk_mem h; omega
      · simp at h; subst h; exact ⟨by simp; omega, by simp, hp, rfl⟩
    · have := refClk_mem h; omega
theorem refClk_asc (a b : List Ck) : ∀ n, Asc Ck.site (refClk a b n)
  | 0 => List.Pairwise.nil
  | n + 1 => by
    simp only [refClk]
    split
    · refine List.pairwise_append.2 ⟨refClk_asc a b n, List.pairwise_singleton _ _, fun x hx y hy => ?_⟩
      simp at hy; subst hy
      have := refClk_mem hx; simp; omega
    · exact refClk_asc a b n
theorem refClk_has {a b : List Ck} {s : Nat} (hs : 0 < mostC a b ((s : Int) + 1)) : ∀ {n : Nat}, s < n → (⟨(s : Int) + 1, mostC a b ((s : Int) + 1)⟩ : Ck) ∈ refClk a b n
  | 0, h => by omega
  | n + 1, h => by
    by_cases e : s = n
    · subst e; simp [refClk, hs]
    · have := refClk_has hs (n := n) (by omega)
      simp only [refClk]; split
      · exact List.mem_append_left _ this
      · exact this
theorem clkOf_look {K : List Ck} (s : Int) (hp : ∀ x ∈ K, 1 ≤ x.count) : (look Ck.site K s = none ∧ clkOf K s = 0) ∨ ∃ c, look Ck.site K s = some c ∧ c.site = s ∧ clkOf K s = c.count ∧ 1 ≤ c.count := by
  unfold clkOf
  cases h : look Ck.site K s with
  | none => exact Or.inl ⟨rfl, rfl⟩
  | some c => exact Or.inr ⟨c, rfl, (look_mem Ck.site h).2, rfl, hp c (look_mem Ck.site h).1⟩
theorem refClk_eq {a b : List Ck} (ha : Asc Ck.site a) (hb : Asc Ck.site b) (pa : ∀ x ∈ a, 1 ≤ x.site ∧ x.site ≤ 200 ∧ 1 ≤ x.count) (pb : ∀ x ∈ b, 1 ≤ x.site ∧ x.site ≤ 200 ∧ 1 ≤ x.count) : refClk a b 200 = mergeK a b := by
  refine asc_ext Ck.site (refClk_asc a b 200) (layK_asc Ck.site (fun o c h => keepK_site o c h) ha) fun s => ?_
  unfold mergeK
  rw [look_lay Ck.site (fun o c h => keepK_site o c h) ha hb]
  have h1 := clkOf_look (K := a) s (fun x hx => (pa x hx).2.2)
  have h2 := clkOf_look (K := b) s (fun x hx => (pb x hx).2.2)
  have key : ∀ c : Ck, c.site = s → 1 ≤ s → s ≤ 200 → 0 < c.count → c.count = mostC a b s → look Ck.site (refClk a b 200) s = some c := by
    intro c hs h3 h4 h5 h6
    obtain ⟨m, hm⟩ : ∃ m : Nat, s = (m : Int) + 1 := ⟨(s - 1).toNat, by omega⟩
    have := refClk_has (a := a) (b := b) (s := m) (by rw [← hm, ← h6]; exact h5) (n := 200) (by omega)
    rw [← hm, ← h6] at this
    have e : (⟨s, c.count⟩ : Ck) = c := by rw [← hs]
    rw [e] at this
    have := look_some Ck.site (refClk_asc a b 200) this
    rw [hs] at this; exact this
  rcases h1 with ⟨e1, z1⟩ | ⟨c, e1, s1, z1, p1⟩
  · rcases h2 with ⟨e2, z2⟩ | ⟨d, e2, s2, z2, p2⟩
    · rw [e1, e2]
      have : look Ck.site (refClk a b 200) s = none := look_none Ck.site (fun x hx e => by
        have := refClk_mem hx
        rw [e] at this; unfold mostC at this; omega)
      rw [this]; rfl
    · have r := pb d (look_mem Ck.site e2).1
      rw [e1, e2, key d s2 (by omega) (by omega) (by omega) (by unfold mostC; omega)]; rfl
  · have r := pa c (look_mem Ck.site e1).1
    rcases h2 with ⟨e2, z2⟩ | ⟨d, e2, s2, z2, p2⟩
    · rw [e1, e2, key c s1 (by omega) (by omega) (by omega) (by unfold mostC; omega)]; rfl
    · rw [e1, e2]
      simp only [over, keepK]
      split
      · exact key d s2 (by omega) (by omega) (by omega) (by unfold mostC; omega)
      · exact key c s1 (by omega) (by omega) (by omega) (by unfold mostC; omega)

/-- The least number above another among some; 0: none. -/
def lowStep (id n x : Int) : Int := if id < x ∧ (n = 0 ∨ x < n) then x else n
def lowAbove (id : Int) (l : List Int) : Int := l.foldl (lowStep id) 0
theorem low_fold (id : Int) (h0 : 0 ≤ id) : ∀ (l : List Int) (n : Int), (n = 0 ∨ id < n) → (l.foldl (lowStep id) n = 0 ∨ id < l.foldl (lowStep id) n) ∧
    (l.foldl (lowStep id) n = n ∨ l.foldl (lowStep id) n ∈ l) ∧ (∀ x ∈ l, id < x → l.foldl (lowStep id) n ≤ x ∧ l.foldl (lowStep id) n ≠ 0) ∧ (n ≠ 0 → l.foldl (lowStep id) n ≤ n ∧ l.foldl (lowStep id) n ≠ 0)
  | [], n, hn => ⟨hn, Or.inl rfl, fun x hx => (by cases hx), fun h => ⟨Int.le_refl _, h⟩⟩
  | y :: l, n, hn => by
    simp only [List.foldl_cons]
    have hs : lowStep id n y = 0 ∨ id < lowStep id n y := by unfold lowStep; split; (right; omega); exact hn
    obtain ⟨h1, h2, h3, h4⟩ := low_fold id h0 l (lowStep id n y) hs
    refine ⟨h1, ?_, ?_, ?_⟩
    · rcases h2 with h2 | h2
      · rw [h2]; unfold lowStep; split
        · right; simp
        · left; rfl
      · right; simp [h2]
    · intro x hx hlt
      rcases List.mem_cons.1 hx with rfl | hx
      · have hne : lowStep id n x ≠ 0 := by unfold lowStep; split; omega; omega
        have hle : lowStep id n x ≤ x := by unfold lowStep; split; omega; omega
        have := h4 hne; omega
      · exact h3 x hx hlt
    · intro hne
      have hne2 : lowStep id n y ≠ 0 := by unfold lowStep; split <;> omega
      have hle : lowStep id n y ≤ n := by unfold lowStep; split <;> omega
      have := h4 hne2; omega
theorem low_none {id : Int} {l : List Int} (h0 : 0 ≤ id) (h : ∀ x ∈ l, x ≤ id) : lowAbove id l = 0 := by
  obtain ⟨h1, h2, _, _⟩ := low_fold id h0 l 0 (Or.inl rfl)
  rcases h2 with h2 | h2
  · exact h2
  · rcases h1 with h1 | h1
    · exact h1
    · have := h _ h2; unfold lowAbove; omega
theorem low_is {id x : Int} {l : List Int} (h0 : 0 ≤ id) (hx : x ∈ l) (hlt : id < x) (hle : ∀ y ∈ l, id < y → x ≤ y) : lowAbove id l = x := by
  obtain ⟨h1, h2, h3, _⟩ := low_fold id h0 l 0 (Or.inl rfl)
  have := h3 x hx hlt
  unfold lowAbove
  rcases h2 with h2 | h2
  · omega
  · rcases h1 with h1 | h1
    · omega
    · have := hle _ h2 h1; omega

/-- The numbers of the cards of both. -/
def idsOf (a b : List Cd) : List Int := a.map Cd.id ++ b.map Cd.id
/-- The card of a number that the reference takes. -/
def takeC (a b : List Cd) (id : Int) : Cd := match look Cd.id a id, look Cd.id b id with
  | none, some y => y
  | some x, none => x
  | some x, some y => if laterB y x then y else x
  | none, none => ⟨0, 0, 0, false, ⟨#[]⟩⟩
theorem take_look {a b : List Cd} {id : Int} {c : Cd} (h : over keepC (look Cd.id a id) (look Cd.id b id) = some c) : takeC a b id = c := by
  unfold takeC
  cases h1 : look Cd.id a id with
  | none =>
    cases h2 : look Cd.id b id with
    | none => rw [h1, h2] at h; cases h
    | some y => rw [h1, h2] at h; simpa [over] using h
  | some x =>
    cases h2 : look Cd.id b id with
    | none => rw [h1, h2] at h; simpa [over] using h
    | some y => rw [h1, h2] at h; simpa [over, keepC] using h
theorem merge_ids {a b : List Cd} (ha : Asc Cd.id a) (hb : Asc Cd.id b) (id : Int) : (∃ c ∈ mergeC a b, c.id = id) ↔ id ∈ idsOf a b := by
  have hm : Asc Cd.id (mergeC a b) := layK_asc Cd.id (fun o c h => keepC_id o c h) ha
  have hl := look_lay Cd.id (fun o c h => keepC_id o c h) ha hb id
  unfold idsOf
  rw [List.mem_append, List.mem_map, List.mem_map]
  constructor
  · rintro ⟨c, hc, rfl⟩
    have := look_some Cd.id hm hc
    rw [show mergeC a b = layK Cd.id keepC a b from rfl, hl] at this
    cases h1 : look Cd.id a c.id with
    | some x => exact Or.inl ⟨x, (look_mem Cd.id h1).1, (look_mem Cd.id h1).2⟩
    | none =>
      cases h2 : look Cd.id b c.id with
      | some y => exact Or.inr ⟨y, (look_mem Cd.id h2).1, (look_mem Cd.id h2).2⟩
      | none => rw [h1, h2] at this; cases this
  · intro h
    have hs : ∃ c, over keepC (look Cd.id a id) (look Cd.id b id) = some c := by
      rcases h with ⟨x, hx, rfl⟩ | ⟨x, hx, rfl⟩
      · rw [look_some Cd.id ha hx]
        cases look Cd.id b x.id with
        | none => exact ⟨_, rfl⟩
        | some y => exact ⟨_, rfl⟩
      · rw [look_some Cd.id hb hx]
        cases look Cd.id a x.id with
        | none => exact ⟨_, rfl⟩
        | some y => exact ⟨_, rfl⟩
    obtain ⟨c, hc⟩ := hs
    rw [← hl] at hc
    exact ⟨c, (look_mem Cd.id hc).1, (look_mem Cd.id hc).2⟩
/-- The k-th number is the least above the one ahead of it; its card is the merged one. -/
def idAt (M : List Cd) (k : Nat) : Int := match M[k]? with
  | some c => c.id
  | none => 0
theorem low_first {a b : List Cd} (ha : Asc Cd.id a) (hb : Asc Cd.id b) (p : ∀ c ∈ mergeC a b, 0 < c.id) : lowAbove 0 (idsOf a b) = idAt (mergeC a b) 0 := by
  have hm : Asc Cd.id (mergeC a b) := layK_asc Cd.id (fun o c h => keepC_id o c h) ha
  unfold idAt
  cases hM : mergeC a b with
  | nil =>
    show lowAbove 0 (idsOf a b) = 0
    refine low_none (Int.le_refl _) fun x hx => ?_
    obtain ⟨c, hc, _⟩ := (merge_ids ha hb x).2 hx
    rw [hM] at hc; cases hc
  | cons c M =>
    rw [hM] at hm p
    show lowAbove 0 (idsOf a b) = c.id
    refine low_is (Int.le_refl _) ((merge_ids ha hb c.id).1 ⟨c, by rw [hM]; simp, rfl⟩) (p c (by simp)) fun y hy _ => ?_
    obtain ⟨d, hd, rfl⟩ := (merge_ids ha hb y).2 hy
    rw [hM] at hd
    rcases List.mem_cons.1 hd with rfl | hd
    · exact Int.le_refl _
    · have := (List.pairwise_cons.1 hm).1 d hd; omega
theorem low_next {a b : List Cd} (ha : Asc Cd.id a) (hb : Asc Cd.id b) (p : ∀ c ∈ mergeC a b, 0 < c.id) (k : Nat) (hk : k < (mergeC a b).length) :
    lowAbove (idAt (mergeC a b) k) (idsOf a b) = idAt (mergeC a b) (k + 1) ∧ 0 < idAt (mergeC a b) k ∧ takeC a b (idAt (mergeC a b) k) = (mergeC a b)[k] := by
  have hm : Asc Cd.id (mergeC a b) := layK_asc Cd.id (fun o c h => keepC_id o c h) ha
  have hl := look_lay Cd.id (fun o c h => keepC_id o c h) ha hb
  have hp : ∀ i j (hi : i < (mergeC a b).length) (hj : j < (mergeC a b).length), i < j → (mergeC a b)[i].id < (mergeC a b)[j].id := fun i j hi hj hij => List.pairwise_iff_getElem.1 hm i j hi hj hij
  have e0 : idAt (mergeC a b) k = (mergeC a b)[k].id := by unfold idAt; rw [List.getElem?_eq_getElem hk]
  have p0 := p _ (List.getElem_mem hk)
  rw [e0]
  refine ⟨?_, p0, take_look ?_⟩
  · unfold idAt
    by_cases h1 : k + 1 < (mergeC a b).length
    · rw [List.getElem?_eq_getElem h1]
      show lowAbove _ (idsOf a b) = (mergeC a b)[k + 1].id
      refine low_is (by omega) ((merge_ids ha hb _).1 ⟨_, List.getElem_mem h1, rfl⟩) (hp k (k + 1) hk h1 (by omega)) fun y hy hlt => ?_
      obtain ⟨d, hd, rfl⟩ := (merge_ids ha hb y).2 hy
      obtain ⟨j, hj, rfl⟩ := List.mem_iff_getElem.1 hd
      rcases Nat.lt_trichotomy j (k + 1) with h | h | h
      · rcases Nat.lt_or_ge j k with h2 | h2
        · have := hp j k hj hk h2; omega
        · have : j = k := by omega
          subst this; omega
      · subst h; exact Int.le_refl _
      · have := hp (k + 1) j h1 hj h; omega
    · rw [List.getElem?_eq_none (by omega)]
      show lowAbove _ (idsOf a b) = 0
      refine low_none (by omega) fun y hy => ?_
      obtain ⟨d, hd, rfl⟩ := (merge_ids ha hb y).2 hy
      obtain ⟨j, hj, rfl⟩ := List.mem_iff_getElem.1 hd
      rcases Nat.lt_or_ge j k with h2 | h2
      · have := hp j k hj hk h2; omega
      · have : j = k := by omega
        subst this; exact Int.le_refl _
  · rw [← hl]
    exact look_some Cd.id hm (List.getElem_mem hk)
end Go.Proofs.Ytdjpkgaicmklmaa

/- How the program merges and extends: what is newer, laid over what is there: without the program. -/
namespace Go.Proofs.Ytdjpkgaicmklmaa
open Go.RowKit

section
variable {α : Type} (key : α → Int)
theorem look_filter (p : α → Bool) : ∀ {l : List α}, Asc key l → ∀ k, look key (l.filter p) k = (look key l k).filter p
  | [], _, _ => rfl
  | x :: l, h, k => by
    simp only [Asc, List.pairwise_cons] at h
    have ih := look_filter p (l := l) h.2 k
    by_cases hp : p x = true
    · rw [List.filter_cons_of_pos hp]
      simp only [look]
      by_cases e : key x = k
      · rw [if_pos e, if_pos e]; simp [Option.filter, hp]
      · rw [if_neg e, if_neg e]; exact ih
    · rw [List.filter_cons_of_neg hp, ih]
      simp only [look]
      by_cases e : key x = k
      · rw [if_pos e, look_none key (fun y hy => by have := h.1 y hy; omega)]; simp [Option.filter, hp]
      · rw [if_neg e]
theorem put_app (f : α → α → α) {c : α} {D : List α} : ∀ {L : List α}, (∀ x ∈ L, key x < key c) → putK key f (L ++ D) c = L ++ putK key f D c
  | [], _ => rfl
  | x :: L, h => by
    simp only [List.cons_append, putK]
    rw [if_pos (h x (by simp)), put_app f (fun y hy => h y (by simp [hy]))]
theorem put_eq (f : α → α → α) {c o : α} {D : List α} (h : key o = key c) : putK key f (o :: D) c = f o c :: D := by
  simp only [putK]; rw [if_neg (by omega), if_pos h]
theorem put_lt (f : α → α → α) {c o : α} {D : List α} (h : key c < key o) : putK key f (o :: D) c = c :: o :: D := by
  simp only [putK]; rw [if_neg (by omega), if_neg (by omega)]
theorem lay_snoc (f : α → α → α) (a b : List α) (c : α) : layK key f a (b ++ [c]) = putK key f (layK key f a b) c := by
  unfold layK; rw [List.foldl_append]; rfl
theorem asc_filter {l : List α} (p : α → Bool) (h : Asc key l) : Asc key (l.filter p) := List.Pairwise.filter p h
end

/-- What one list of clocks has newer than another. -/
def newK (old r : List Ck) : List Ck := r.filter fun c => decide (clkOf old c.site < c.count)
def newP (old : List Cd) (c : Cd) : Bool := match look Cd.id old c.id with
  | some o => laterB c o
  | none => true
def newC (old r : List Cd) : List Cd := r.filter (newP old)
theorem newK_snoc (old r : List Ck) (c : Ck) : newK old (r ++ [c]) = if clkOf old c.site < c.count then newK old r ++ [c] else newK old r := by
  unfold newK; rw [List.filter_append]
  by_cases h : clkOf old c.site < c.count <;> simp [h]
theorem newC_snoc (old r : List Cd) (c : Cd) : newC old (r ++ [c]) = if newP old c = true then newC old r ++ [c] else newC old r := by
  unfold newC; rw [List.filter_append]
  by_cases h : newP old c = true <;> simp [h]
theorem newK_len (old r : List Ck) : (newK old r).length ≤ r.length := List.length_filter_le _ _
theorem newC_len (old r : List Cd) : (newC old r).length ≤ r.length := List.length_filter_le _ _
theorem newK_asc {old r : List Ck} (h : Asc Ck.site r) : Asc Ck.site (newK old r) := asc_filter Ck.site _ h
theorem newC_asc {old r : List Cd} (h : Asc Cd.id r) : Asc Cd.id (newC old r) := asc_filter Cd.id _ h
theorem lay_newK {a b : List Ck} (ha : Asc Ck.site a) (hb : Asc Ck.site b) (pb : ∀ x ∈ b, 1 ≤ x.count) : layK Ck.site (fun _ c => c) a (newK a b) = mergeK a b := by
  refine asc_ext Ck.site (layK_asc Ck.site (fun o c h => rfl) ha) (layK_asc Ck.site (fun o c h => keepK_site o c h) ha) fun k => ?_
  unfold mergeK
  rw [look_lay Ck.site (fun o c h => rfl) ha (newK_asc hb), look_lay Ck.site (fun o c h => keepK_site o c h) ha hb]
  unfold newK
  rw [look_filter Ck.site _ hb]
  cases h2 : look Ck.site b k with
  | none => simp [over_none, Option.filter]
  | some y =>
    have m2 := look_mem Ck.site h2
    have p2 := pb y m2.1
    cases h1 : look Ck.site a k with
    | none =>
      have hc : clkOf a y.site = 0 := by unfold clkOf; rw [m2.2, h1]
      have : clkOf a y.site < y.count := by omega
      simp [Option.filter, this, over]
    | some x =>
      have hc : clkOf a y.site = x.count := by unfold clkOf; rw [m2.2, h1]
      by_cases h : x.count < y.count
      · have : clkOf a y.site < y.count := by omega
        simp [Option.filter, this, over, keepK, h]
      · have : ¬ clkOf a y.site < y.count := by omega
        simp [Option.filter, this, over, keepK, h]
theorem lay_newC {a b : List Cd} (ha : Asc Cd.id a) (hb : Asc Cd.id b) : layK Cd.id (fun _ c => c) a (newC a b) = mergeC a b := by
  refine asc_ext Cd.id (layK_asc Cd.id (fun o c h => rfl) ha) (layK_asc Cd.id (fun o c h => keepC_id o c h) ha) fun k => ?_
  unfold mergeC
  rw [look_lay Cd.id (fun o c h => rfl) ha (newC_asc hb), look_lay Cd.id (fun o c h => keepC_id o c h) ha hb]
  unfold newC
  rw [look_filter Cd.id _ hb]
  cases h2 : look Cd.id b k with
  | none => simp [over_none, Option.filter]
  | some y =>
    have m2 := look_mem Cd.id h2
    cases h1 : look Cd.id a k with
    | none =>
      have hc : newP a y = true := by unfold newP; rw [m2.2, h1]
      simp [Option.filter, hc, over]
    | some x =>
      have hc : newP a y = laterB y x := by unfold newP; rw [m2.2, h1]
      by_cases h : laterB y x = true
      · simp [Option.filter, hc, over, keepC, h]
      · simp [Option.filter, hc, over, keepC, h]
/-- Of what follows, what is newer is what is otherwise. -/
theorem laterB_irr (x : Cd) : laterB x x = false := by unfold laterB; simp
theorem diff_new {o r : Tri} (ha : Asc Ck.site r.K ∧ Asc Cd.id r.C) (hp : ∀ x ∈ r.K, 1 ≤ x.count) (h : followB o r = true) : newK o.K r.K = (diffS o r).K ∧ newC o.C r.C = (diffS o r).C := by
  simp only [followB, followK, followC, Bool.and_eq_true, List.all_eq_true] at h
  constructor
  · unfold newK diffS
    apply List.filter_congr
    intro c hc
    have p := hp c hc
    cases hl : look Ck.site o.K c.site with
    | none =>
      have : clkOf o.K c.site = 0 := by unfold clkOf; rw [hl]
      simp; omega
    | some d =>
      have hd := look_mem Ck.site hl
      have hk : clkOf o.K c.site = d.count := by unfold clkOf; rw [hl]
      have := h.1 d hd.1
      rw [hd.2, look_some Ck.site ha.1 hc] at this
      simp only [decide_eq_true_eq] at this
      rw [hk]
      by_cases e : d.count < c.count
      · have : d ≠ c := fun e2 => by subst e2; omega
        simp [e, this]
      · have : d = c := by
          have h1 : d.site = c.site := hd.2
          have h2 : d.count = c.count := by omega
          cases d; cases c; simp at h1 h2; subst h1; subst h2; rfl
        subst this; simp
  · unfold newC diffS
    apply List.filter_congr
    intro c hc
    cases hl : look Cd.id o.C c.id with
    | none => simp [newP, hl]
    | some d =>
      have hd := look_mem Cd.id hl
      have := h.2 d hd.1
      rw [hd.2, look_some Cd.id ha.2 hc] at this
      simp only [Bool.or_eq_true, decide_eq_true_eq] at this
      simp only [newP, hl]
      rcases this with h3 | h3
      · have : d ≠ c := fun e2 => by subst e2; rw [laterB_irr] at h3; cases h3
        simp [h3, this]
      · subst h3; simp [laterB_irr]
end Go.Proofs.Ytdjpkgaicmklmaa

/- The reference's Later, find, behind, clocks, joined: walked. -/
namespace Go.Proofs.Ytdjpkgaicmklmaa
open Go.RowKit

set_option maxRecDepth 100000 in
set_option maxHeartbeats 4000000 in
theorem rlater_any (a b : Cd) (w : World) :
    Calls Try.prog 109 #[.agg a.cells.toArray, .agg b.cells.toArray] w fun e w' => e = .returned (.bool (laterB a b)) ∧ Below w.heap.size w w' := by
  obtain ⟨hA, hB, hs, hb⟩ := two_boxes w 69 69 a.cells.toArray b.cells.toArray
  have a1 := hA.cell 1; have a2 := hA.cell 2
  have b1 := hB.cell 1; have b2 := hB.cell 2
  dsimp only [List.getElem?_cons_zero, List.getElem?_cons_succ] at a1 a2 b1 b2
  have HB : Hid (Below w.heap.size w ((w.alloc (.cells a.cells.toArray 69)).alloc (.cells b.cells.toArray 69))) := hb
  have HL : Hid (laterB a b = (decide (b.count < a.count) || (a.count == b.count && decide (b.site < a.site)))) := by
    show _ = _; unfold laterB; first | rfl | (simp; done)
  clear hA hB hs hb
  by_cases h1 : b.count < a.count
  · have E : Hid (laterB a b = true) := by show _ = _; rw [HL.out]; simp [h1]
    clear HL
    go_enter Try.func109, Try.ntmps109
    go_wp2_with fail
    go_ret
    exact ⟨by rw [E.out]; rfl, HB.out⟩
  · by_cases h2 : a.count = b.count
    · by_cases h3 : b.site < a.site
      · have E : Hid (laterB a b = true) := by show _ = _; rw [HL.out]; simp [h2, h3]
        have q : (a.count == b.count) = true := by simp [h2]
        clear HL h2
        go_enter Try.func109, Try.ntmps109
        go_wp2_with fail
        go_ret
        exact ⟨by rw [E.out]; rfl, HB.out⟩
      · have E : Hid (laterB a b = false) := by show _ = _; rw [HL.out]; simp [h1, h3]
        have q : (a.count == b.count) = true := by simp [h2]
        clear HL h2
        go_enter Try.func109, Try.ntmps109
        go_wp2_with fail
        go_ret
        exact ⟨by rw [E.out]; rfl, HB.out⟩
    · have E : Hid (laterB a b = false) := by show _ = _; rw [HL.out]; simp [h1, h2]
      have q : (a.count == b.count) = false := by simp [h2]
      clear HL
      go_enter Try.func109, Try.ntmps109
      go_wp2_with fail
      go_ret
      exact ⟨by rw [E.out]; rfl, HB.out⟩

/-- The place of a card's number, or -1. -/
def findR (R : Rep) (id : Int) : Option Nat := firstOf (fun i => (R.d i).id == id) R.n2
def findI (R : Rep) (id : Int) : Int := match findR R id with
  | some i => (i : Int)
  | none => -1

set_option maxRecDepth 100000 in
set_option maxHeartbeats 4000000 in
theorem find_any (R : Rep) (a1 a2 a3 : Option Addr) (k1 k2 k3 : Nat) (id : Int) (w : World) (hR : Has w R a1 a2 a3) :
    Calls Try.prog 108 #[repV R a1 a2 a3 k1 k2 k3, .int .i64 id] w fun e w' => e = .returned (.int .i64 (findI R id)) ∧ Below w.heap.size w w' := by
  have b2 := hR.b2
  go_enter Try.func108, Try.ntmps108
  go_wp2
  go_loopw [5] (fun i wr => ∃ k : Nat, k ≤ R.n2 ∧ i = .int .i64 k ∧ (∀ j, j < k → ((R.d j).id == id) = false) ∧ BoxR w R a1 a2 a3 k1 k2 k3 wr) (fun i _ => R.n2 - (intOf i).toNat)
  case atStart => exact ⟨0, Nat.zero_le _, rfl, fun j hj => by omega, Below.refl _ _⟩
  case round =>
    obtain ⟨k, hk, rfl, hno, hb⟩ := hrel
    obtain ⟨x1, x2, x3⟩ := box3 hb
    have HN : Hid (∀ j, j < k → ((R.d j).id == id) = false) := hno
    clear hno
    by_cases hlt : k < R.n2
    · obtain ⟨b, o, hbl, hix, c0, c1, c2, c3, c4⟩ := (hR.below (below_box hb)).l2.card k2 hlt
      cases hq : ((R.d k).id == id) with
      | true =>
        have E : Hid (findI R id = (k : Int)) := by
          show _ = _
          unfold findI findR
          rw [(firstOf_some (f := fun i => (R.d i).id == id) (n := R.n2) (i := k)).mpr ⟨hq, hlt, HN.out⟩]
        go_wp2
        go_ret
        exact ⟨by rw [E.out]; rfl, below_box hb⟩
      | false =>
        have HQ : Hid (((R.d k).id == id) = false) := hq
        go_wp2
        go_roundw
        case rel => exact ⟨k + 1, by omega, by go_num, fun j hj => by rcases Nat.lt_or_ge j k with h | h; (exact HN.out j h); (rw [show j = k by omega]; exact HQ.out), hb⟩
        case measure => simp [intOf]; omega
    · obtain rfl : R.n2 = k := by omega
      have E : Hid (findI R id = -1) := by
        show _ = _
        unfold findI findR
        rw [(firstOf_none (f := fun i => (R.d i).id == id)).mpr HN.out]
      go_wp2
      go_ret
      exact ⟨by rw [E.out]; rfl, below_box hb⟩

/-- The numbers of the cards of both, as they are gone over. -/
def idsR (A B : Rep) (i : Nat) : Int := if i < A.n2 then (A.d i).id else (B.d (i - A.n2)).id
def lowTo (A B : Rep) (id : Int) : Nat → Int
  | 0 => 0
  | k + 1 => lowStep id (lowTo A B id k) (idsR A B k)
def lowR (A B : Rep) (id : Int) : Int := lowTo A B id (A.n2 + B.n2)

set_option maxRecDepth 100000 in
set_option maxHeartbeats 4000000 in
theorem behind_any (A B : Rep) (a1 a2 a3 b1 b2 b3 : Option Addr) (k1 k2 k3 l1 l2 l3 : Nat) (id : Int) (w : World) (hA : Has w A a1 a2 a3) (hB : Has w B b1 b2 b3) :
    Calls Try.prog 107 #[repV A a1 a2 a3 k1 k2 k3, repV B b1 b2 b3 l1 l2 l3, .int .i64 id] w fun e w' => e = .returned (.int .i64 (lowR A B id)) ∧ Below w.heap.size w w' := by
  have y2 := hA.b2
  have u2 := hB.b2
  have h0 : BoxT w A B a1 a2 a3 b1 b2 b3 k1 k2 k3 l1 l2 l3 ((w.alloc (.cells #[.slice a1 A.n1 k1, .slice a2 A.n2 k2, .slice a3 A.n3 k3] 26)).alloc (.cells #[.slice b1 B.n1 l1, .slice b2 B.n2 l2, .slice b3 B.n3 l3] 26)) := Below.refl _ _
  have H0 : Hid (BoxT w A B a1 a2 a3 b1 b2 b3 k1 k2 k3 l1 l2 l3 ((w.alloc (.cells #[.slice a1 A.n1 k1, .slice a2 A.n2 k2, .slice a3 A.n3 k3] 26)).alloc (.cells #[.slice b1 B.n1 l1, .slice b2 B.n2 l2, .slice b3 B.n3 l3] 26))) := h0
  clear h0
  go_enter Try.func107, Try.ntmps107
  go_wp2_with fail
  go_loopw [7, 8, 9] (fun v u _ wr => ∃ i : Nat, i ≤ A.n2 + B.n2 ∧ u = .int .i64 i ∧ v = .int .i64 (lowTo A B id i) ∧ BoxT w A B a1 a2 a3 b1 b2 b3 k1 k2 k3 l1 l2 l3 wr) (fun _ u _ _ => A.n2 + B.n2 - (intOf u).toNat)
  case atStart => exact ⟨0, Nat.zero_le _, rfl, rfl, H0.out⟩
  case round =>
    obtain ⟨i, hi, rfl, rfl, hb⟩ := hrel
    obtain ⟨⟨x1, x2, x3⟩, z1, z2, z3⟩ := hb.cells
    by_cases hlt : i < A.n2 + B.n2
    · have HS : Hid (lowTo A B id (i + 1) = lowStep id (lowTo A B id i) (idsR A B i)) := rfl
      by_cases hlA : i < A.n2
      · obtain ⟨b, o, hbl, hix, c0, -⟩ := (hA.below hb.old).l2.card k2 hlA
        have HX : Hid (idsR A B i = (A.d i).id) := by show _ = _; unfold idsR; rw [if_pos hlA]
        generalize (A.d i).id = x at *
        generalize lowTo A B id i = n at *
        by_cases h1 : id < x
        · by_cases h2 : n = 0
          · have q2 : (n == 0) = true := by simp [h2]
            have E : Hid (lowTo A B id (i + 1) = x) := by show _ = _; rw [HS.out, HX.out]; unfold lowStep; rw [if_pos ⟨h1, Or.inl h2⟩]
            clear h2
            go_wp2_with fail
            go_roundw
            case rel => exact ⟨i + 1, by omega, by go_num, by rw [E.out], hb⟩
            case measure => simp [intOf]; omega
          · have q2 : (n == 0) = false := by simp [h2]
            by_cases h3 : x < n
            · have E : Hid (lowTo A B id (i + 1) = x) := by show _ = _; rw [HS.out, HX.out]; unfold lowStep; rw [if_pos ⟨h1, Or.inr h3⟩]
              clear h2
              go_wp2_with fail
              go_roundw
              case rel => exact ⟨i + 1, by omega, by go_num, by rw [E.out], hb⟩
              case measure => simp [intOf]; omega
            · have E : Hid (lowTo A B id (i + 1) = n) := by show _ = _; rw [HS.out, HX.out]; unfold lowStep; rw [if_neg (by omega)]
              clear h2
              go_wp2_with fail
              go_roundw
              case rel => exact ⟨i + 1, by omega, by go_num, by rw [E.out], hb⟩
              case measure => simp [intOf]; omega
        · have E : Hid (lowTo A B id (i + 1) = n) := by show _ = _; rw [HS.out, HX.out]; unfold lowStep; rw [if_neg (by omega)]
          go_wp2_with fail
          go_roundw
          case rel => exact ⟨i + 1, by omega, by go_num, by rw [E.out], hb⟩
          case measure => simp [intOf]; omega
      · obtain ⟨j, hj⟩ : ∃ j, i = A.n2 + j := ⟨i - A.n2, by omega⟩
        have hjB : j < B.n2 := by omega
        obtain ⟨b, o, hbl, hix, c0, -⟩ := (hB.below hb.old).l2.card l2 hjB
        have HX : Hid (idsR A B i = (B.d j).id) := by show _ = _; unfold idsR; rw [if_neg hlA, hj, Nat.add_sub_cancel_left]
        have hsub : (i : Int) - (A.n2 : Int) = (j : Int) := by omega
        have hj2 : ¬ (i : Int) < (A.n2 : Int) := by omega
        clear hj
        generalize (B.d j).id = x at *
        generalize lowTo A B id i = n at *
        by_cases h1 : id < x
        · by_cases h2 : n = 0
          · have q2 : (n == 0) = true := by simp [h2]
            have E : Hid (lowTo A B id (i + 1) = x) := by show _ = _; rw [HS.out, HX.out]; unfold lowStep; rw [if_pos ⟨h1, Or.inl h2⟩]
            clear h2
            go_wp2_with fail
            go_roundw
            case rel => exact ⟨i + 1, by omega, by go_num, by rw [E.out], hb⟩
            case measure => simp [intOf]; omega
          · have q2 : (n == 0) = false := by simp [h2]
            by_cases h3 : x < n
            · have E : Hid (lowTo A B id (i + 1) = x) := by show _ = _; rw [HS.out, HX.out]; unfold lowStep; rw [if_pos ⟨h1, Or.inr h3⟩]
              clear h2
              go_wp2_with fail
              go_roundw
              case rel => exact ⟨i + 1, by omega, by go_num, by rw [E.out], hb⟩
              case measure => simp [intOf]; omega
            · have E : Hid (lowTo A B id (i + 1) = n) := by show _ = _; rw [HS.out, HX.out]; unfold lowStep; rw [if_neg (by omega)]
              clear h2
              go_wp2_with fail
              go_roundw
              case rel => exact ⟨i + 1, by omega, by go_num, by rw [E.out], hb⟩
              case measure => simp [intOf]; omega
        · have E : Hid (lowTo A B id (i + 1) = n) := by show _ = _; rw [HS.out, HX.out]; unfold lowStep; rw [if_neg (by omega)]
          go_wp2_with fail
          go_roundw
          case rel => exact ⟨i + 1, by omega, by go_num, by rw [E.out], hb⟩
          case measure => simp [intOf]; omega
    · obtain rfl : A.n2 + B.n2 = i := by omega
      have E : Hid (lowR A B id = lowTo A B id (A.n2 + B.n2)) := rfl
      generalize lowTo A B id (A.n2 + B.n2) = n at *
      go_wp2_with fail
      go_ret
      exact ⟨by rw [E.out]; rfl, hb.old⟩
end Go.Proofs.Ytdjpkgaicmklmaa

/- The reference's clocks and joined: walked. -/
namespace Go.Proofs.Ytdjpkgaicmklmaa
open Go.RowKit

/-- A replica's lists. -/
def Rep.tri (R : Rep) : Tri := ⟨(List.range R.n1).map R.c, (List.range R.n2).map R.d, (List.range R.n3).map R.e⟩
theorem clockTo_look (c : Nat → Ck) (s : Int) : ∀ n, clockTo c s n = (look Ck.site ((List.range n).map c) s).map (·.count)
  | 0 => rfl
  | n + 1 => by
    simp only [clockTo]
    rw [clockTo_look c s n, List.range_succ, List.map_append, look_append]
    cases look Ck.site ((List.range n).map c) s with
    | some x => rfl
    | none =>
      simp only [Option.map_none, List.map_cons, List.map_nil, look, Option.none_or]
      split <;> rfl
theorem clk_look (R : Rep) (s : Int) : R.clk s = clkOf R.tri.K s := by
  unfold Rep.clk clkOf Rep.tri
  rw [clockTo_look]
  cases look Ck.site ((List.range R.n1).map R.c) s <;> rfl
theorem kcells_app (a b : List Ck) : kcells (a ++ b) = kcells a ++ kcells b := by simp [kcells]

set_option maxRecDepth 100000 in
set_option maxHeartbeats 4000000 in
theorem rclocks_any (A B : Rep) (a1 a2 a3 b1 b2 b3 : Option Addr) (k1 k2 k3 l1 l2 l3 : Nat) (w : World) (hA : Has w A a1 a2 a3) (hB : Has w B b1 b2 b3) :
    Calls Try.prog 105 #[repV A a1 a2 a3 k1 k2 k3, repV B b1 b2 b3 l1 l2 l3] w fun e w' => ∃ ad cap N, e = .returned (.slice ad N cap) ∧ N = (refClk A.tri.K B.tri.K 200).length ∧ Vec w' w.heap.size 67 2 ad N cap (kcells (refClk A.tri.K B.tri.K 200)) ∧ Below w.heap.size w w' := by
  have h0 : BoxT w A B a1 a2 a3 b1 b2 b3 k1 k2 k3 l1 l2 l3 ((w.alloc (.cells #[.slice a1 A.n1 k1, .slice a2 A.n2 k2, .slice a3 A.n3 k3] 26)).alloc (.cells #[.slice b1 B.n1 l1, .slice b2 B.n2 l2, .slice b3 B.n3 l3] 26)) := Below.refl _ _
  have H0 : Hid (BoxT w A B a1 a2 a3 b1 b2 b3 k1 k2 k3 l1 l2 l3 ((w.alloc (.cells #[.slice a1 A.n1 k1, .slice a2 A.n2 k2, .slice a3 A.n3 k3] 26)).alloc (.cells #[.slice b1 B.n1 l1, .slice b2 B.n2 l2, .slice b3 B.n3 l3] 26))) := h0
  have HA : Hid (Has w A a1 a2 a3) := hA
  have HB : Hid (Has w B b1 b2 b3) := hB
  clear h0 hA hB
  go_enter Try.func105, Try.ntmps105
  go_wp2_with fail
  go_loopw [5, 6, 7, 8] (fun v u _ _ wr => ∃ (i : Nat) (ad : Option Addr) (cap N : Nat), i ≤ 200 ∧ u = .int .i64 ((i : Int) + 1) ∧ v = .slice ad N cap ∧ N = (refClk A.tri.K B.tri.K i).length ∧ N ≤ i ∧ Vec wr (w.heap.size + 2) 67 2 ad N cap (kcells (refClk A.tri.K B.tri.K i)) ∧ BoxT w A B a1 a2 a3 b1 b2 b3 k1 k2 k3 l1 l2 l3 wr) (fun _ u _ _ _ => 201 - (intOf u).toNat)
  case atStart => exact ⟨0, none, 0, 0, by omega, rfl, rfl, rfl, by omega, Vec.nil _ _ _ _, H0.out⟩
  case round =>
    obtain ⟨i, ad, cap, N, hi, rfl, rfl, hN, hNi, hv, hb⟩ := hrel
    have HN : Hid (N = (refClk A.tri.K B.tri.K i).length) := hN
    clear hN
    obtain ⟨⟨x1, x2, x3⟩, z1, z2, z3⟩ := hb.cells
    by_cases hlt : i < 200
    · have hx := clk_look A ((i : Int) + 1)
      have hy := clk_look B ((i : Int) + 1)
      have HM : Hid (mostC A.tri.K B.tri.K ((i : Int) + 1) = max (A.clk ((i : Int) + 1)) (B.clk ((i : Int) + 1))) := by show _ = _; rw [hx, hy]; rfl
      have HS : Hid (refClk A.tri.K B.tri.K (i + 1) = if 0 < mostC A.tri.K B.tri.K ((i : Int) + 1) then refClk A.tri.K B.tri.K i ++ [⟨(i : Int) + 1, mostC A.tri.K B.tri.K ((i : Int) + 1)⟩] else refClk A.tri.K B.tri.K i) := rfl
      clear hx hy
      go_wp2_with fail
      refine (clocked_any A a1 a2 a3 k1 k2 k3 ((i : Int) + 1) _ (HA.out.below hb.old)).mono ?_
      rintro e w1 ⟨rfl, hb1⟩
      have hbs : w.heap.size + 2 ≤ wr.heap.size := by have := hb.size; simp at this; omega
      have hv1 := hv.keep hb1
      have hbx1 : BoxT w A B a1 a2 a3 b1 b2 b3 k1 k2 k3 l1 l2 l3 w1 := Below.trans hb (hb1.mono hbs)
      clear hv hb hb1 x1 x2 x3 z1 z2 z3 hbs
      obtain ⟨⟨x1, x2, x3⟩, z1, z2, z3⟩ := hbx1.cells
      go_wp2_with fail
      refine (clocked_any B b1 b2 b3 l1 l2 l3 ((i : Int) + 1) _ (HB.out.below hbx1.old)).mono ?_
      rintro e w2 ⟨rfl, hb2⟩
      have hbs : w.heap.size + 2 ≤ w1.heap.size := by have := hbx1.size; simp at this; omega
      have hv2 := hv1.keep hb2
      have hbx2 : BoxT w A B a1 a2 a3 b1 b2 b3 k1 k2 k3 l1 l2 l3 w2 := Below.trans hbx1 (hb2.mono hbs)
      clear hv1 hbx1 hb2 x1 x2 x3 z1 z2 z3 hbs
      have hbs : w.heap.size + 2 ≤ w2.heap.size := by have := hbx2.size; simp at this; omega
      generalize A.clk ((i : Int) + 1) = x at *
      generalize B.clk ((i : Int) + 1) = y at *
      generalize mostC A.tri.K B.tri.K ((i : Int) + 1) = z at *
      have HBX : Hid (∀ o : Obj, BoxT w A B a1 a2 a3 b1 b2 b3 k1 k2 k3 l1 l2 l3 (w2.alloc o)) := fun o => Below.alloc hbx2 hbs o
      by_cases hxy : x < y
      · have hz : z = y := by rw [HM.out]; omega
        subst hz
        by_cases hp : 0 < z
        · rw [if_pos hp] at HS
          go_wp2_with (at_builtin; refine wpList_push (by rfl) _ _ 22 (by rfl) (w.heap.size + 2) 67 2 16 (.agg #[.int .i64 0, .int .i64 0]) Try.underlying22 (by kernel_rfl) rfl (by decide) ad N cap _ (by rfl) (hv2.keep ((Below.refl _ _).alloc (Nat.le_refl _) _)) _ _ (Ck.cells ⟨(i : Int) + 1, z⟩) (by rfl) rfl ?_ ?_ ?_ ?_ ?_ ?_; exact new_cells _ _ _; exact ones1 _; (omega); (omega); (simp; omega); intro ad' cap' w' hv' hb' hs')
          go_roundw
          case rel => exact ⟨i + 1, ad', cap', N + 1, by omega, by go_num, rfl, by rw [HS.out]; simp; exact HN.out, by omega, by rw [HS.out, kcells_app]; simpa [kcells] using hv', Below.trans (HBX.out _) hb'⟩
          case measure => simp [intOf]; omega
        · rw [if_neg hp] at HS
          go_wp2_with fail
          go_roundw
          case rel => exact ⟨i + 1, ad, cap, N, by omega, by go_num, rfl, by rw [HS.out]; exact HN.out, by omega, by rw [HS.out]; exact hv2, hbx2⟩
          case measure => simp [intOf]; omega
      · have hz : z = x := by rw [HM.out]; omega
        subst hz
        by_cases hp : 0 < z
        · rw [if_pos hp] at HS
          go_wp2_with (at_builtin; refine wpList_push (by rfl) _ _ 22 (by rfl) (w.heap.size + 2) 67 2 16 (.agg #[.int .i64 0, .int .i64 0]) Try.underlying22 (by kernel_rfl) rfl (by decide) ad N cap _ (by rfl) (hv2.keep ((Below.refl _ _).alloc (Nat.le_refl _) _)) _ _ (Ck.cells ⟨(i : Int) + 1, z⟩) (by rfl) rfl ?_ ?_ ?_ ?_ ?_ ?_; exact new_cells _ _ _; exact ones1 _; (omega); (omega); (simp; omega); intro ad' cap' w' hv' hb' hs')
          go_roundw
          case rel => exact ⟨i + 1, ad', cap', N + 1, by omega, by go_num, rfl, by rw [HS.out]; simp; exact HN.out, by omega, by rw [HS.out, kcells_app]; simpa [kcells] using hv', Below.trans (HBX.out _) hb'⟩
          case measure => simp [intOf]; omega
        · rw [if_neg hp] at HS
          go_wp2_with fail
          go_roundw
          case rel => exact ⟨i + 1, ad, cap, N, by omega, by go_num, rfl, by rw [HS.out]; exact HN.out, by omega, by rw [HS.out]; exact hv2, hbx2⟩
          case measure => simp [intOf]; omega
    · obtain rfl : i = 200 := by omega
      go_wp2_with fail
      go_ret
      exact ⟨ad, cap, N, rfl, HN.out, hv.mono (by omega), hb.old⟩
end Go.Proofs.Ytdjpkgaicmklmaa

/- What is newer, of the program: later, cardAt, NewerClocks, NewerCards: walked. -/
namespace Go.Proofs.Ytdjpkgaicmklmaa
open Go.RowKit

set_option maxRecDepth 100000 in
set_option maxHeartbeats 4000000 in
theorem plater_any (a b : Cd) (w : World) :
    Calls Try.prog 153 #[cdV a, cdV b] w fun e w' => e = .returned (.bool (laterB a b)) ∧ Below w.heap.size w w' := by
  obtain ⟨hA, hB, hs, hb⟩ := two_boxes w 69 69 a.cells.toArray b.cells.toArray
  have a1 := hA.cell 1; have a2 := hA.cell 2
  have b1 := hB.cell 1; have b2 := hB.cell 2
  dsimp only [List.getElem?_cons_zero, List.getElem?_cons_succ] at a1 a2 b1 b2
  have HB : Hid (Below w.heap.size w ((w.alloc (.cells a.cells.toArray 69)).alloc (.cells b.cells.toArray 69))) := hb
  have HL : Hid (laterB a b = (decide (b.count < a.count) || (a.count == b.count && decide (b.site < a.site)))) := by
    show _ = _; unfold laterB; first | rfl | (simp; done)
  clear hA hB hs hb
  by_cases h2 : a.count = b.count
  · have q : (a.count != b.count) = false := by simp [h2]
    have E : Hid (laterB a b = decide (b.site < a.site)) := by show _ = _; rw [HL.out]; simp [h2]
    clear HL h2
    go_enter Try.func153, Try.ntmps153
    go_wp2_with fail
    go_ret
    exact ⟨by rw [E.out]; rfl, HB.out⟩
  · have q : (a.count != b.count) = true := by simp [h2]
    have E : Hid (laterB a b = decide (b.count < a.count)) := by show _ = _; rw [HL.out]; simp [h2]
    clear HL h2
    go_enter Try.func153, Try.ntmps153
    go_wp2_with fail
    go_ret
    exact ⟨by rw [E.out]; rfl, HB.out⟩

/-- The place of a card's number, or the end. -/
def cardIx (L : List Cd) (id : Int) : Nat := L.findIdx fun c => c.id == id
theorem cardIx_hit {L : List Cd} {id : Int} {k : Nat} (hk : k < L.length) (h : ((L.getD k cd0).id == id) = true) (hno : ∀ j, j < k → ((L.getD j cd0).id == id) = false) : cardIx L id = k := by
  unfold cardIx
  rw [List.findIdx_eq hk]
  refine ⟨by simpa [List.getD, hk] using h, fun j hj => ?_⟩
  have := hno j hj
  simpa [List.getD, show j < L.length by omega] using this
theorem cardIx_none {L : List Cd} {id : Int} (hno : ∀ j, j < L.length → ((L.getD j cd0).id == id) = false) : cardIx L id = L.length := by
  unfold cardIx
  apply List.findIdx_eq_length_of_false
  intro c hc
  obtain ⟨j, hj, rfl⟩ := List.mem_iff_getElem.1 hc
  have := hno j hj
  simpa [List.getD, hj] using this
theorem cardIx_le (L : List Cd) (id : Int) : cardIx L id ≤ L.length := List.findIdx_le_length
theorem cardIx_look : ∀ (L : List Cd) (id : Int), look Cd.id L id = if cardIx L id < L.length then some (L.getD (cardIx L id) cd0) else none
  | [], id => rfl
  | c :: L, id => by
    have ih := cardIx_look L id
    unfold cardIx at ih ⊢
    simp only [look, List.findIdx_cons]
    by_cases e : c.id = id
    · simp [e]
    · have : (c.id == id) = false := by rw [beq_eq_false_iff_ne]; exact e
      rw [if_neg e, this, ih]
      simp
theorem newP_end {L : List Cd} {c : Cd} (h : ¬ cardIx L c.id < L.length) : newP L c = true := by
  unfold newP; rw [cardIx_look, if_neg h]
theorem newP_in {L : List Cd} {c : Cd} (h : cardIx L c.id < L.length) : newP L c = laterB c (L.getD (cardIx L c.id) cd0) := by
  unfold newP; rw [cardIx_look, if_pos h]
theorem clk_list {O : List Ck} {n : Nat} (hn : n = O.length) (s : Int) : (clockTo (fun i => O.getD i ck0) s n).getD 0 = clkOf O s := by
  subst hn
  rw [clockTo_look, range_getD]
  unfold clkOf
  cases look Ck.site O s <;> rfl
theorem take_clock (E : List Ck) (i : Nat) (h : i < E.length) : E.take (i + 1) = E.take i ++ [E.getD i ck0] := by
  rw [List.take_succ_eq_append_getElem h, List.getD_eq_getElem?_getD, List.getElem?_eq_getElem h]; rfl
theorem take_card (E : List Cd) (i : Nat) (h : i < E.length) : E.take (i + 1) = E.take i ++ [E.getD i cd0] := by
  rw [List.take_succ_eq_append_getElem h, List.getD_eq_getElem?_getD, List.getElem?_eq_getElem h]; rfl

set_option maxHeartbeats 2000000 in
theorem pcardAt_any (L : List Cd) (a : Option Addr) (n cap : Nat) (id : Int) (w : World) (hn : n = L.length) (hn2 : n ≤ 140737488355328) (hL : Lies w a n 5 (fun i => (L.getD i cd0).cells)) :
    Calls Try.prog 152 #[.slice a n cap, .int .i64 id] w fun e w' => e = .returned (.int .i64 (cardIx L id : Int)) ∧ w' = w := by
  have HL : Hid (n = L.length) := hn
  clear hn
  go_enter Try.func152, Try.ntmps152
  go_wp2
  go_loop [5] (fun i => ∃ k : Nat, k ≤ n ∧ i = .int .i64 k ∧ (∀ j, j < k → ((L.getD j cd0).id == id) = false)) (fun i => n - (intOf i).toNat)
  case atStart => exact ⟨0, Nat.zero_le _, rfl, fun j hj => by omega⟩
  case round =>
    obtain ⟨k, hk, rfl, hno⟩ := hrel
    have HN : Hid (∀ j, j < k → ((L.getD j cd0).id == id) = false) := hno
    clear hno
    by_cases hlt : k < n
    · obtain ⟨b, o, hbl, hix, c0, c1, c2, c3, c4⟩ := Lies.card (c := fun i => L.getD i cd0) hL cap hlt
      have HE : Hid (((L.getD k cd0).id == id) = true → cardIx L id = k) := fun hq => cardIx_hit (by rw [← HL.out]; exact hlt) hq HN.out
      have HQ : Hid (((L.getD k cd0).id == id) = false → ∀ j, j < k + 1 → ((L.getD j cd0).id == id) = false) := fun hq j hj => by rcases Nat.lt_or_ge j k with h | h; (exact HN.out j h); (rw [show j = k by omega]; exact hq)
      generalize L.getD k cd0 = c at *
      cases hq : (c.id == id) with
      | true =>
        have E : Hid (cardIx L id = k) := HE.out hq
        go_wp2
        go_ret
        exact ⟨ret_int (by rw [E.out]), rfl⟩
      | false =>
        have E : Hid (∀ j, j < k + 1 → ((L.getD j cd0).id == id) = false) := HQ.out hq
        go_wp2
        go_round
        case rel => exact ⟨k + 1, by omega, by go_num, E.out⟩
        case measure => simp [intOf]; omega
    · have e1 : k = n := by omega
      have E : Hid (cardIx L id = n) := by
        show _ = _
        rw [HL.out]; exact cardIx_none (fun j hj => HN.out j (by have := HL.out; omega))
      clear e1
      go_wp2
      go_ret
      exact ⟨ret_int (by rw [E.out]), rfl⟩

set_option maxRecDepth 100000 in
set_option maxHeartbeats 4000000 in
theorem newerClocks_any (O R : List Ck) (a b : Option Addr) (n m ca cb : Nat) (w : World) (hO : Lies w a n 2 (fun i => (O.getD i ck0).cells)) (hR : Lies w b m 2 (fun i => (R.getD i ck0).cells)) (hn : n = O.length) (hm : m = R.length) (hn2 : n ≤ 1099511627776) (hm2 : m ≤ 1099511627776) :
    Calls Try.prog 137 #[.slice a n ca, .slice b m cb] w fun e w' => ∃ ad cap N, e = .returned (.slice ad N cap) ∧ N = (newK O R).length ∧ Vec w' w.heap.size 67 2 ad N cap (kcells (newK O R)) ∧ Below w.heap.size w w' := by
  have hV0 : Hid (Vec (w.alloc (.cells #[] 67)) w.heap.size 67 2 (some ⟨w.heap.size, 0, none⟩) 0 0 (kcells [])) := Vec.lit w w.heap.size 67 2 0 [] (Nat.le_refl _) (by omega) rfl
  have HN : Hid (n = O.length) := hn
  have HM : Hid (m = R.length) := hm
  have HO : Hid (Lies w a n 2 (fun i => (O.getD i ck0).cells)) := hO
  have HR : Hid (Lies w b m 2 (fun i => (R.getD i ck0).cells)) := hR
  clear hn hm hO hR
  go_enter Try.func137, Try.ntmps137
  go_wp2_with fail
  go_loopw [5, 6, 7] (fun v u _ wr => ∃ (i : Nat) (ad : Option Addr) (cap N : Nat), i ≤ m ∧ u = .int .i64 i ∧ v = .slice ad N cap ∧ N = (newK O (R.take i)).length ∧ N ≤ i ∧ Vec wr w.heap.size 67 2 ad N cap (kcells (newK O (R.take i))) ∧ Below w.heap.size w wr) (fun _ u _ _ => m - (intOf u).toNat)
  case atStart => exact ⟨0, _, _, 0, by omega, rfl, rfl, rfl, by omega, hV0.out, (Below.refl _ _).alloc (Nat.le_refl _) _⟩
  case round =>
    obtain ⟨i, ad, cap, N, hi, rfl, rfl, hN, hNi, hv, hb⟩ := hrel
    have HNN : Hid (N = (newK O (R.take i)).length) := hN
    clear hN
    by_cases hlt : i < m
    · have hil : i < R.length := by rw [← HM.out]; exact hlt
      obtain ⟨bb, ob, hblb, hixb, e0, e1⟩ := Lies.clock (c := fun i => R.getD i ck0) (HR.out.below hb) cb hlt
      have HT : Hid (newK O (R.take (i + 1)) = if clkOf O (R.getD i ck0).site < (R.getD i ck0).count then newK O (R.take i) ++ [R.getD i ck0] else newK O (R.take i)) := by
        show _ = _; rw [take_clock R i hil, newK_snoc]
      clear hil
      generalize R.getD i ck0 = c at *
      go_wp2_with fail
      refine (countOf_any a n ca (fun i => O.getD i ck0) c.site _ (by omega) (HO.out.below hb)).mono ?_
      rintro e w1 ⟨rfl, rfl⟩
      rw [clk_list HN.out]
      have hz := hb.size
      have HBA : Hid (∀ o : Obj, Below w.heap.size w (w1.alloc o)) := fun o => hb.alloc hb.size o
      by_cases hp : clkOf O c.site < c.count
      · rw [if_pos hp] at HT
        generalize clkOf O c.site = x at *
        go_wp2_with (at_builtin; refine wpList_push (by rfl) _ _ 22 (by rfl) w.heap.size 67 2 16 (.agg #[.int .i64 0, .int .i64 0]) Try.underlying22 (by kernel_rfl) rfl (by decide) ad N cap _ (by rfl) (hv.keep ((Below.refl _ _).alloc (Nat.le_refl _) _)) _ _ c.cells (by rfl) rfl ?_ ?_ ?_ ?_ ?_ ?_; exact new_cells _ _ _; exact ones1 _; (omega); (omega); (simp; omega); intro ad' cap' w' hv' hb' hs')
        go_roundw
        case rel => exact ⟨i + 1, ad', cap', N + 1, by omega, by go_num, rfl, by rw [HT.out, List.length_append, ← HNN.out]; rfl, by omega, by rw [HT.out, kcells_app]; simpa [kcells] using hv', (HBA.out _).trans hb'⟩
        case measure => simp [intOf]; omega
      · rw [if_neg hp] at HT
        generalize clkOf O c.site = x at *
        go_wp2_with fail
        go_roundw
        case rel => exact ⟨i + 1, ad, cap, N, by omega, by go_num, rfl, by rw [HT.out]; exact HNN.out, by omega, by rw [HT.out]; exact hv, hb⟩
        case measure => simp [intOf]; omega
    · obtain rfl : m = i := by omega
      have HE : Hid (newK O (R.take m) = newK O R) := by show _ = _; rw [HM.out, List.take_length]
      go_wp2_with fail
      go_ret
      exact ⟨ad, cap, N, rfl, by rw [← HE.out]; exact HNN.out, by rw [← HE.out]; exact hv, hb⟩

set_option maxRecDepth 100000 in
set_option maxHeartbeats 4000000 in
theorem newerCards_any (O R : List Cd) (a b : Option Addr) (n m ca cb : Nat) (w : World) (hO : Lies w a n 5 (fun i => (O.getD i cd0).cells)) (hR : Lies w b m 5 (fun i => (R.getD i cd0).cells)) (hn : n = O.length) (hm : m = R.length) (hn2 : n ≤ 1099511627776) (hm2 : m ≤ 1099511627776) :
    Calls Try.prog 138 #[.slice a n ca, .slice b m cb] w fun e w' => ∃ ad cap N, e = .returned (.slice ad N cap) ∧ N = (newC O R).length ∧ Vec w' w.heap.size 69 5 ad N cap (ccells (newC O R)) ∧ Below w.heap.size w w' := by
  have hV0 : Hid (Vec (w.alloc (.cells #[] 69)) w.heap.size 69 5 (some ⟨w.heap.size, 0, none⟩) 0 0 (ccells [])) := Vec.lit w w.heap.size 69 5 0 [] (Nat.le_refl _) (by omega) rfl
  have HN : Hid (n = O.length) := hn
  have HM : Hid (m = R.length) := hm
  have HO : Hid (Lies w a n 5 (fun i => (O.getD i cd0).cells)) := hO
  have HR : Hid (Lies w b m 5 (fun i => (R.getD i cd0).cells)) := hR
  clear hn hm hO hR
  go_enter Try.func138, Try.ntmps138
  go_wp2_with fail
  go_loopw [5, 6, 7] (fun v u _ wr => ∃ (i : Nat) (ad : Option Addr) (cap N : Nat), i ≤ m ∧ u = .int .i64 i ∧ v = .slice ad N cap ∧ N = (newC O (R.take i)).length ∧ N ≤ i ∧ Vec wr w.heap.size 69 5 ad N cap (ccells (newC O (R.take i))) ∧ Below w.heap.size w wr) (fun _ u _ _ => m - (intOf u).toNat)
  case atStart => exact ⟨0, _, _, 0, by omega, rfl, rfl, rfl, by omega, hV0.out, (Below.refl _ _).alloc (Nat.le_refl _) _⟩
  case round =>
    obtain ⟨i, ad, cap, N, hi, rfl, rfl, hN, hNi, hv, hb⟩ := hrel
    have HNN : Hid (N = (newC O (R.take i)).length) := hN
    clear hN
    by_cases hlt : i < m
    · have hil : i < R.length := by rw [← HM.out]; exact hlt
      obtain ⟨bb, ob, hblb, hixb, e0, e1, e2, e3, e4⟩ := Lies.card (c := fun i => R.getD i cd0) (HR.out.below hb) cb hlt
      have HT : Hid (newC O (R.take (i + 1)) = if newP O (R.getD i cd0) = true then newC O (R.take i) ++ [R.getD i cd0] else newC O (R.take i)) := by
        show _ = _; rw [take_card R i hil, newC_snoc]
      clear hil
      generalize R.getD i cd0 = c at *
      go_wp2_with fail
      refine (pcardAt_any O a n ca c.id _ HN.out (by omega) (HO.out.below hb)).mono ?_
      rintro e w1 ⟨rfl, rfl⟩
      have hz := hb.size
      have HV : Hid (∀ X, Below w1.heap.size w1 X → Vec X w.heap.size 69 5 ad N cap (ccells (newC O (R.take i))) ∧ Below w.heap.size w X ∧ w.heap.size ≤ X.heap.size) := fun X h => ⟨hv.keep h, hb.trans (h.mono hb.size), Nat.le_trans hb.size h.size⟩
      have HO1 : Hid (Lies w1 a n 5 (fun i => (O.getD i cd0).cells)) := HO.out.below hb
      have HLE : Hid (cardIx O c.id ≤ n) := by show _ ≤ _; rw [HN.out]; exact cardIx_le _ _
      clear hv hb
      by_cases hq : cardIx O c.id < n
      · obtain ⟨bo, oo, hblo, hixo, f0, f1, f2, f3, f4⟩ := Lies.card (c := fun i => O.getD i cd0) HO1.out ca hq
        have HP : Hid (newP O c = laterB c (O.getD (cardIx O c.id) cd0)) := newP_in (by rw [← HN.out]; exact hq)
        generalize O.getD (cardIx O c.id) cd0 = d at *
        generalize cardIx O c.id = q at *
        have hqn : ((q : Int) == (n : Int)) = false := by rw [beq_eq_false_iff_ne]; omega
        go_wp2_with fail
        go_region_held3 (fun w' => w'.cell? ⟨bb, ob, none⟩ = some (.int .i64 c.id) ∧ w'.cell? ⟨bb, ob + 1, none⟩ = some (.int .i64 c.site) ∧ w'.cell? ⟨bb, ob + 2, none⟩ = some (.int .i64 c.count) ∧ w'.cell? ⟨bb, ob + 3, none⟩ = some (.bool c.gone) ∧ w'.cell? ⟨bb, ob + 4, none⟩ = some (.string c.text) ∧
             w'.cell? ⟨bo, oo, none⟩ = some (.int .i64 d.id) ∧ w'.cell? ⟨bo, oo + 1, none⟩ = some (.int .i64 d.site) ∧ w'.cell? ⟨bo, oo + 2, none⟩ = some (.int .i64 d.count) ∧ w'.cell? ⟨bo, oo + 3, none⟩ = some (.bool d.gone) ∧ w'.cell? ⟨bo, oo + 4, none⟩ = some (.string d.text)) (first | (go_keep; done) | (simp only [hcc bb _ hblb, hcc bo _ hblo]; go_keep; done))
             (first | (go_at_call 153; refine (plater_any c d _).mono ?_; rintro e w' ⟨rfl, hb2⟩; obtain ⟨hcc, hff⟩ := bcell hb2))
        have hbw : Below w1.heap.size w1 w' := Below.trans (by (repeat (first | exact Below.refl _ _ | refine Below.drew ?_))) hb2
        obtain ⟨hvX, hbX, hzX⟩ := HV.out w' hbw
        replace e0 := (hbw.cell (p := ⟨bb, ob, none⟩) hblb).trans e0
        replace e1 := (hbw.cell (p := ⟨bb, ob + 1, none⟩) hblb).trans e1
        replace e2 := (hbw.cell (p := ⟨bb, ob + 2, none⟩) hblb).trans e2
        replace e3 := (hbw.cell (p := ⟨bb, ob + 3, none⟩) hblb).trans e3
        replace e4 := (hbw.cell (p := ⟨bb, ob + 4, none⟩) hblb).trans e4
        clear hbw hb2 hcc hff HV
        cases hl : laterB c d with
        | true =>
          rw [HP.out, if_pos hl] at HT
          clear HP hl
          go_wp2_with (at_builtin; refine wpList_push (by rfl) _ _ 23 (by rfl) w.heap.size 69 5 48 (.agg #[.int .i64 0, .int .i64 0, .int .i64 0, .bool false, .string ⟨#[]⟩]) Try.underlying23 (by kernel_rfl) rfl (by decide) ad N cap _ (by rfl) (hvX.keep ((Below.refl _ _).alloc (Nat.le_refl _) _)) _ _ c.cells (by rfl) rfl ?_ ?_ ?_ ?_ ?_ ?_; exact new_cells _ _ _; exact ones2 _; (omega); (omega); (simp; omega); intro ad' cap' w9 hv' hb' hs')
          go_roundw
          case rel => exact ⟨i + 1, ad', cap', N + 1, by omega, by go_num, rfl, by rw [HT.out, List.length_append, ← HNN.out]; rfl, by omega, by rw [HT.out, ccells_app]; simpa [ccells] using hv', (hbX.alloc hzX _).trans hb'⟩
          case measure => simp [intOf]; omega
        | false =>
          rw [HP.out, if_neg (by rw [hl]; decide)] at HT
          clear HP hl
          go_wp2_with fail
          go_roundw
          case rel => exact ⟨i + 1, ad, cap, N, by omega, by go_num, rfl, by rw [HT.out]; exact HNN.out, by omega, by rw [HT.out]; exact hvX, hbX⟩
          case measure => simp [intOf]; omega
      · have HP : Hid (newP O c = true) := newP_end (by rw [← HN.out]; exact hq)
        have hqe : cardIx O c.id = n := by have := HLE.out; omega
        rw [hqe]
        rw [HP.out, if_pos rfl] at HT
        clear hqe hq HLE HP
        have hqn : ((n : Int) == (n : Int)) = true := by simp
        go_wp2_with fail
        go_quiet (fail)
        have hvx := fun (k : Nat) => (HV.out _ (below_drewN (Below.refl w1.heap.size w1) k)).1
        go_wp2_with (at_builtin; refine wpList_push (by rfl) _ _ 23 (by rfl) w.heap.size 69 5 48 (.agg #[.int .i64 0, .int .i64 0, .int .i64 0, .bool false, .string ⟨#[]⟩]) Try.underlying23 (by kernel_rfl) rfl (by decide) ad N cap _ (by rfl) ((hvx _).keep ((Below.refl _ _).alloc (Nat.le_refl _) _)) _ _ c.cells (by rfl) rfl ?_ ?_ ?_ ?_ ?_ ?_; exact new_cells _ _ _; exact ones2 _; (omega); (omega); (simp; omega); intro ad' cap' w' hv' hb' hs')
        go_roundw
        case rel => exact ⟨i + 1, ad', cap', N + 1, by omega, by go_num, rfl, by rw [HT.out, List.length_append, ← HNN.out]; rfl, by omega, by rw [HT.out, ccells_app]; simpa [ccells] using hv', ((HV.out _ (below_drewN (Below.refl _ _) _)).2.1.alloc (HV.out _ (below_drewN (Below.refl _ _) _)).2.2 _).trans hb'⟩
        case measure => simp [intOf]; omega
    · obtain rfl : m = i := by omega
      have HE : Hid (newC O (R.take m) = newC O R) := by show _ = _; rw [HM.out, List.take_length]
      go_wp2_with fail
      go_ret
      exact ⟨ad, cap, N, rfl, by rw [← HE.out]; exact HNN.out, by rw [← HE.out]; exact hv, hb⟩
end Go.Proofs.Ytdjpkgaicmklmaa

/- clocksOver of the program: one rising list laid over another: walked. -/
namespace Go.Proofs.Ytdjpkgaicmklmaa
open Go.RowKit

section
variable {P : Program} {w : World} {ops : Array Oper} {rest : List Oper} {o : Oper} {a : Act} {Q : Exit → Act → World → Prop}
/-- 'l[k:]': the list behind, its address a name. -/
theorem wpList_tailm (hgd : o.guard = none) (t : TypeId) (x lo : Operand) (ho : o.op = .slice t x (some lo) none none) (ht : P.underlying t = some (.slice (P.elem t))) (m : Nat) (hs : (P.info? (P.elem t)).map (·.size) = some m)
    (ad : Option Addr) (n cap k : Nat) (K : Int) (hx : a.eval x = .slice ad n cap) (hlo : a.eval lo = .int .i64 K) (hK : K = (k : Int)) (hk : k ≤ n) (f : Nat → List Value) (hL : Lies w ad n m f) (hc : n ≤ cap)
    (h : ∀ ad', Lies w ad' (n - k) m (fun i => f (k + i)) → wpList P ops Q rest (a.put o.dst (.slice ad' (n - k) (cap - k))) w) : wpList P ops Q (o :: rest) a w := by
  subst hK
  cases hq : P.info? (P.elem t) with
  | none => simp [hq] at hs
  | some i =>
    have hi : i.size = m := by simpa [hq] using hs
    have hz : (sizeOf (P.elem t)).run P w = .ok m w := by simp [sizeOf, typeInfo, hq, hi]
    have hrun : (Instr.sliceAt t (.slice ad n cap) (some (.int .i64 (k : Int))) none none).run P w = .ok (.slice (if cap = k then ad else ad.map (·.add (k * m))) (n - k) (cap - k)) w := by
      rw [run_sliceAt_slice w t _ _ _ _ ht, run_slice_l w t ad n cap ht .i64 (k : Int) (by omega) (by omega), hz]
      simp [sliced]
    refine wpList_plain hgd fun K hK => ?_
    unfold Oper.wp
    simp [execOp, ho, hx, hlo, hrun, Result.andThen]
    exact hK _ _ (h _ (hL.drop cap k hc))
end
theorem range_cells {α : Type} (cells : α → List Value) (z : α) (U : List α) (k : Nat) : ((List.range (U.length - k)).map fun j => cells (U.getD (k + j) z)).flatten = ((U.drop k).map cells).flatten := by
  congr 1
  apply List.ext_getElem?
  intro i
  by_cases hi : k + i < U.length
  · have h2 : i < U.length - k := by omega
    simp [hi, h2, List.getD]
  · have h2 : ¬ i < U.length - k := by omega
    simp [h2]
theorem range_ks (U : List Ck) (k : Nat) : ((List.range (U.length - k)).map fun j => (U.getD (k + j) ck0).cells).flatten = kcells (U.drop k) := range_cells Ck.cells ck0 U k
theorem range_cs (U : List Cd) (k : Nat) : ((List.range (U.length - k)).map fun j => (U.getD (k + j) cd0).cells).flatten = ccells (U.drop k) := range_cells Cd.cells cd0 U k

set_option maxRecDepth 100000 in
set_option maxHeartbeats 8000000 in
theorem clocksOver_any (U V : List Ck) (a b : Option Addr) (n m ca cb : Nat) (w : World) (hU : Lies w a n 2 (fun i => (U.getD i ck0).cells)) (hV : Lies w b m 2 (fun i => (V.getD i ck0).cells)) (hn : n = U.length) (hm : m = V.length) (hn2 : n ≤ 1099511627776) (hm2 : m ≤ 1099511627776) (hca : n ≤ ca) (hA : Asc Ck.site V) :
    Calls Try.prog 155 #[.slice a n ca, .slice b m cb] w fun e w' => ∃ ad cap N, e = .returned (.slice ad N cap) ∧ N = (layK Ck.site (fun _ c => c) U V).length ∧ Vec w' w.heap.size 67 2 ad N cap (kcells (layK Ck.site (fun _ c => c) U V)) ∧ Below w.heap.size w w' := by
  have hV0 : Hid (Vec (w.alloc (.cells #[] 67)) w.heap.size 67 2 (some ⟨w.heap.size, 0, none⟩) 0 0 (kcells [])) := Vec.lit w w.heap.size 67 2 0 [] (Nat.le_refl _) (by omega) rfl
  have HN : Hid (n = U.length) := hn
  have HM : Hid (m = V.length) := hm
  have HU : Hid (Lies w a n 2 (fun i => (U.getD i ck0).cells)) := hU
  have HV : Hid (Lies w b m 2 (fun i => (V.getD i ck0).cells)) := hV
  have HA : Hid (Asc Ck.site V) := hA
  clear hn hm hU hV hA
  go_enter Try.func155, Try.ntmps155
  go_wp2_with fail
  go_loopw [5, 6, 7] (fun v x u wr => ∃ (i k : Nat) (ad : Option Addr) (cap N : Nat) (L : List Ck), i ≤ m ∧ k ≤ n ∧ u = .int .i64 i ∧ x = .int .i64 k ∧ v = .slice ad N cap ∧ N = L.length ∧ N ≤ i + k ∧ L ++ U.drop k = layK Ck.site (fun _ c => c) U (V.take i) ∧ (∀ x ∈ L, ∀ j, i ≤ j → j < V.length → Ck.site x < Ck.site (V.getD j ck0)) ∧ Vec wr w.heap.size 67 2 ad N cap (kcells L) ∧ Below w.heap.size w wr) (fun _ _ u _ => m - (intOf u).toNat)
  case atStart => exact ⟨0, 0, _, _, 0, [], by omega, by omega, rfl, rfl, rfl, rfl, by omega, by simp [layK], (fun x hx => by cases hx), hV0.out, (Below.refl _ _).alloc (Nat.le_refl _) _⟩
  case round =>
    clear hV0
    obtain ⟨i, k, ad, cap, N, L, hi, hk, rfl, rfl, rfl, hN, hNi, hS, hlow, hv, hb⟩ := hrel
    have HNN : Hid (N = L.length) := hN
    have HS : Hid (L ++ U.drop k = layK Ck.site (fun _ c => c) U (V.take i)) := hS
    have HLOW : Hid (∀ x ∈ L, ∀ j, i ≤ j → j < V.length → Ck.site x < Ck.site (V.getD j ck0)) := hlow
    clear hN hS hlow
    by_cases hlt : i < m
    · have hil : i < V.length := by rw [← HM.out]; exact hlt
      have HVB : Hid (∀ X, Below w.heap.size w X → Lies X b m 2 (fun i => (V.getD i ck0).cells)) := fun X h => HV.out.below h
      have HT : Hid (layK Ck.site (fun _ c => c) U (V.take (i + 1)) = putK Ck.site (fun _ c => c) (layK Ck.site (fun _ c => c) U (V.take i)) (V.getD i ck0)) := by
        show _ = _; rw [take_clock V i hil, lay_snoc]
      have HUP : Hid (∀ j, i < j → j < V.length → Ck.site (V.getD i ck0) < Ck.site (V.getD j ck0)) := fun j h1 h2 => by
        have := List.pairwise_iff_getElem.1 HA.out i j hil h2 h1
        simpa [List.getD, hil, h2] using this
      have HL0 : Hid (∀ x ∈ L, Ck.site x < Ck.site (V.getD i ck0)) := fun x hx => HLOW.out x hx i (Nat.le_refl _) hil
      have HV5 : Hid (Vec wr w.heap.size 67 2 ad N cap (kcells L)) := hv
      have HB5 : Hid (Below w.heap.size w wr) := hb
      generalize layK Ck.site (fun _ c => c) U (V.take i) = S at *
      generalize hwr : wr = w5 at *
      clear hv hb hwr HLOW hil
      go_wp2_with fail
      go_loopw [5, 6] (fun v x wr => ∃ (k : Nat) (ad : Option Addr) (cap N : Nat) (L : List Ck), k ≤ n ∧ x = .int .i64 k ∧ v = .slice ad N cap ∧ N = L.length ∧ N ≤ i + k ∧ L ++ U.drop k = S ∧ (∀ x ∈ L, Ck.site x < Ck.site (V.getD i ck0)) ∧ Vec wr w.heap.size 67 2 ad N cap (kcells L) ∧ Below w.heap.size w wr) (fun _ x _ => n - (intOf x).toNat)
      case atStart => exact ⟨k, ad, cap, N, L, hk, rfl, rfl, HNN.out, hNi, HS.out, HL0.out, HV5.out, HB5.out⟩
      case round =>
        clear HNN HS HL0 HV5 HB5 hk hNi
        obtain ⟨k, ad, cap, N, L, hk, rfl, rfl, hN, hNi, hS, hlow, hv, hb⟩ := hrel
        have HNN : Hid (N = L.length) := hN
        have HS : Hid (L ++ U.drop k = S) := hS
        have HLOW : Hid (∀ x ∈ L, Ck.site x < Ck.site (V.getD i ck0)) := hlow
        clear hN hS hlow
        obtain ⟨bv, ov, hblv, hixv, e0, e1⟩ := Lies.clock (c := fun i => V.getD i ck0) (HVB.out _ hb) cb hlt
        have hz := hb.size
        have HALL : Hid (∀ X, Below wr.heap.size wr X → Vec X w.heap.size 67 2 ad N cap (kcells L) ∧ Below w.heap.size w X ∧ w.heap.size ≤ X.heap.size) := fun X h => ⟨hv.keep h, hb.trans (h.mono hb.size), Nat.le_trans hb.size h.size⟩
        by_cases hlk : k < n
        · have hkl : k < U.length := by rw [← HN.out]; exact hlk
          obtain ⟨bu, ou, hblu, hixu, f0, f1⟩ := Lies.clock (c := fun i => U.getD i ck0) (HU.out.below hb) ca hlk
          have HD : Hid (U.drop k = U.getD k ck0 :: U.drop (k + 1)) := by
            show _ = _; rw [List.drop_eq_getElem_cons hkl]; simp [List.getD, hkl]
          have hd1 : decide ((k : Int) < (n : Int)) = true := by simp; exact hlk
          clear hkl hv hb
          by_cases hq : Ck.site (U.getD k ck0) < Ck.site (V.getD i ck0)
          · have HQ : Hid (Ck.site (U.getD k ck0) < Ck.site (V.getD i ck0)) := hq
            have hd2 : decide (Ck.site (U.getD k ck0) < Ck.site (V.getD i ck0)) = true := decide_eq_true hq
            clear hq
            generalize U.getD k ck0 = u at *
            generalize V.getD i ck0 = c at *
            go_wp2_with fail
            go_quiet (fail)
            generalize hX : wr.drewN _ = X
            have hbX : Below wr.heap.size wr X := by rw [← hX]; exact below_drewN (Below.refl _ _) _
            obtain ⟨hvX, hbw, hzX⟩ := HALL.out X hbX
            replace f0 := (hbX.cell (p := ⟨bu, ou, none⟩) hblu).trans f0; replace f1 := (hbX.cell (p := ⟨bu, ou + 1, none⟩) hblu).trans f1
            clear hX HALL
            go_wp2_with (at_builtin; refine wpList_push (by rfl) _ _ 22 (by rfl) w.heap.size 67 2 16 (.agg #[.int .i64 0, .int .i64 0]) Try.underlying22 (by kernel_rfl) rfl (by decide) ad N cap _ (by rfl) (hvX.keep ((Below.refl _ _).alloc (Nat.le_refl _) _)) _ _ u.cells (by rfl) rfl ?_ ?_ ?_ ?_ ?_ ?_; exact new_cells _ _ _; exact ones1 _; (omega); (omega); (simp; omega); intro ad' cap' w' hv' hb' hs')
            go_roundw
            case rel => exact ⟨k + 1, ad', cap', N + 1, L ++ [u], by omega, by go_num, rfl, by rw [List.length_append, ← HNN.out]; rfl, by omega, by rw [← HS.out, HD.out]; simp, fun x hx => by rcases List.mem_append.1 hx with h | h; (exact HLOW.out x h); (simp at h; subst h; exact HQ.out), by rw [kcells_app]; simpa [kcells] using hv', (hbw.alloc hzX _).trans hb'⟩
            case measure => simp [intOf]; omega
          · have HQ : Hid (¬ Ck.site (U.getD k ck0) < Ck.site (V.getD i ck0)) := hq
            have hd2 : decide (Ck.site (U.getD k ck0) < Ck.site (V.getD i ck0)) = false := decide_eq_false hq
            clear hq
            have HCS : Hid ((∀ x ∈ L ++ [V.getD i ck0], ∀ j, i + 1 ≤ j → j < V.length → Ck.site x < Ck.site (V.getD j ck0))) := fun x hx j h1 h2 => by
              have hc := HUP.out j (by omega) h2
              rcases List.mem_append.1 hx with h | h
              · have := HLOW.out x h; omega
              · simp at h; subst h; exact hc
            generalize hu : U.getD k ck0 = u at *
            generalize hcg : V.getD i ck0 = c at *
            clear hu hcg
            go_wp2_with fail
            go_quiet (fail)
            generalize hX : wr.drewN _ = X
            have hbX : Below wr.heap.size wr X := by rw [← hX]; exact below_drewN (Below.refl _ _) _
            obtain ⟨hvX, hbw, hzX⟩ := HALL.out X hbX
            replace f0 := (hbX.cell (p := ⟨bu, ou, none⟩) hblu).trans f0; replace f1 := (hbX.cell (p := ⟨bu, ou + 1, none⟩) hblu).trans f1
            replace e0 := (hbX.cell (p := ⟨bv, ov, none⟩) hblv).trans e0; replace e1 := (hbX.cell (p := ⟨bv, ov + 1, none⟩) hblv).trans e1
            clear hX HALL
            by_cases he : Ck.site u = Ck.site c
            · have HE : Hid (Ck.site u = Ck.site c) := he
              have hd3 : (Ck.site u == Ck.site c) = true := by simp [he]
              clear he
              have HALL : Hid (∀ Y, Below X.heap.size X Y → Vec Y w.heap.size 67 2 ad N cap (kcells L) ∧ Below w.heap.size w Y ∧ w.heap.size ≤ Y.heap.size) := fun Y h => ⟨hvX.keep h, hbw.trans (h.mono hzX), Nat.le_trans hzX h.size⟩
              go_wp2_with fail
              go_quiet (fail)
              generalize hY : X.drewN _ = Y
              have hbY : Below X.heap.size X Y := by rw [← hY]; exact below_drewN (Below.refl _ _) _
              obtain ⟨hvY, hbwY, hzY⟩ := HALL.out Y hbY
              replace e0 := (hbY.cell (p := ⟨bv, ov, none⟩) (Nat.lt_of_lt_of_le hblv hbX.size)).trans e0; replace e1 := (hbY.cell (p := ⟨bv, ov + 1, none⟩) (Nat.lt_of_lt_of_le hblv hbX.size)).trans e1
              clear hY HALL hvX hbw hzX
              go_wp2_with (at_builtin; refine wpList_push (by rfl) _ _ 22 (by rfl) w.heap.size 67 2 16 (.agg #[.int .i64 0, .int .i64 0]) Try.underlying22 (by kernel_rfl) rfl (by decide) ad N cap _ (by rfl) (hvY.keep ((Below.refl _ _).alloc (Nat.le_refl _) _)) _ _ c.cells (by rfl) rfl ?_ ?_ ?_ ?_ ?_ ?_; exact new_cells _ _ _; exact ones1 _; (omega); (omega); (simp; omega); intro ad' cap' w' hv' hb' hs')
              go_roundw
              case rel => exact ⟨i + 1, k + 1, ad', cap', N + 1, L ++ [c], by omega, by omega, by go_num, by go_num, rfl, by rw [List.length_append, ← HNN.out]; rfl, by omega, by rw [HT.out, ← HS.out, HD.out, put_app Ck.site _ HLOW.out, put_eq Ck.site _ HE.out]; simp, HCS.out, by rw [kcells_app]; simpa [kcells] using hv', (hbwY.alloc hzY _).trans hb'⟩
              case measure => simp [intOf]; omega
            · have HE : Hid (Ck.site c < Ck.site u) := by have := HQ.out; show _ < _; omega
              have hd3 : (Ck.site u == Ck.site c) = false := by rw [beq_eq_false_iff_ne]; exact he
              clear he
              have HALL : Hid (∀ Y, Below X.heap.size X Y → Vec Y w.heap.size 67 2 ad N cap (kcells L) ∧ Below w.heap.size w Y ∧ w.heap.size ≤ Y.heap.size) := fun Y h => ⟨hvX.keep h, hbw.trans (h.mono hzX), Nat.le_trans hzX h.size⟩
              go_wp2_with fail
              go_quiet (fail)
              generalize hY : X.drewN _ = Y
              have hbY : Below X.heap.size X Y := by rw [← hY]; exact below_drewN (Below.refl _ _) _
              obtain ⟨hvY, hbwY, hzY⟩ := HALL.out Y hbY
              replace e0 := (hbY.cell (p := ⟨bv, ov, none⟩) (Nat.lt_of_lt_of_le hblv hbX.size)).trans e0; replace e1 := (hbY.cell (p := ⟨bv, ov + 1, none⟩) (Nat.lt_of_lt_of_le hblv hbX.size)).trans e1
              clear hY HALL hvX hbw hzX
              go_wp2_with (at_builtin; refine wpList_push (by rfl) _ _ 22 (by rfl) w.heap.size 67 2 16 (.agg #[.int .i64 0, .int .i64 0]) Try.underlying22 (by kernel_rfl) rfl (by decide) ad N cap _ (by rfl) (hvY.keep ((Below.refl _ _).alloc (Nat.le_refl _) _)) _ _ c.cells (by rfl) rfl ?_ ?_ ?_ ?_ ?_ ?_; exact new_cells _ _ _; exact ones1 _; (omega); (omega); (simp; omega); intro ad' cap' w' hv' hb' hs')
              go_roundw
              case rel => exact ⟨i + 1, k, ad', cap', N + 1, L ++ [c], by omega, by omega, by go_num, by go_num, rfl, by rw [List.length_append, ← HNN.out]; rfl, by omega, by rw [HT.out, ← HS.out, put_app Ck.site _ HLOW.out, HD.out, put_lt Ck.site _ HE.out]; simp, HCS.out, by rw [kcells_app]; simpa [kcells] using hv', (hbwY.alloc hzY _).trans hb'⟩
              case measure => simp [intOf]; omega
        · have hkn : k = n := by omega
          have HD : Hid (U.drop k = []) := by show _ = _; rw [hkn, HN.out]; exact List.drop_length
          have hd0 : ¬ (k : Int) < (n : Int) := by omega
          have hd1 : decide ((k : Int) < (n : Int)) = false := decide_eq_false hd0
          clear hkn
          have HCS : Hid ((∀ x ∈ L ++ [V.getD i ck0], ∀ j, i + 1 ≤ j → j < V.length → Ck.site x < Ck.site (V.getD j ck0))) := fun x hx j h1 h2 => by
              have hc := HUP.out j (by omega) h2
              rcases List.mem_append.1 hx with h | h
              · have := HLOW.out x h; omega
              · simp at h; subst h; exact hc
          generalize hcg : V.getD i ck0 = c at *
          clear hcg hv hb
          go_wp2_with fail
          go_quiet (fail)
          generalize hX : wr.drewN _ = X
          have hbX : Below wr.heap.size wr X := by rw [← hX]; exact below_drewN (Below.refl _ _) _
          obtain ⟨hvX, hbw, hzX⟩ := HALL.out X hbX
          replace e0 := (hbX.cell (p := ⟨bv, ov, none⟩) hblv).trans e0; replace e1 := (hbX.cell (p := ⟨bv, ov + 1, none⟩) hblv).trans e1
          clear hX HALL
          have HALL : Hid (∀ Y, Below X.heap.size X Y → Vec Y w.heap.size 67 2 ad N cap (kcells L) ∧ Below w.heap.size w Y ∧ w.heap.size ≤ Y.heap.size) := fun Y h => ⟨hvX.keep h, hbw.trans (h.mono hzX), Nat.le_trans hzX h.size⟩
          go_wp2_with fail
          go_quiet (fail)
          generalize hY : X.drewN _ = Y
          have hbY : Below X.heap.size X Y := by rw [← hY]; exact below_drewN (Below.refl _ _) _
          obtain ⟨hvY, hbwY, hzY⟩ := HALL.out Y hbY
          replace e0 := (hbY.cell (p := ⟨bv, ov, none⟩) (Nat.lt_of_lt_of_le hblv hbX.size)).trans e0; replace e1 := (hbY.cell (p := ⟨bv, ov + 1, none⟩) (Nat.lt_of_lt_of_le hblv hbX.size)).trans e1
          clear hY HALL hvX hbw hzX
          go_wp2_with (at_builtin; refine wpList_push (by rfl) _ _ 22 (by rfl) w.heap.size 67 2 16 (.agg #[.int .i64 0, .int .i64 0]) Try.underlying22 (by kernel_rfl) rfl (by decide) ad N cap _ (by rfl) (hvY.keep ((Below.refl _ _).alloc (Nat.le_refl _) _)) _ _ c.cells (by rfl) rfl ?_ ?_ ?_ ?_ ?_ ?_; exact new_cells _ _ _; exact ones1 _; (omega); (omega); (simp; omega); intro ad' cap' w' hv' hb' hs')
          go_roundw
          case rel => exact ⟨i + 1, k, ad', cap', N + 1, L ++ [c], by omega, by omega, by go_num, by go_num, rfl, by rw [List.length_append, ← HNN.out]; rfl, by omega, by rw [HT.out, ← HS.out, put_app Ck.site _ HLOW.out, HD.out]; simp [putK], HCS.out, by rw [kcells_app]; simpa [kcells] using hv', (hbwY.alloc hzY _).trans hb'⟩
          case measure => simp [intOf]; omega
    · obtain rfl : m = i := by omega
      have HE : Hid (L ++ U.drop k = layK Ck.site (fun _ c => c) U V) := by
        show _ = _; rw [HS.out, HM.out, List.take_length]
      have HLU : Hid (Lies wr a n 2 (fun i => (U.getD i ck0).cells)) := HU.out.below hb
      have hz := hb.size
      have u1 : (0 : Int) ≤ (k : Int) := by omega
      have u2 : (k : Int) ≤ (ca : Int) := by omega
      clear HS HLOW
      go_wp2_with (first
        | (refine wpList_tailm (by rfl) 22 _ _ (by rfl) (by kernel_rfl) 2 (by kernel_rfl) a n ca k _ (by rfl) (by rfl) (by omega) (by omega) _ HLU.out hca ?_; intro A9 HL9)
        | (at_builtin; refine wpList_pushAll (by rfl) _ _ 22 (by rfl) w.heap.size 67 2 16 (.agg #[.int .i64 0, .int .i64 0]) Try.underlying22 (by kernel_rfl) rfl (by decide) ad N cap _ (by rfl) hv A9 (n - k) (ca - k) (fun j => (U.getD (k + j) ck0).cells) (by rfl) HL9 (fun _ _ => rfl) (fun j _ => ones1 _) ?_ ?_ ?_ (N + (n - k)) ?_ ?_; (omega); (omega); (exact hz); (omega); intro ad5 cap5 w5 hv5 hb5 hs5))
      go_ret
      refine ⟨ad5, cap5, _, rfl, ?_, ?_, hb.trans hb5⟩
      · rw [← HE.out, List.length_append, List.length_drop, ← HNN.out, ← HN.out]
      · rw [← HE.out, kcells_app]
        have e : ((List.range (n - k)).map fun j => (U.getD (k + j) ck0).cells).flatten = kcells (U.drop k) := by
          rw [HN.out]; exact range_ks U k
        rw [e] at hv5; exact hv5
end Go.Proofs.Ytdjpkgaicmklmaa

/- A record takes its place among others: parcelref.clocked, walked. -/
namespace Go.Proofs.Ytdjpkgaicmklmaa
open Go.RowKit

section
variable {α : Type} (key : α → Int)
/-- One element more is looked at. -/
def stepI (c : α) (s : List α × Bool) (x : α) : List α × Bool :=
  let t : List α × Bool := if s.2 = false ∧ key c ≤ key x then (s.1 ++ [c], true) else s
  (if key x = key c then t.1 else t.1 ++ [x], t.2)
def runI (c : α) (l : List α) : List α × Bool := l.foldl (stepI key c) ([], false)
def finI (c : α) (s : List α × Bool) : List α := if s.2 = true then s.1 else s.1 ++ [c]
theorem runI_snoc (c : α) (l : List α) (x : α) : runI key c (l ++ [x]) = stepI key c (runI key c l) x := by unfold runI; rw [List.foldl_append]; rfl
theorem runI_true (c : α) : ∀ (l P : List α), (∀ x ∈ l, key c < key x) → l.foldl (stepI key c) (P, true) = (P ++ l, true)
  | [], P, _ => by simp
  | x :: l, P, h => by
    have h0 := h x (by simp)
    have e : stepI key c (P, true) x = (P ++ [x], true) := by
      unfold stepI; simp only [Bool.true_eq_false, false_and, if_false]; rw [if_neg (by omega)]
    rw [List.foldl_cons, e, runI_true c l _ (fun y hy => h y (by simp [hy]))]; simp
theorem runI_put (c : α) : ∀ (l P : List α), Asc key l → finI c (l.foldl (stepI key c) (P, false)) = P ++ putK key (fun _ c => c) l c
  | [], P, _ => by simp [finI, putK]
  | x :: l, P, h => by
    simp only [Asc, List.pairwise_cons] at h
    rw [List.foldl_cons]
    by_cases h1 : key x < key c
    · have e : stepI key c (P, false) x = (P ++ [x], false) := by
        unfold stepI; rw [if_neg (by intro q; omega)]; simp only; rw [if_neg (by omega)]
      rw [e, runI_put c l _ h.2, putK, if_pos h1]; simp
    · by_cases h2 : key x = key c
      · have e : stepI key c (P, false) x = (P ++ [c], true) := by
          unfold stepI; rw [if_pos ⟨rfl, by omega⟩]; simp only; rw [if_pos h2]
        rw [e, runI_true key c l _ (fun y hy => by have := h.1 y hy; omega), putK, if_neg h1, if_pos h2]; simp [finI]
      · have e : stepI key c (P, false) x = (P ++ [c] ++ [x], true) := by
          unfold stepI; rw [if_pos ⟨rfl, by omega⟩]; simp only; rw [if_neg h2]
        rw [e, runI_true key c l _ (fun y hy => by have := h.1 y hy; omega), putK, if_neg h1, if_neg h2]; simp [finI]
theorem fin_put (c : α) (l : List α) (h : Asc key l) : finI c (runI key c l) = putK key (fun _ c => c) l c := by
  have := runI_put key c l [] h; simpa [runI] using this
end
theorem runI_len {α : Type} (key : α → Int) (c : α) (l : List α) : (runI key c l).1.length ≤ 2 * l.length := by
  have : ∀ (l P : List α) (b : Bool), (l.foldl (stepI key c) (P, b)).1.length ≤ P.length + 2 * l.length := by
    intro l
    induction l with
    | nil => intro P b; simp
    | cons x l ih =>
      intro P b
      rw [List.foldl_cons]
      have h1 : (stepI key c (P, b) x).1.length ≤ P.length + 2 := by
        unfold stepI; split <;> (simp only; split <;> simp)
      generalize stepI key c (P, b) x = s at *
      obtain ⟨Q, b2⟩ := s
      have h2 := ih Q b2
      simp only [List.length_cons] at *
      omega
  simpa [runI] using this l [] false

set_option maxRecDepth 100000 in
set_option maxHeartbeats 4000000 in
theorem rclocked_any (L : List Ck) (c : Ck) (a : Option Addr) (n ca : Nat) (w : World) (hL : Lies w a n 2 (fun i => (L.getD i ck0).cells)) (hn : n = L.length) (hn2 : n ≤ 1099511627776) (hasc : Asc Ck.site L) :
    Calls Try.prog 142 #[.slice a n ca, .agg c.cells.toArray] w fun e w' => ∃ ad cap N, e = .returned (.slice ad N cap) ∧ N = (putK Ck.site (fun _ c => c) L c).length ∧ Vec w' w.heap.size 67 2 ad N cap (kcells (putK Ck.site (fun _ c => c) L c)) ∧ Below w.heap.size w w' := by
  have HL : Hid (Lies w a n 2 (fun i => (L.getD i ck0).cells)) := hL
  have HN : Hid (n = L.length) := hn
  have HF : Hid (finI c (runI Ck.site c L) = putK Ck.site (fun _ c => c) L c) := fin_put Ck.site c L hasc
  obtain ⟨hX, hW, hB⟩ := one_box w 67 c.cells.toArray
  have HX0 : Hid (Bx (w.alloc (.cells c.cells.toArray 67)) w.heap.size 67 c.cells ∧ Below w.heap.size w (w.alloc (.cells c.cells.toArray 67)) ∧ (w.alloc (.cells c.cells.toArray 67)).heap.size = w.heap.size + 1) := ⟨hX, hB, hW⟩
  clear hL hn hasc hX hW hB
  go_enter Try.func142, Try.ntmps142
  go_wp2_with fail
  generalize w.alloc (.cells c.cells.toArray 67) = W at *
  go_loopw [5, 6, 7] (fun v t u wr => ∃ (i : Nat) (ad : Option Addr) (cap N : Nat), i ≤ n ∧ u = .int .i64 i ∧ v = .slice ad N cap ∧ t = .bool (runI Ck.site c (L.take i)).2 ∧ N = (runI Ck.site c (L.take i)).1.length ∧ Vec wr W.heap.size 67 2 ad N cap (kcells (runI Ck.site c (L.take i)).1) ∧ Below W.heap.size W wr) (fun _ _ u _ => n - (intOf u).toNat)
  case atStart => exact ⟨0, none, 0, 0, by omega, rfl, rfl, by rw [List.take_zero]; rfl, by rw [List.take_zero]; rfl, by rw [List.take_zero]; exact Vec.nil _ _ _ _, Below.refl _ _⟩
  case round =>
    obtain ⟨i, ad, cap, N, hi, rfl, rfl, rfl, hN, hv, hb⟩ := hrel
    have HNN : Hid (N = (runI Ck.site c (L.take i)).1.length) := hN
    have hNi : N ≤ 2 * n := by have := runI_len Ck.site c (L.take i); have h2 : (L.take i).length ≤ n := by { rw [List.length_take]; omega }; omega
    have HBC : Hid (∀ X, Below W.heap.size W X → X.cell? ⟨w.heap.size, 0, none⟩ = some (.int .i64 c.site) ∧ X.cell? ⟨w.heap.size, 1, none⟩ = some (.int .i64 c.count)) := fun X hX => by
      have hx := HX0.out.1.below hX HX0.out.1.lt
      exact ⟨hx.cell 0, hx.cell 1⟩
    clear hN
    by_cases hlt : i < n
    · have hil : i < L.length := by rw [← HN.out]; exact hlt
      obtain ⟨bx, ox, hbl, hix, e0 , e1⟩ := Lies.clock (c := fun i => L.getD i ck0) HL.out ca hlt
      have HEC : Hid (∀ X, Below W.heap.size W X → X.cell? ⟨bx, ox, none⟩ = some (.int .i64 (L.getD i ck0).site) ∧ X.cell? ⟨bx, ox + 1, none⟩ = some (.int .i64 (L.getD i ck0).count)) := fun X hX => by
        have hxw : Below w.heap.size w X := HX0.out.2.1.trans (hX.mono HX0.out.2.1.size)
        exact ⟨(hxw.cell (p := ⟨bx, ox, none⟩) hbl).trans e0, (hxw.cell (p := ⟨bx, ox + 1, none⟩) hbl).trans e1⟩
      have HT : Hid (runI Ck.site c (L.take (i + 1)) = stepI Ck.site c (runI Ck.site c (L.take i)) (L.getD i ck0)) := by show _ = _; rw [take_clock L i hil, runI_snoc]
      clear e0 e1 hil
      generalize L.getD i ck0 = x at *
      generalize runI Ck.site c (L.take i) = s at *
      obtain ⟨P, bl⟩ := s
      dsimp only at HNN hv HT ⊢
      have HALL : Hid (∀ X, Below wr.heap.size wr X → Vec X W.heap.size 67 2 ad N cap (kcells P) ∧ Below W.heap.size W X ∧ W.heap.size ≤ X.heap.size) := fun X h => ⟨hv.keep h, hb.trans (h.mono hb.size), Nat.le_trans hb.size h.size⟩
      obtain ⟨z0, z1⟩ := HBC.out _ hb
      obtain ⟨e0, e1⟩ := HEC.out _ hb
      clear hv hb
      cases bl with
      | true =>
        by_cases hne : x.site = c.site
        · have HR : Hid (runI Ck.site c (L.take (i + 1)) = (P, true)) := by show _ = _; rw [HT.out]; unfold stepI; rw [if_neg (by intro q; cases q.1)]; simp only; rw [if_pos hne]
          have hd2 : (x.site != c.site) = false := by rw [bne_eq_false_iff_eq]; exact hne
          clear HT hne
          go_wp2_with fail
          go_quiet (fail)
          generalize hX : wr.drewN _ = X
          have hbX : Below wr.heap.size wr X := by rw [← hX]; exact below_drewN (Below.refl _ _) _
          obtain ⟨hvX, hbwX, hzX⟩ := HALL.out X hbX
          clear hX HALL z0 z1 e0 e1
          obtain ⟨z0, z1⟩ := HBC.out _ hbwX
          obtain ⟨e0, e1⟩ := HEC.out _ hbwX
          have HALL : Hid (∀ Y, Below X.heap.size X Y → Vec Y W.heap.size 67 2 ad N cap (kcells P) ∧ Below W.heap.size W Y ∧ W.heap.size ≤ Y.heap.size) := fun Y h => ⟨hvX.keep h, hbwX.trans (h.mono hbwX.size), Nat.le_trans hbwX.size h.size⟩
          clear hvX hbX hbwX hzX
          go_wp2_with fail
          go_quiet (fail)
          generalize hY : X.drewN _ = Y
          have hbY : Below X.heap.size X Y := by rw [← hY]; exact below_drewN (Below.refl _ _) _
          obtain ⟨hvY, hbwY, hzY⟩ := HALL.out Y hbY
          clear hY HALL z0 z1 e0 e1
          obtain ⟨z0, z1⟩ := HBC.out _ hbwY
          obtain ⟨e0, e1⟩ := HEC.out _ hbwY
          go_wp2_with fail
          go_roundw
          case rel => exact ⟨i + 1, ad, cap, N, by omega, by go_num, rfl, by rw [HR.out], by rw [HR.out]; simp; have := HNN.out; omega, by rw [HR.out]; exact hvY, hbwY⟩
          case measure => simp [intOf]; omega
        · have HR : Hid (runI Ck.site c (L.take (i + 1)) = (P ++ [x], true)) := by show _ = _; rw [HT.out]; unfold stepI; rw [if_neg (by intro q; cases q.1)]; simp only; rw [if_neg hne]
          have hd2 : (x.site != c.site) = true := bne_iff_ne.mpr hne
          clear HT hne
          go_wp2_with fail
          go_quiet (fail)
          generalize hX : wr.drewN _ = X
          have hbX : Below wr.heap.size wr X := by rw [← hX]; exact below_drewN (Below.refl _ _) _
          obtain ⟨hvX, hbwX, hzX⟩ := HALL.out X hbX
          clear hX HALL z0 z1 e0 e1
          obtain ⟨z0, z1⟩ := HBC.out _ hbwX
          obtain ⟨e0, e1⟩ := HEC.out _ hbwX
          have HALL : Hid (∀ Y, Below X.heap.size X Y → Vec Y W.heap.size 67 2 ad N cap (kcells P) ∧ Below W.heap.size W Y ∧ W.heap.size ≤ Y.heap.size) := fun Y h => ⟨hvX.keep h, hbwX.trans (h.mono hbwX.size), Nat.le_trans hbwX.size h.size⟩
          clear hvX hbX hbwX hzX
          go_wp2_with fail
          go_quiet (fail)
          generalize hY : X.drewN _ = Y
          have hbY : Below X.heap.size X Y := by rw [← hY]; exact below_drewN (Below.refl _ _) _
          obtain ⟨hvY, hbwY, hzY⟩ := HALL.out Y hbY
          clear hY HALL z0 z1 e0 e1
          obtain ⟨z0, z1⟩ := HBC.out _ hbwY
          obtain ⟨e0, e1⟩ := HEC.out _ hbwY
          go_wp2_with (at_builtin; refine wpList_push (by rfl) _ _ 22 (by rfl) W.heap.size 67 2 16 (.agg #[.int .i64 0, .int .i64 0]) Try.underlying22 (by kernel_rfl) rfl (by decide) ad (N) cap _ (by rfl) (hvY.keep ((Below.refl _ _).alloc (Nat.le_refl _) _)) _ _ x.cells (by rfl) rfl ?_ ?_ ?_ ?_ ?_ ?_; exact new_cells _ _ _; exact ones1 _; (omega); (omega); (simp; omega); intro ad' cap' w' hv' hb' hs')
          go_roundw
          case rel => exact ⟨i + 1, ad', cap', N + 1, by omega, by go_num, rfl, by rw [HR.out], by rw [HR.out]; simp; have := HNN.out; omega, by rw [HR.out]; show Vec w' _ _ _ _ _ _ (kcells (P ++ [x])); rw [kcells_app]; simpa [kcells] using hv', (hbwY.alloc hzY _).trans hb'⟩
          case measure => simp [intOf]; omega
      | false =>
        by_cases hle : c.site ≤ x.site
        · by_cases hne : x.site = c.site
          · have HR : Hid (runI Ck.site c (L.take (i + 1)) = (P ++ [c], true)) := by show _ = _; rw [HT.out]; unfold stepI; rw [if_pos ⟨rfl, hle⟩]; simp only; rw [if_pos hne]
            have hd1 : decide (c.site ≤ x.site) = true := decide_eq_true hle
            have hd2 : (x.site != c.site) = false := by rw [bne_eq_false_iff_eq]; exact hne
            clear HT hle hne
            go_wp2_with fail
            go_quiet (fail)
            generalize hX : wr.drewN _ = X
            have hbX : Below wr.heap.size wr X := by rw [← hX]; exact below_drewN (Below.refl _ _) _
            obtain ⟨hvX, hbwX, hzX⟩ := HALL.out X hbX
            clear hX HALL z0 z1 e0 e1
            obtain ⟨z0, z1⟩ := HBC.out _ hbwX
            obtain ⟨e0, e1⟩ := HEC.out _ hbwX
            go_wp2_with (at_builtin; refine wpList_push (by rfl) _ _ 22 (by rfl) W.heap.size 67 2 16 (.agg #[.int .i64 0, .int .i64 0]) Try.underlying22 (by kernel_rfl) rfl (by decide) ad (N) cap _ (by rfl) (hvX.keep ((Below.refl _ _).alloc (Nat.le_refl _) _)) _ _ c.cells (by rfl) rfl ?_ ?_ ?_ ?_ ?_ ?_; exact new_cells _ _ _; exact ones1 _; (omega); (omega); (simp; omega); intro ad1 cap1 w1 hv1 hb1 hs1)
            rw [show kcells P ++ c.cells = kcells (P ++ [c]) by rw [kcells_app]; simp [kcells]] at hv1
            have hbw1 := (hbwX.alloc hzX _).trans hb1
            have HALL : Hid (∀ X, Below w1.heap.size w1 X → Vec X W.heap.size 67 2 ad1 (N + 1) cap1 (kcells (P ++ [c])) ∧ Below W.heap.size W X ∧ W.heap.size ≤ X.heap.size) := fun X h => ⟨hv1.keep h, hbw1.trans (h.mono hbw1.size), Nat.le_trans hbw1.size h.size⟩
            clear z0 z1 e0 e1
            obtain ⟨z0, z1⟩ := HBC.out _ hbw1
            obtain ⟨e0, e1⟩ := HEC.out _ hbw1
            clear hvX hbX hbwX hzX hv1 hb1 hs1 hbw1
            go_wp2_with fail
            go_quiet (fail)
            generalize hY : w1.drewN _ = Y
            have hbY : Below w1.heap.size w1 Y := by rw [← hY]; exact below_drewN (Below.refl _ _) _
            obtain ⟨hvY, hbwY, hzY⟩ := HALL.out Y hbY
            clear hY HALL z0 z1 e0 e1
            obtain ⟨z0, z1⟩ := HBC.out _ hbwY
            obtain ⟨e0, e1⟩ := HEC.out _ hbwY
            go_wp2_with fail
            go_roundw
            case rel => exact ⟨i + 1, ad1, cap1, N + 1, by omega, by go_num, rfl, by rw [HR.out], by rw [HR.out]; simp; have := HNN.out; omega, by rw [HR.out]; exact hvY, hbwY⟩
            case measure => simp [intOf]; omega
          · have HR : Hid (runI Ck.site c (L.take (i + 1)) = (P ++ [c] ++ [x], true)) := by show _ = _; rw [HT.out]; unfold stepI; rw [if_pos ⟨rfl, hle⟩]; simp only; rw [if_neg hne]
            have hd1 : decide (c.site ≤ x.site) = true := decide_eq_true hle
            have hd2 : (x.site != c.site) = true := bne_iff_ne.mpr hne
            clear HT hle hne
            go_wp2_with fail
            go_quiet (fail)
            generalize hX : wr.drewN _ = X
            have hbX : Below wr.heap.size wr X := by rw [← hX]; exact below_drewN (Below.refl _ _) _
            obtain ⟨hvX, hbwX, hzX⟩ := HALL.out X hbX
            clear hX HALL z0 z1 e0 e1
            obtain ⟨z0, z1⟩ := HBC.out _ hbwX
            obtain ⟨e0, e1⟩ := HEC.out _ hbwX
            go_wp2_with (at_builtin; refine wpList_push (by rfl) _ _ 22 (by rfl) W.heap.size 67 2 16 (.agg #[.int .i64 0, .int .i64 0]) Try.underlying22 (by kernel_rfl) rfl (by decide) ad (N) cap _ (by rfl) (hvX.keep ((Below.refl _ _).alloc (Nat.le_refl _) _)) _ _ c.cells (by rfl) rfl ?_ ?_ ?_ ?_ ?_ ?_; exact new_cells _ _ _; exact ones1 _; (omega); (omega); (simp; omega); intro ad1 cap1 w1 hv1 hb1 hs1)
            rw [show kcells P ++ c.cells = kcells (P ++ [c]) by rw [kcells_app]; simp [kcells]] at hv1
            have hbw1 := (hbwX.alloc hzX _).trans hb1
            have HALL : Hid (∀ X, Below w1.heap.size w1 X → Vec X W.heap.size 67 2 ad1 (N + 1) cap1 (kcells (P ++ [c])) ∧ Below W.heap.size W X ∧ W.heap.size ≤ X.heap.size) := fun X h => ⟨hv1.keep h, hbw1.trans (h.mono hbw1.size), Nat.le_trans hbw1.size h.size⟩
            clear z0 z1 e0 e1
            obtain ⟨z0, z1⟩ := HBC.out _ hbw1
            obtain ⟨e0, e1⟩ := HEC.out _ hbw1
            clear hvX hbX hbwX hzX hv1 hb1 hs1 hbw1
            go_wp2_with fail
            go_quiet (fail)
            generalize hY : w1.drewN _ = Y
            have hbY : Below w1.heap.size w1 Y := by rw [← hY]; exact below_drewN (Below.refl _ _) _
            obtain ⟨hvY, hbwY, hzY⟩ := HALL.out Y hbY
            clear hY HALL z0 z1 e0 e1
            obtain ⟨z0, z1⟩ := HBC.out _ hbwY
            obtain ⟨e0, e1⟩ := HEC.out _ hbwY
            go_wp2_with (at_builtin; refine wpList_push (by rfl) _ _ 22 (by rfl) W.heap.size 67 2 16 (.agg #[.int .i64 0, .int .i64 0]) Try.underlying22 (by kernel_rfl) rfl (by decide) ad1 (N + 1) cap1 _ (by rfl) (hvY.keep ((Below.refl _ _).alloc (Nat.le_refl _) _)) _ _ x.cells (by rfl) rfl ?_ ?_ ?_ ?_ ?_ ?_; exact new_cells _ _ _; exact ones1 _; (omega); (omega); (simp; omega); intro ad' cap' w' hv' hb' hs')
            go_roundw
            case rel => exact ⟨i + 1, ad', cap', N + 1 + 1, by omega, by go_num, rfl, by rw [HR.out], by rw [HR.out]; simp; have := HNN.out; omega, by rw [HR.out]; show Vec w' _ _ _ _ _ _ (kcells (P ++ [c] ++ [x])); rw [kcells_app]; simpa [kcells] using hv', (hbwY.alloc hzY _).trans hb'⟩
            case measure => simp [intOf]; omega
        · have hne : ¬ x.site = c.site := by omega
          have HR : Hid (runI Ck.site c (L.take (i + 1)) = (P ++ [x], false)) := by show _ = _; rw [HT.out]; unfold stepI; rw [if_neg (by intro q; exact hle q.2)]; simp only; rw [if_neg hne]
          have hd1 : decide (c.site ≤ x.site) = false := decide_eq_false hle
          have hd2 : (x.site != c.site) = true := bne_iff_ne.mpr hne
          clear HT hle hne
          go_wp2_with fail
          go_quiet (fail)
          generalize hX : wr.drewN _ = X
          have hbX : Below wr.heap.size wr X := by rw [← hX]; exact below_drewN (Below.refl _ _) _
          obtain ⟨hvX, hbwX, hzX⟩ := HALL.out X hbX
          clear hX HALL z0 z1 e0 e1
          obtain ⟨z0, z1⟩ := HBC.out _ hbwX
          obtain ⟨e0, e1⟩ := HEC.out _ hbwX
          have HALL : Hid (∀ Y, Below X.heap.size X Y → Vec Y W.heap.size 67 2 ad N cap (kcells P) ∧ Below W.heap.size W Y ∧ W.heap.size ≤ Y.heap.size) := fun Y h => ⟨hvX.keep h, hbwX.trans (h.mono hbwX.size), Nat.le_trans hbwX.size h.size⟩
          clear hvX hbX hbwX hzX
          go_wp2_with fail
          go_quiet (fail)
          generalize hY : X.drewN _ = Y
          have hbY : Below X.heap.size X Y := by rw [← hY]; exact below_drewN (Below.refl _ _) _
          obtain ⟨hvY, hbwY, hzY⟩ := HALL.out Y hbY
          clear hY HALL z0 z1 e0 e1
          obtain ⟨z0, z1⟩ := HBC.out _ hbwY
          obtain ⟨e0, e1⟩ := HEC.out _ hbwY
          go_wp2_with (at_builtin; refine wpList_push (by rfl) _ _ 22 (by rfl) W.heap.size 67 2 16 (.agg #[.int .i64 0, .int .i64 0]) Try.underlying22 (by kernel_rfl) rfl (by decide) ad (N) cap _ (by rfl) (hvY.keep ((Below.refl _ _).alloc (Nat.le_refl _) _)) _ _ x.cells (by rfl) rfl ?_ ?_ ?_ ?_ ?_ ?_; exact new_cells _ _ _; exact ones1 _; (omega); (omega); (simp; omega); intro ad' cap' w' hv' hb' hs')
          go_roundw
          case rel => exact ⟨i + 1, ad', cap', N + 1, by omega, by go_num, rfl, by rw [HR.out], by rw [HR.out]; simp; have := HNN.out; omega, by rw [HR.out]; show Vec w' _ _ _ _ _ _ (kcells (P ++ [x])); rw [kcells_app]; simpa [kcells] using hv', (hbwY.alloc hzY _).trans hb'⟩
          case measure => simp [intOf]; omega
    · obtain rfl : n = i := by omega
      have HTK : Hid (L.take n = L) := by show _ = _; rw [HN.out]; exact List.take_length
      rw [HTK.out] at hv HNN ⊢
      generalize runI Ck.site c L = s at *
      obtain ⟨P, bl⟩ := s
      dsimp only at HNN hv HF ⊢
      have hold := fun X (hX : Below W.heap.size W X) => HX0.out.2.1.trans (hX.mono HX0.out.2.1.size)
      have HOLD : Hid (∀ X, Below W.heap.size W X → Below w.heap.size w X) := hold
      have HW : Hid (w.heap.size ≤ W.heap.size) := HX0.out.2.1.size
      obtain ⟨z0, z1⟩ := HBC.out _ hb
      clear hold
      cases bl with
      | true =>
        have HE : Hid (P = putK Ck.site (fun _ c => c) L c) := by show _ = _; rw [← HF.out]; rfl
        go_wp2_with fail
        go_ret
        exact ⟨ad, cap, N, rfl, by rw [← HE.out]; exact HNN.out, by rw [← HE.out]; exact hv.mono HW.out, HOLD.out _ hb⟩
      | false =>
        have HE : Hid (P ++ [c] = putK Ck.site (fun _ c => c) L c) := by show _ = _; rw [← HF.out]; rfl
        have hzz := hb.size
        have HBW : Hid (Below W.heap.size W wr) := hb
        clear hb
        go_wp2_with (at_builtin; refine wpList_push (by rfl) _ _ 22 (by rfl) W.heap.size 67 2 16 (.agg #[.int .i64 0, .int .i64 0]) Try.underlying22 (by kernel_rfl) rfl (by decide) ad (N) cap _ (by rfl) (hv.keep ((Below.refl _ _).alloc (Nat.le_refl _) _)) _ _ c.cells (by rfl) rfl ?_ ?_ ?_ ?_ ?_ ?_; exact new_cells _ _ _; exact ones1 _; (omega); (omega); (simp; omega); intro ad' cap' w' hv' hb' hs')
        go_ret
        exact ⟨ad', cap', N + 1, rfl, by rw [← HE.out, List.length_append, ← HNN.out]; rfl, by rw [← HE.out, kcells_app]; exact (by simpa [kcells] using hv' : Vec w' W.heap.size 67 2 ad' (N + 1) cap' (kcells P ++ kcells [c])).mono HW.out, HOLD.out _ ((HBW.out.alloc hzz _).trans hb')⟩
end Go.Proofs.Ytdjpkgaicmklmaa

