/- Texts of the proof, one behind the other; what each holds is said at its head. -/
import Derived.Test.YtdjpkgaicmklmaaPartMerges8
import Derived.Test.YtdjpkgaicmklmaaPartMerges4
import Derived.Test.YtdjpkgaicmklmaaPartMerges5
import Derived.Test.YtdjpkgaicmklmaaPartMerges0
import Derived.Deep.QuietTactic
import Derived.BigQuiet
import Derived.Test.YtdjpkgaicmklmaaPartMerges6
import Derived.Deep.RegionHeld3
import Derived.Deep.DeepCutAuto
/- Extend: a chain and one link more: without the program. -/
namespace Go.Proofs.Ytdjpkgaicmklmaa
open Go.RowKit

instance decCk : DecidableEq Ck := fun a b => match a, b with
  | ⟨i, s⟩, ⟨j, t⟩ => if h : i = j ∧ s = t then isTrue (by rw [h.1, h.2]) else isFalse (fun e => by injection e with e1 e2; exact h ⟨e1, e2⟩)
instance decCd : DecidableEq Cd := fun a b => match a, b with
  | ⟨i, s, c, g, t⟩, ⟨i', s', c', g', t'⟩ => if h : i = i' ∧ s = s' ∧ c = c' ∧ g = g' ∧ t = t' then isTrue (by rw [h.1, h.2.1, h.2.2.1, h.2.2.2.1, h.2.2.2.2]) else isFalse (fun e => by injection e with e1 e2 e3 e4 e5; exact h ⟨e1, e2, e3, e4, e5⟩)

theorem range_getD {α : Type} (l : List α) (d : α) : (List.range l.length).map (fun i => l.getD i d) = l := by
  apply List.ext_getElem?; intro i
  by_cases hi : i < l.length
  · simp [hi]
  · simp [Nat.le_of_not_lt hi]
theorem asc_of {α : Type} (key : α → Int) (d : α) (l : List α) (h : ∀ i, i + 1 < l.length → key (l.getD i d) < key (l.getD (i + 1) d)) : Asc key l := by
  have all : ∀ (i k : Nat), i + k + 1 < l.length → key (l.getD i d) < key (l.getD (i + k + 1) d) := by
    intro i k
    induction k with
    | zero => exact h i
    | succ k ih => intro hk; have := ih (by omega); have := h (i + k + 1) (by omega); rw [show i + (k + 1) + 1 = i + k + 1 + 1 by omega]; omega
  unfold Asc
  rw [List.pairwise_iff_getElem]
  intro i j hi hj hij
  have := all i (j - i - 1) (by omega)
  rw [show i + (j - i - 1) + 1 = j by omega] at this
  simpa [hi, hj] using this
theorem asc_next {α : Type} (key : α → Int) (d : α) {l : List α} (h : Asc key l) (i : Nat) (hi : i + 1 < l.length) : key (l.getD i d) < key (l.getD (i + 1) d) := by
  unfold Asc at h
  rw [List.pairwise_iff_getElem] at h
  have := h i (i + 1) (by omega) hi (by omega)
  simpa [hi, show i < l.length by omega] using this
theorem Tri.asc {r : Tri} (h : r.rep.chk = 0) : Asc Ck.site r.K ∧ Asc Cd.id r.C := by
  have := Rep.rising h
  exact ⟨asc_of Ck.site ck0 r.K (fun i hi => this.c i hi), asc_of Cd.id cd0 r.C (fun i hi => this.d i hi)⟩

def diffS (o r : Tri) : Tri := ⟨r.K.filter (fun c => decide (look Ck.site o.K c.site ≠ some c)), r.C.filter (fun c => decide (look Cd.id o.C c.id ≠ some c)), r.E⟩
def followK (o r : List Ck) : Bool := o.all fun c => match look Ck.site r c.site with
  | some d => decide (c.count ≤ d.count)
  | none => false
def followC (o r : List Cd) : Bool := o.all fun c => match look Cd.id r c.id with
  | some d => laterB d c || decide (d = c)
  | none => false
def followB (o r : Tri) : Bool := followK o.K r.K && followC o.C r.C
theorem follow_has {o r : Tri} (h : followB o r = true) : (∀ x ∈ o.K, ∃ y ∈ r.K, y.site = x.site) ∧ (∀ x ∈ o.C, ∃ y ∈ r.C, y.id = x.id) := by
  simp only [followB, followK, followC, Bool.and_eq_true, List.all_eq_true] at h
  constructor
  · intro x hx
    have := h.1 x hx
    split at this
    · rename_i d hd; exact ⟨d, (look_mem Ck.site hd).1, (look_mem Ck.site hd).2⟩
    · cases this
  · intro x hx
    have := h.2 x hx
    split at this
    · rename_i d hd; exact ⟨d, (look_mem Cd.id hd).1, (look_mem Cd.id hd).2⟩
    · cases this
/-- What changed, laid over what it follows, is it. -/
theorem lay_diffS {o r : Tri} (ho : Asc Ck.site o.K ∧ Asc Cd.id o.C) (hr : Asc Ck.site r.K ∧ Asc Cd.id r.C) (h : followB o r = true) : layS o (diffS o r) = r := by
  obtain ⟨h1, h2⟩ := follow_has h
  have a := lay_diff Ck.site (fun c => decide (look Ck.site o.K c.site ≠ some c)) ho.1 hr.1 h1 (fun c _ hc => by simpa using hc)
  have b := lay_diff Cd.id (fun c => decide (look Cd.id o.C c.id ≠ some c)) ho.2 hr.2 h2 (fun c _ hc => by simpa using hc)
  unfold layS diffS
  simp only
  rw [a, b]
theorem mem_fit {r : Tri} (h : Fit r.rep) : (∀ x ∈ r.K, Num x.site ∧ Num x.count) ∧ (∀ x ∈ r.C, Num x.id ∧ Num x.site ∧ Num x.count ∧ x.text.size ≤ 60) ∧ (∀ x ∈ r.E, Num x.id ∧ x.text.size ≤ 60) := by
  refine ⟨fun x hx => ?_, fun x hx => ?_, fun x hx => ?_⟩
  · obtain ⟨i, hi, rfl⟩ := List.mem_iff_getElem.mp hx
    have := h.c1 i hi; simpa [Tri.rep, repOf, hi] using this
  · obtain ⟨i, hi, rfl⟩ := List.mem_iff_getElem.mp hx
    have := h.d1 i hi; simpa [Tri.rep, repOf, hi] using this
  · obtain ⟨i, hi, rfl⟩ := List.mem_iff_getElem.mp hx
    have := h.e1 i hi; simpa [Tri.rep, repOf, hi] using this
theorem diff_fit {o r : Tri} (hr : r.rep.chk = 0) : Fit (diffS o r).rep := by
  have hF := Rep.fit hr
  obtain ⟨m1, m2, m3⟩ := mem_fit hF
  have l1 : (diffS o r).K.length ≤ r.K.length := List.length_filter_le ..
  have l2 : (diffS o r).C.length ≤ r.C.length := List.length_filter_le ..
  refine ⟨Nat.le_trans l1 hF.n1, Nat.le_trans l2 hF.n2, hF.n3, fun i hi => ?_, fun i hi => ?_, fun i hi => ?_⟩
  · exact m1 _ (List.mem_filter.mp (getD_mem (d := ck0) hi)).1
  · exact m2 _ (List.mem_filter.mp (getD_mem (d := cd0) hi)).1
  · exact m3 _ (getD_mem (d := ed0) hi)
theorem diff_rising {o r : Tri} (hr : r.rep.chk = 0) : Rising (diffS o r).rep := by
  obtain ⟨a, b⟩ := Tri.asc hr
  have a2 : Asc Ck.site (diffS o r).K := List.Pairwise.filter _ a
  have b2 : Asc Cd.id (diffS o r).C := List.Pairwise.filter _ b
  exact ⟨fun i hi => asc_next Ck.site ck0 a2 i hi, fun i hi => asc_next Cd.id cd0 b2 i hi⟩
theorem sealR_bound (b : List UInt8) : 0 ≤ sealR b ∧ sealR b ≤ 4294967295 := by
  unfold sealR fourRd
  generalize b.drop (b.length - 4) = s
  have h0 := (s.getD 0 0).toNat_lt
  have h1 := (s.getD 1 0).toNat_lt
  have h2 := (s.getD 2 0).toNat_lt
  have h3 := (s.getD 3 0).toNat_lt
  omega

/-- The bundle of the next link. -/
def nextB (n : Nat) (last : List UInt8) (o r : Tri) : List UInt8 := bundleB (recsOf (n : Int) (sealR last) (diffS o r).rep)
theorem next_read {n : Nat} (h0 : 0 < n) (h16 : n ≤ 16) {last : List UInt8} {o r : Tri} (hr : r.rep.chk = 0) : readRd (nextB n last o r) = ⟨n, sealR last, 0, 0, (diffS o r).K, (diffS o r).C, (diffS o r).E⟩ := by
  have hs := sealR_bound last
  unfold nextB
  rw [readRd_bundle (diff_fit hr) (diff_rising hr) ⟨by omega, by omega⟩ hs.1 hs.2 (fun h => by omega)]
  simp only [Tri.rep, repOf]
  rw [range_getD, range_getD, range_getD]
theorem get_snoc {bs : List (List UInt8)} {b : List UInt8} (i : Nat) (hi : i < bs.length) : (bs ++ [b]).getD i [] = bs.getD i [] := by
  rw [List.getD_eq_getElem?_getD, List.getElem?_append_left hi, ← List.getD_eq_getElem?_getD]
theorem get_last {bs : List (List UInt8)} {b : List UInt8} : (bs ++ [b]).getD bs.length [] = b := by simp
/-- A chain of one. -/
theorem links_one {R : Rep} (h : R.chk = 0) : Links [bundleB (recsOf 0 0 R)] ∧ chainSt [bundleB (recsOf 0 0 R)] 0 = ⟨(List.range R.n1).map R.c, (List.range R.n2).map R.d, (List.range R.n3).map R.e⟩ := by
  have e := readRd_bundle (Rep.fit h) (Rep.rising h) (s := 0) (b := 0) ⟨by decide, by decide⟩ (by decide) (by decide) (fun _ => rfl)
  have hL : Links [bundleB (recsOf 0 0 R)] := by
    refine ⟨by simp, by simp, fun i hi => ?_, fun i hi => ?_, fun i hi => ?_⟩
    · have : i = 0 := by simpa using hi
      subst this; show (readRd (bundleB (recsOf 0 0 R))).err = 0; rw [e]
    · have : i = 0 := by simpa using hi
      subst this; show (readRd (bundleB (recsOf 0 0 R))).seq = 0; rw [e]
    · simp at hi
  refine ⟨hL, ?_⟩
  have h1 := hL.link (List.Perm.refl _) 0 (by simp)
  simp only [chainSt]
  rw [show ((0 : Nat) : Int) = 0 from rfl] at h1
  rw [h1]
  show (readRd (bundleB (recsOf 0 0 R))).st = _
  rw [e]; rfl
/-- A chain with the next link is one, and makes what was handed in. -/
theorem links_next {bs : List (List UInt8)} {r : Tri} (h : Links bs) (hn : bs.length < 16) (ho : (chainSt bs (bs.length - 1)).rep.chk = 0) (hr : r.rep.chk = 0) (hf : followB (chainSt bs (bs.length - 1)) r = true) :
    Links (bs ++ [nextB bs.length (bs.getD (bs.length - 1) []) (chainSt bs (bs.length - 1)) r]) ∧
    chainSt (bs ++ [nextB bs.length (bs.getD (bs.length - 1) []) (chainSt bs (bs.length - 1)) r]) bs.length = r := by
  have pos := h.pos
  generalize ho' : chainSt bs (bs.length - 1) = o at *
  have e := next_read (n := bs.length) pos (by omega) (last := bs.getD (bs.length - 1) []) (o := o) hr
  generalize hb : nextB bs.length (bs.getD (bs.length - 1) []) o r = b at *
  have hlen : (bs ++ [b]).length = bs.length + 1 := by simp
  have hL : Links (bs ++ [b]) := by
    refine ⟨by simp, by simp; omega, fun i hi => ?_, fun i hi => ?_, fun i hi => ?_⟩
    · rw [hlen] at hi
      by_cases hi2 : i < bs.length
      · rw [get_snoc i hi2]; exact h.err i hi2
      · rw [show i = bs.length by omega, get_last, e]
    · rw [hlen] at hi
      by_cases hi2 : i < bs.length
      · rw [get_snoc i hi2]; exact h.seq i hi2
      · rw [show i = bs.length by omega, get_last, e]
    · rw [hlen] at hi
      rw [get_snoc i (by omega)]
      by_cases hi2 : i + 1 < bs.length
      · rw [get_snoc (i + 1) hi2]; exact h.base i hi2
      · rw [show i + 1 = bs.length by omega, get_last, e, show i = bs.length - 1 by omega]
  refine ⟨hL, ?_⟩
  have hold : ∀ n, n < bs.length → chainSt (bs ++ [b]) n = chainSt bs n := by
    intro n
    induction n with
    | zero =>
      intro hn'
      have h1 := hL.link (List.Perm.refl _) 0 (by simp)
      have h2 := h.link (List.Perm.refl _) 0 hn'
      rw [get_snoc 0 hn'] at h1
      rw [show ((0 : Nat) : Int) = 0 from rfl] at h1 h2
      simp only [chainSt]; rw [h1, h2]
    | succ n ih =>
      intro hn'
      have h1 := hL.link (List.Perm.refl _) (n + 1) (by simp; omega)
      have h2 := h.link (List.Perm.refl _) (n + 1) hn'
      rw [get_snoc (n + 1) hn'] at h1
      simp only [chainSt]; rw [ih (by omega), h1, h2]
  obtain ⟨k, hk⟩ : ∃ k, bs.length = k + 1 := ⟨bs.length - 1, by omega⟩
  have h1 := hL.link (List.Perm.refl _) bs.length (by simp)
  rw [get_last] at h1
  have h3 : chainSt (bs ++ [b]) bs.length = layS (chainSt (bs ++ [b]) k) (readRd (linkR (bs ++ [b]) (bs.length : Nat))).st := by rw [hk]; rfl
  rw [h3, h1, hold k (by omega), show k = bs.length - 1 by omega, ho', e]
  exact lay_diffS (Tri.asc ho) (Tri.asc hr) hf

/-- What Extend answers. -/
structure Xt where
  b : List UInt8
  err : Int
  place : Int
def extendRd (l : List (List UInt8)) (r : Tri) : Xt :=
  if (replayRd l).err = 0 then
    if 16 ≤ l.length then ⟨[], 1, 0⟩
    else if r.rep.chk = 0 then
      if followB (replayRd l).st r = true then ⟨nextB l.length (linkR l ((l.length - 1 : Nat) : Int)) (replayRd l).st r, 0, 0⟩ else ⟨[], 18, 0⟩
    else ⟨[], r.rep.chk, 0⟩
  else ⟨[], (replayRd l).err, (replayRd l).place⟩
theorem extend_links {bs l : List (List UInt8)} {r : Tri} (h : Links bs) (hp : l.Perm bs) (hn : bs.length < 16) (ho : (chainSt bs (bs.length - 1)).rep.chk = 0) (hr : r.rep.chk = 0) (hf : followB (chainSt bs (bs.length - 1)) r = true) :
    extendRd l r = ⟨nextB bs.length (bs.getD (bs.length - 1) []) (chainSt bs (bs.length - 1)) r, 0, 0⟩ := by
  have pos := h.pos
  have e := replay_links h hp ho
  have e1 : (replayRd l).err = 0 := by rw [e]
  have e2 : (replayRd l).st = chainSt bs (bs.length - 1) := by rw [e]; rfl
  unfold extendRd
  rw [if_pos e1, e2, hp.length_eq, if_neg (by omega), if_pos hr, if_pos hf, h.link hp _ (by omega)]
end Go.Proofs.Ytdjpkgaicmklmaa

/- Replicas that have seen some first writes: merged, and one that has seen more follows: without the program. -/
namespace Go.Proofs.Ytdjpkgaicmklmaa
open Go.RowKit

def triS (S : Seen) (i : Nat) (E : List Ed) : Tri := ⟨clocksTo (runS S i).1 8, (runS S i).2, E⟩
def EdOk (E : List Ed) : Prop := ∀ x ∈ E, (1 ≤ x.id ∧ x.id ≤ 4611686018427387904) ∧ x.text.size ≤ 60
theorem triS_chk (S : Seen) (i : Nat) (hi : i ≤ 40) (E : List Ed) (h : E.length ≤ 16) (h2 : EdOk E) : (triS S i E).rep.chk = 0 := state_chk S i hi E h h2

def clashB2 (a b : List Cd) : Bool := a.any fun x => b.any fun y => decide (x.site = y.site ∧ x.count = y.count ∧ x ≠ y)
def mergeRd (a b : Tri) : Ans :=
  if a.rep.chk = 0 then
    if b.rep.chk = 0 then
      if clashB2 a.C b.C = true then ansErr 6 0
      else if 8 < (mergeK a.K b.K).length ∨ 40 < (mergeC a.C b.C).length ∨ 16 < (bothE a.E b.E).length then ansErr 1 0
      else ⟨0, 0, 0, 0, mergeK a.K b.K, mergeC a.C b.C, bothE a.E b.E⟩
    else ansErr b.rep.chk 0
  else ansErr a.rep.chk 0
theorem merge_states {S T M : Seen} (h : Most S T M) (i : Nat) (hi : i ≤ 40) (D E : List Ed) (hD : D.length ≤ 16) (hE : E.length ≤ 16) (hD2 : EdOk D) (hE2 : EdOk E) (hb : (bothE D E).length ≤ 16) :
    mergeRd (triS S i D) (triS T i E) = ⟨0, 0, 0, 0, (triS M i (bothE D E)).K, (triS M i (bothE D E)).C, bothE D E⟩ := by
  have c1 := triS_chk S i hi D hD hD2
  have c2 := triS_chk T i hi E hE hE2
  have hc : mergeC (triS S i D).C (triS T i E).C = (runS M i).2 := most_cards h i
  have hk : mergeK (triS S i D).K (triS T i E).K = clocksTo (runS M i).1 8 := merge_clocks _ _ _ (fun k hk => most_counts h i k hk)
  have hcl : clashB2 (triS S i D).C (triS T i E).C = false := by
    simp only [clashB2, List.any_eq_false, decide_eq_true_eq, Bool.not_eq_true]
    intro x hx y hy e
    have hy := run_isW T h.p2 i y hy
    rw [h.w2] at hy
    exact e.2.2 (isW_sole S.w x y (run_isW S h.p1 i x hx) hy e.1 e.2.1)
  have l1 := clocksTo_length (runS M i).1 8
  have l2 := runS_cards M i
  unfold mergeRd
  rw [if_pos c1, if_pos c2, if_neg (by rw [hcl]; decide), hc, hk, if_neg]
  · rfl
  · show ¬ (_ ∨ _ ∨ 16 < (bothE D E).length); omega

/-- One sees all that another sees. -/
structure Less (S T : Seen) : Prop where
  w : T.w = S.w
  lim : ∀ k, k < 8 → limS S k ≤ limS T k
  p1 : ∀ k, 0 ≤ limS S k
  p2 : ∀ k, 0 ≤ limS T k
theorem Less.most {S T : Seen} (h : Less S T) : Most S T T := ⟨h.w, h.w, fun k hk => by have := h.lim k hk; omega, h.p1, h.p2, h.p2⟩
theorem less_follows {S T : Seen} (h : Less S T) (i : Nat) (D E : List Ed) : followB (triS S i D) (triS T i E) = true := by
  simp only [followB, followK, followC, Bool.and_eq_true, List.all_eq_true]
  constructor
  · intro x hx
    obtain ⟨k, hk, rfl, h0⟩ := clocks_mem hx
    have hm := most_counts h.most i k hk
    have : look Ck.site (triS T i E).K (siteL.getD k 0) = some ⟨siteL.getD k 0, (runS T i).1.getD k 0⟩ := by
      show look Ck.site (clocksTo (runS T i).1 8) _ = _
      rw [clocks_look _ k (by omega) hk, if_pos (by omega)]
    rw [show (⟨siteL.getD k 0, (runS S i).1.getD k 0⟩ : Ck).site = siteL.getD k 0 from rfl, this]
    simp only [decide_eq_true_eq]; omega
  · intro x hx
    have hl := most_look h.most x.id i
    rw [look_some Cd.id (run_asc S i) hx] at hl
    show (match look Cd.id (runS T i).2 x.id with | some d => laterB d x || decide (d = x) | none => false) = true
    cases hd : look Cd.id (runS T i).2 x.id with
    | none => rw [hd] at hl; cases hl
    | some d =>
      rw [hd] at hl
      simp only [over, Option.some.injEq] at hl
      simp only [Bool.or_eq_true, decide_eq_true_eq]
      unfold keepC at hl
      cases hlt : laterB d x with
      | true => exact Or.inl rfl
      | false => rw [hlt] at hl; exact Or.inr hl
/-- One that has seen nothing follows just nothing. -/
theorem nothing_follows {S Z : Seen} (i : Nat) (hz : ∀ k, k < 8 → limS Z k = 0) (p : ∀ k, 0 ≤ limS Z k) (D E : List Ed) : followB (triS S i D) (triS Z i E) = decide ((triS S i D).K.length = 0) := by
  have hZK : clocksTo (runS Z i).1 8 = [] := by
    cases hh : clocksTo (runS Z i).1 8 with
    | nil => rfl
    | cons x l =>
      obtain ⟨k, hk, _, h0⟩ := clocks_mem (show x ∈ clocksTo (runS Z i).1 8 by rw [hh]; simp)
      rw [counts_min Z p k hk, hz k hk] at h0; omega
  by_cases h0 : (triS S i D).K.length = 0
  · rw [decide_eq_true h0]
    have hK : clocksTo (runS S i).1 8 = [] := List.length_eq_zero_iff.mp h0
    have hC : (runS S i).2 = [] := by
      cases hh : (runS S i).2 with
      | nil => rfl
      | cons x l =>
        have hg := (runS_good S i).1 x (by rw [hh]; simp)
        obtain ⟨k, hk, _, h1, h2⟩ := hg.site
        have := clocks_look (runS S i).1 k (n := 8) (by omega) hk
        rw [hK, if_pos (by omega)] at this; cases this
    simp [followB, followK, followC, triS, hK, hC]
  · rw [decide_eq_false h0]
    cases hh : clocksTo (runS S i).1 8 with
    | nil => exact absurd (by simp [triS, hh]) h0
    | cons x l => simp [followB, followK, triS, hh, hZK, look]
end Go.Proofs.Ytdjpkgaicmklmaa

/- How the reference merges: clocks over all sites, cards over all numbers: it is the merge of rising lists: without the program. -/
namespace Go.Proofs.Ytdjpkgaicmklmaa
open Go.RowKit

/-- The count of a site. -/
def clkOf (K : List Ck) (s : Int) : Int := match look Ck.site K s with
  | some c => c.count
  | none => 0
def mostC (a b : List Ck) (s : Int) : Int := max (clkOf a s) (clkOf b s)
/-- The greater clocks of both, over the sites up to n. -/
def refClk (a b : List Ck) : Nat → List Ck
  | 0 => []
  | n + 1 => if 0 < mostC a b ((n : Int) + 1) then refClk a b n ++ [⟨(n : Int) + 1, mostC a b ((n : Int) + 1)⟩] else refClk a b n
theorem refClk_mem {a b : List Ck} {x : Ck} : ∀ {n : Nat}, x ∈ refClk a b n → 1 ≤ x.site ∧ x.site ≤ n ∧ 0 < x.count ∧ x.count = mostC a b x.site
  | 0, h => by cases h
  | n + 1, h => by
    simp only [refClk] at h
    split at h
    · rename_i hp
      rcases List.mem_append.1 h with h | h
      · have := refClk_mem h; omega
      · simp at h; subst h; exact ⟨by simp; omega, by simp, hp, rfl⟩
    · have := refClk_mem h; omega
theorem refClk_asc (a b : List Ck) : ∀ n, Asc Ck.site (refClk a b n)
  | 0 => List.Pairwise.nil
  | n + 1 => by
    simp only [refClk]
    split
    · refine List.pairwise_append.2 ⟨refClk_asc a b n, List.pairwise_singleton _ _, fun x hx y hy => ?_⟩
      simp at hy; subst hy
      have := refClk_mem hx; simp; omega
    · exact refClk_asc a b n
theorem refClk_has {a b : List Ck} {s : Nat} (hs : 0 < mostC a b ((s : Int) + 1)) : ∀ {n : Nat}, s < n → (⟨(s : Int) + 1, mostC a b ((s : Int) + 1)⟩ : Ck) ∈ refClk a b n
  | 0, h => by omega
  | n + 1, h => by
    by_cases e : s = n
    · subst e; simp [refClk, hs]
    · have := refClk_has hs (n := n) (by omega)
      simp only [refClk]; split
      · exact List.mem_append_left _ this
      · exact this
theorem clkOf_look {K : List Ck} (s : Int) (hp : ∀ x ∈ K, 1 ≤ x.count) : (look Ck.site K s = none ∧ clkOf K s = 0) ∨ ∃ c, look Ck.site K s = some c ∧ c.site = s ∧ clkOf K s = c.count ∧ 1 ≤ c.count := by
  unfold clkOf
  cases h : look Ck.site K s with
  | none => exact Or.inl ⟨rfl, rfl⟩
  | some c => exact Or.inr ⟨c, rfl, (look_mem Ck.site h).2, rfl, hp c (look_mem Ck.site h).1⟩
theorem refClk_eq {a b : List Ck} (ha : Asc Ck.site a) (hb : Asc Ck.site b) (pa : ∀ x ∈ a, 1 ≤ x.site ∧ x.site ≤ 200 ∧ 1 ≤ x.count) (pb : ∀ x ∈ b, 1 ≤ x.site ∧ x.site ≤ 200 ∧ 1 ≤ x.count) : refClk a b 200 = mergeK a b := by
  refine asc_ext Ck.site (refClk_asc a b 200) (layK_asc Ck.site (fun o c h => keepK_site o c h) ha) fun s => ?_
  unfold mergeK
  rw [look_lay Ck.site (fun o c h => keepK_site o c h) ha hb]
  have h1 := clkOf_look (K := a) s (fun x hx => (pa x hx).2.2)
  have h2 := clkOf_look (K := b) s (fun x hx => (pb x hx).2.2)
  have key : ∀ c : Ck, c.site = s → 1 ≤ s → s ≤ 200 → 0 < c.count → c.count = mostC a b s → look Ck.site (refClk a b 200) s = some c := by
    intro c hs h3 h4 h5 h6
    obtain ⟨m, hm⟩ : ∃ m : Nat, s = (m : Int) + 1 := ⟨(s - 1).toNat, by omega⟩
    have := refClk_has (a := a) (b := b) (s := m) (by rw [← hm, ← h6]; exact h5) (n := 200) (by omega)
    rw [← hm, ← h6] at this
    have e : (⟨s, c.count⟩ : Ck) = c := by rw [← hs]
    rw [e] at this
    have := look_some Ck.site (refClk_asc a b 200) this
    rw [hs] at this; exact this
  rcases h1 with ⟨e1, z1⟩ | ⟨c, e1, s1, z1, p1⟩
  · rcases h2 with ⟨e2, z2⟩ | ⟨d, e2, s2, z2, p2⟩
    · rw [e1, e2]
      have : look Ck.site (refClk a b 200) s = none := look_none Ck.site (fun x hx e => by
        have := refClk_mem hx
        rw [e] at this; unfold mostC at this; omega)
      rw [this]; rfl
    · have r := pb d (look_mem Ck.site e2).1
      rw [e1, e2, key d s2 (by omega) (by omega) (by omega) (by unfold mostC; omega)]; rfl
  · have r := pa c (look_mem Ck.site e1).1
    rcases h2 with ⟨e2, z2⟩ | ⟨d, e2, s2, z2, p2⟩
    · rw [e1, e2, key c s1 (by omega) (by omega) (by omega) (by unfold mostC; omega)]; rfl
    · rw [e1, e2]
      simp only [over, keepK]
      split
      · exact key d s2 (by omega) (by omega) (by omega) (by unfold mostC; omega)
      · exact key c s1 (by omega) (by omega) (by omega) (by unfold mostC; omega)

/-- The least number above another among some; 0: none. -/
def lowStep (id n x : Int) : Int := if id < x ∧ (n = 0 ∨ x < n) then x else n
def lowAbove (id : Int) (l : List Int) : Int := l.foldl (lowStep id) 0
theorem low_fold (id : Int) (h0 : 0 ≤ id) : ∀ (l : List Int) (n : Int), (n = 0 ∨ id < n) → (l.foldl (lowStep id) n = 0 ∨ id < l.foldl (lowStep id) n) ∧
    (l.foldl (lowStep id) n = n ∨ l.foldl (lowStep id) n ∈ l) ∧ (∀ x ∈ l, id < x → l.foldl (lowStep id) n ≤ x ∧ l.foldl (lowStep id) n ≠ 0) ∧ (n ≠ 0 → l.foldl (lowStep id) n ≤ n ∧ l.foldl (lowStep id) n ≠ 0)
  | [], n, hn => ⟨hn, Or.inl rfl, fun x hx => (by cases hx), fun h => ⟨Int.le_refl _, h⟩⟩
  | y :: l, n, hn => by
    simp only [List.foldl_cons]
    have hs : lowStep id n y = 0 ∨ id < lowStep id n y := by unfold lowStep; split; (right; omega); exact hn
    obtain ⟨h1, h2, h3, h4⟩ := low_fold id h0 l (lowStep id n y) hs
    refine ⟨h1, ?_, ?_, ?_⟩
    · rcases h2 with h2 | h2
      · rw [h2]; unfold lowStep; split
        · right; simp
        · left; rfl
      · right; simp [h2]
    · intro x hx hlt
      rcases List.mem_cons.1 hx with rfl | hx
      · have hne : lowStep id n x ≠ 0 := by unfold lowStep; split; omega; omega
        have hle : lowStep id n x ≤ x := by unfold lowStep; split; omega; omega
        have := h4 hne; omega
      · exact h3 x hx hlt
    · intro hne
      have hne2 : lowStep id n y ≠ 0 := by unfold lowStep; split <;> omega
      have hle : lowStep id n y ≤ n := by unfold lowStep; split <;> omega
      have := h4 hne2; omega
theorem low_none {id : Int} {l : List Int} (h0 : 0 ≤ id) (h : ∀ x ∈ l, x ≤ id) : lowAbove id l = 0 := by
  obtain ⟨h1, h2, _, _⟩ := low_fold id h0 l 0 (Or.inl rfl)
  rcases h2 with h2 | h2
  · exact h2
  · rcases h1 with h1 | h1
    · exact h1
    · have := h _ h2; unfold lowAbove; omega
theorem low_is {id x : Int} {l : List Int} (h0 : 0 ≤ id) (hx : x ∈ l) (hlt : id < x) (hle : ∀ y ∈ l, id < y → x ≤ y) : lowAbove id l = x := by
  obtain ⟨h1, h2, h3, _⟩ := low_fold id h0 l 0 (Or.inl rfl)
  have := h3 x hx hlt
  unfold lowAbove
  rcases h2 with h2 | h2
  · omega
  · rcases h1 with h1 | h1
    · omega
    · have := hle _ h2 h1; omega

/-- The numbers of the cards of both. -/
def idsOf (a b : List Cd) : List Int := a.map Cd.id ++ b.map Cd.id
/-- The card of a number that the reference takes. -/
def takeC (a b : List Cd) (id : Int) : Cd := match look Cd.id a id, look Cd.id b id with
  | none, some y => y
  | some x, none => x
  | some x, some y => if laterB y x then y else x
  | none, none => ⟨0, 0, 0, false, ⟨#[]⟩⟩
theorem take_look {a b : List Cd} {id : Int} {c : Cd} (h : over keepC (look Cd.id a id) (look Cd.id b id) = some c) : takeC a b id = c := by
  unfold takeC
  cases h1 : look Cd.id a id with
  | none =>
    cases h2 : look Cd.id b id with
    | none => rw [h1, h2] at h; cases h
    | some y => rw [h1, h2] at h; simpa [over] using h
  | some x =>
    cases h2 : look Cd.id b id with
    | none => rw [h1, h2] at h; simpa [over] using h
    | some y => rw [h1, h2] at h; simpa [over, keepC] using h
theorem merge_ids {a b : List Cd} (ha : Asc Cd.id a) (hb : Asc Cd.id b) (id : Int) : (∃ c ∈ mergeC a b, c.id = id) ↔ id ∈ idsOf a b := by
  have hm : Asc Cd.id (mergeC a b) := layK_asc Cd.id (fun o c h => keepC_id o c h) ha
  have hl := look_lay Cd.id (fun o c h => keepC_id o c h) ha hb id
  unfold idsOf
  rw [List.mem_append, List.mem_map, List.mem_map]
  constructor
  · rintro ⟨c, hc, rfl⟩
    have := look_some Cd.id hm hc
    rw [show mergeC a b = layK Cd.id keepC a b from rfl, hl] at this
    cases h1 : look Cd.id a c.id with
    | some x => exact Or.inl ⟨x, (look_mem Cd.id h1).1, (look_mem Cd.id h1).2⟩
    | none =>
      cases h2 : look Cd.id b c.id with
      | some y => exact Or.inr ⟨y, (look_mem Cd.id h2).1, (look_mem Cd.id h2).2⟩
      | none => rw [h1, h2] at this; cases this
  · intro h
    have hs : ∃ c, over keepC (look Cd.id a id) (look Cd.id b id) = some c := by
      rcases h with ⟨x, hx, rfl⟩ | ⟨x, hx, rfl⟩
      · rw [look_some Cd.id ha hx]
        cases look Cd.id b x.id with
        | none => exact ⟨_, rfl⟩
        | some y => exact ⟨_, rfl⟩
      · rw [look_some Cd.id hb hx]
        cases look Cd.id a x.id with
        | none => exact ⟨_, rfl⟩
        | some y => exact ⟨_, rfl⟩
    obtain ⟨c, hc⟩ := hs
    rw [← hl] at hc
    exact ⟨c, (look_mem Cd.id hc).1, (look_mem Cd.id hc).2⟩
/-- The k-th number is the least above the one ahead of it; its card is the merged one. -/
def idAt (M : List Cd) (k : Nat) : Int := match M[k]? with
  | some c => c.id
  | none => 0
theorem low_first {a b : List Cd} (ha : Asc Cd.id a) (hb : Asc Cd.id b) (p : ∀ c ∈ mergeC a b, 0 < c.id) : lowAbove 0 (idsOf a b) = idAt (mergeC a b) 0 := by
  have hm : Asc Cd.id (mergeC a b) := layK_asc Cd.id (fun o c h => keepC_id o c h) ha
  unfold idAt
  cases hM : mergeC a b with
  | nil =>
    show lowAbove 0 (idsOf a b) = 0
    refine low_none (Int.le_refl _) fun x hx => ?_
    obtain ⟨c, hc, _⟩ := (merge_ids ha hb x).2 hx
    rw [hM] at hc; cases hc
  | cons c M =>
    rw [hM] at hm p
    show lowAbove 0 (idsOf a b) = c.id
    refine low_is (Int.le_refl _) ((merge_ids ha hb c.id).1 ⟨c, by rw [hM]; simp, rfl⟩) (p c (by simp)) fun y hy _ => ?_
    obtain ⟨d, hd, rfl⟩ := (merge_ids ha hb y).2 hy
    rw [hM] at hd
    rcases List.mem_cons.1 hd with rfl | hd
    · exact Int.le_refl _
    · have := (List.pairwise_cons.1 hm).1 d hd; omega
theorem low_next {a b : List Cd} (ha : Asc Cd.id a) (hb : Asc Cd.id b) (p : ∀ c ∈ mergeC a b, 0 < c.id) (k : Nat) (hk : k < (mergeC a b).length) :
    lowAbove (idAt (mergeC a b) k) (idsOf a b) = idAt (mergeC a b) (k + 1) ∧ 0 < idAt (mergeC a b) k ∧ takeC a b (idAt (mergeC a b) k) = (mergeC a b)[k] := by
  have hm : Asc Cd.id (mergeC a b) := layK_asc Cd.id (fun o c h => keepC_id o c h) ha
  have hl := look_lay Cd.id (fun o c h => keepC_id o c h) ha hb
  have hp : ∀ i j (hi : i < (mergeC a b).length) (hj : j < (mergeC a b).length), i < j → (mergeC a b)[i].id < (mergeC a b)[j].id := fun i j hi hj hij => List.pairwise_iff_getElem.1 hm i j hi hj hij
  have e0 : idAt (mergeC a b) k = (mergeC a b)[k].id := by unfold idAt; rw [List.getElem?_eq_getElem hk]
  have p0 := p _ (List.getElem_mem hk)
  rw [e0]
  refine ⟨?_, p0, take_look ?_⟩
  · unfold idAt
    by_cases h1 : k + 1 < (mergeC a b).length
    · rw [List.getElem?_eq_getElem h1]
      show lowAbove _ (idsOf a b) = (mergeC a b)[k + 1].id
      refine low_is (by omega) ((merge_ids ha hb _).1 ⟨_, List.getElem_mem h1, rfl⟩) (hp k (k + 1) hk h1 (by omega)) fun y hy hlt => ?_
      obtain ⟨d, hd, rfl⟩ := (merge_ids ha hb y).2 hy
      obtain ⟨j, hj, rfl⟩ := List.mem_iff_getElem.1 hd
      rcases Nat.lt_trichotomy j (k + 1) with h | h | h
      · rcases Nat.lt_or_ge j k with h2 | h2
        · have := hp j k hj hk h2; omega
        · have : j = k := by omega
          subst this; omega
      · subst h; exact Int.le_refl _
      · have := hp (k + 1) j h1 hj h; omega
    · rw [List.getElem?_eq_none (by omega)]
      show lowAbove _ (idsOf a b) = 0
      refine low_none (by omega) fun y hy => ?_
      obtain ⟨d, hd, rfl⟩ := (merge_ids ha hb y).2 hy
      obtain ⟨j, hj, rfl⟩ := List.mem_iff_getElem.1 hd
      rcases Nat.lt_or_ge j k with h2 | h2
      · have := hp j k hj hk h2; omega
      · have : j = k := by omega
        subst this; exact Int.le_refl _
  · rw [← hl]
    exact look_some Cd.id hm (List.getElem_mem hk)
end Go.Proofs.Ytdjpkgaicmklmaa

/- The reference's Later, find, behind, clocks, joined: walked. -/
namespace Go.Proofs.Ytdjpkgaicmklmaa
open Go.RowKit

set_option maxRecDepth 100000 in
set_option maxHeartbeats 4000000 in
theorem rlater_any (a b : Cd) (w : World) :
    Calls Try.prog 109 #[.agg a.cells.toArray, .agg b.cells.toArray] w fun e w' => e = .returned (.bool (laterB a b)) ∧ Below w.heap.size w w' := by
  obtain ⟨hA, hB, hs, hb⟩ := two_boxes w 69 69 a.cells.toArray b.cells.toArray
  have a1 := hA.cell 1; have a2 := hA.cell 2
  have b1 := hB.cell 1; have b2 := hB.cell 2
  dsimp only [List.getElem?_cons_zero, List.getElem?_cons_succ] at a1 a2 b1 b2
  have HB : Hid (Below w.heap.size w ((w.alloc (.cells a.cells.toArray 69)).alloc (.cells b.cells.toArray 69))) := hb
  have HL : Hid (laterB a b = (decide (b.count < a.count) || (a.count == b.count && decide (b.site < a.site)))) := by
    show _ = _; unfold laterB; first | rfl | (simp; done)
  clear hA hB hs hb
  by_cases h1 : b.count < a.count
  · have E : Hid (laterB a b = true) := by show _ = _; rw [HL.out]; simp [h1]
    clear HL
    go_enter Try.func109, Try.ntmps109
    go_wp2_with fail
    go_ret
    exact ⟨by rw [E.out]; rfl, HB.out⟩
  · by_cases h2 : a.count = b.count
    · by_cases h3 : b.site < a.site
      · have E : Hid (laterB a b = true) := by show _ = _; rw [HL.out]; simp [h2, h3]
        have q : (a.count == b.count) = true := by simp [h2]
        clear HL h2
        go_enter Try.func109, Try.ntmps109
        go_wp2_with fail
        go_ret
        exact ⟨by rw [E.out]; rfl, HB.out⟩
      · have E : Hid (laterB a b = false) := by show _ = _; rw [HL.out]; simp [h1, h3]
        have q : (a.count == b.count) = true := by simp [h2]
        clear HL h2
        go_enter Try.func109, Try.ntmps109
        go_wp2_with fail
        go_ret
        exact ⟨by rw [E.out]; rfl, HB.out⟩
    · have E : Hid (laterB a b = false) := by show _ = _; rw [HL.out]; simp [h1, h2]
      have q : (a.count == b.count) = false := by simp [h2]
      clear HL
      go_enter Try.func109, Try.ntmps109
      go_wp2_with fail
      go_ret
      exact ⟨by rw [E.out]; rfl, HB.out⟩

/-- The place of a card's number, or -1. -/
def findR (R : Rep) (id : Int) : Option Nat := firstOf (fun i => (R.d i).id == id) R.n2
def findI (R : Rep) (id : Int) : Int := match findR R id with
  | some i => (i : Int)
  | none => -1

set_option maxRecDepth 100000 in
set_option maxHeartbeats 4000000 in
theorem find_any (R : Rep) (a1 a2 a3 : Option Addr) (k1 k2 k3 : Nat) (id : Int) (w : World) (hR : Has w R a1 a2 a3) :
    Calls Try.prog 108 #[repV R a1 a2 a3 k1 k2 k3, .int .i64 id] w fun e w' => e = .returned (.int .i64 (findI R id)) ∧ Below w.heap.size w w' := by
  have b2 := hR.b2
  go_enter Try.func108, Try.ntmps108
  go_wp2
  go_loopw [5] (fun i wr => ∃ k : Nat, k ≤ R.n2 ∧ i = .int .i64 k ∧ (∀ j, j < k → ((R.d j).id == id) = false) ∧ BoxR w R a1 a2 a3 k1 k2 k3 wr) (fun i _ => R.n2 - (intOf i).toNat)
  case atStart => exact ⟨0, Nat.zero_le _, rfl, fun j hj => by omega, Below.refl _ _⟩
  case round =>
    obtain ⟨k, hk, rfl, hno, hb⟩ := hrel
    obtain ⟨x1, x2, x3⟩ := box3 hb
    have HN : Hid (∀ j, j < k → ((R.d j).id == id) = false) := hno
    clear hno
    by_cases hlt : k < R.n2
    · obtain ⟨b, o, hbl, hix, c0, c1, c2, c3, c4⟩ := (hR.below (below_box hb)).l2.card k2 hlt
      cases hq : ((R.d k).id == id) with
      | true =>
        have E : Hid (findI R id = (k : Int)) := by
          show _ = _
          unfold findI findR
          rw [(firstOf_some (f := fun i => (R.d i).id == id) (n := R.n2) (i := k)).mpr ⟨hq, hlt, HN.out⟩]
        go_wp2
        go_ret
        exact ⟨by rw [E.out]; rfl, below_box hb⟩
      | false =>
        have HQ : Hid (((R.d k).id == id) = false) := hq
        go_wp2
        go_roundw
        case rel => exact ⟨k + 1, by omega, by go_num, fun j hj => by rcases Nat.lt_or_ge j k with h | h; (exact HN.out j h); (rw [show j = k by omega]; exact HQ.out), hb⟩
        case measure => simp [intOf]; omega
    · obtain rfl : R.n2 = k := by omega
      have E : Hid (findI R id = -1) := by
        show _ = _
        unfold findI findR
        rw [(firstOf_none (f := fun i => (R.d i).id == id)).mpr HN.out]
      go_wp2
      go_ret
      exact ⟨by rw [E.out]; rfl, below_box hb⟩

/-- The numbers of the cards of both, as they are gone over. -/
def idsR (A B : Rep) (i : Nat) : Int := if i < A.n2 then (A.d i).id else (B.d (i - A.n2)).id
def lowTo (A B : Rep) (id : Int) : Nat → Int
  | 0 => 0
  | k + 1 => lowStep id (lowTo A B id k) (idsR A B k)
def lowR (A B : Rep) (id : Int) : Int := lowTo A B id (A.n2 + B.n2)

set_option maxRecDepth 100000 in
set_option maxHeartbeats 4000000 in
theorem behind_any (A B : Rep) (a1 a2 a3 b1 b2 b3 : Option Addr) (k1 k2 k3 l1 l2 l3 : Nat) (id : Int) (w : World) (hA : Has w A a1 a2 a3) (hB : Has w B b1 b2 b3) :
    Calls Try.prog 107 #[repV A a1 a2 a3 k1 k2 k3, repV B b1 b2 b3 l1 l2 l3, .int .i64 id] w fun e w' => e = .returned (.int .i64 (lowR A B id)) ∧ Below w.heap.size w w' := by
  have y2 := hA.b2
  have u2 := hB.b2
  have h0 : BoxT w A B a1 a2 a3 b1 b2 b3 k1 k2 k3 l1 l2 l3 ((w.alloc (.cells #[.slice a1 A.n1 k1, .slice a2 A.n2 k2, .slice a3 A.n3 k3] 26)).alloc (.cells #[.slice b1 B.n1 l1, .slice b2 B.n2 l2, .slice b3 B.n3 l3] 26)) := Below.refl _ _
  have H0 : Hid (BoxT w A B a1 a2 a3 b1 b2 b3 k1 k2 k3 l1 l2 l3 ((w.alloc (.cells #[.slice a1 A.n1 k1, .slice a2 A.n2 k2, .slice a3 A.n3 k3] 26)).alloc (.cells #[.slice b1 B.n1 l1, .slice b2 B.n2 l2, .slice b3 B.n3 l3] 26))) := h0
  clear h0
  go_enter Try.func107, Try.ntmps107
  go_wp2_with fail
  go_loopw [7, 8, 9] (fun v u _ wr => ∃ i : Nat, i ≤ A.n2 + B.n2 ∧ u = .int .i64 i ∧ v = .int .i64 (lowTo A B id i) ∧ BoxT w A B a1 a2 a3 b1 b2 b3 k1 k2 k3 l1 l2 l3 wr) (fun _ u _ _ => A.n2 + B.n2 - (intOf u).toNat)
  case atStart => exact ⟨0, Nat.zero_le _, rfl, rfl, H0.out⟩
  case round =>
    obtain ⟨i, hi, rfl, rfl, hb⟩ := hrel
    obtain ⟨⟨x1, x2, x3⟩, z1, z2, z3⟩ := hb.cells
    by_cases hlt : i < A.n2 + B.n2
    · have HS : Hid (lowTo A B id (i + 1) = lowStep id (lowTo A B id i) (idsR A B i)) := rfl
      by_cases hlA : i < A.n2
      · obtain ⟨b, o, hbl, hix, c0, -⟩ := (hA.below hb.old).l2.card k2 hlA
        have HX : Hid (idsR A B i = (A.d i).id) := by show _ = _; unfold idsR; rw [if_pos hlA]
        generalize (A.d i).id = x at *
        generalize lowTo A B id i = n at *
        by_cases h1 : id < x
        · by_cases h2 : n = 0
          · have q2 : (n == 0) = true := by simp [h2]
            have E : Hid (lowTo A B id (i + 1) = x) := by show _ = _; rw [HS.out, HX.out]; unfold lowStep; rw [if_pos ⟨h1, Or.inl h2⟩]
            clear h2
            go_wp2_with fail
            go_roundw
            case rel => exact ⟨i + 1, by omega, by go_num, by rw [E.out], hb⟩
            case measure => simp [intOf]; omega
          · have q2 : (n == 0) = false := by simp [h2]
            by_cases h3 : x < n
            · have E : Hid (lowTo A B id (i + 1) = x) := by show _ = _; rw [HS.out, HX.out]; unfold lowStep; rw [if_pos ⟨h1, Or.inr h3⟩]
              clear h2
              go_wp2_with fail
              go_roundw
              case rel => exact ⟨i + 1, by omega, by go_num, by rw [E.out], hb⟩
              case measure => simp [intOf]; omega
            · have E : Hid (lowTo A B id (i + 1) = n) := by show _ = _; rw [HS.out, HX.out]; unfold lowStep; rw [if_neg (by omega)]
              clear h2
              go_wp2_with fail
              go_roundw
              case rel => exact ⟨i + 1, by omega, by go_num, by rw [E.out], hb⟩
              case measure => simp [intOf]; omega
        · have E : Hid (lowTo A B id (i + 1) = n) := by show _ = _; rw [HS.out, HX.out]; unfold lowStep; rw [if_neg (by omega)]
          go_wp2_with fail
          go_roundw
          case rel => exact ⟨i + 1, by omega, by go_num, by rw [E.out], hb⟩
          case measure => simp [intOf]; omega
      · obtain ⟨j, hj⟩ : ∃ j, i = A.n2 + j := ⟨i - A.n2, by omega⟩
        have hjB : j < B.n2 := by omega
        obtain ⟨b, o, hbl, hix, c0, -⟩ := (hB.below hb.old).l2.card l2 hjB
        have HX : Hid (idsR A B i = (B.d j).id) := by show _ = _; unfold idsR; rw [if_neg hlA, hj, Nat.add_sub_cancel_left]
        have hsub : (i : Int) - (A.n2 : Int) = (j : Int) := by omega
        have hj2 : ¬ (i : Int) < (A.n2 : Int) := by omega
        clear hj
        generalize (B.d j).id = x at *
        generalize lowTo A B id i = n at *
        by_cases h1 : id < x
        · by_cases h2 : n = 0
          · have q2 : (n == 0) = true := by simp [h2]
            have E : Hid (lowTo A B id (i + 1) = x) := by show _ = _; rw [HS.out, HX.out]; unfold lowStep; rw [if_pos ⟨h1, Or.inl h2⟩]
            clear h2
            go_wp2_with fail
            go_roundw
            case rel => exact ⟨i + 1, by omega, by go_num, by rw [E.out], hb⟩
            case measure => simp [intOf]; omega
          · have q2 : (n == 0) = false := by simp [h2]
            by_cases h3 : x < n
            · have E : Hid (lowTo A B id (i + 1) = x) := by show _ = _; rw [HS.out, HX.out]; unfold lowStep; rw [if_pos ⟨h1, Or.inr h3⟩]
              clear h2
              go_wp2_with fail
              go_roundw
              case rel => exact ⟨i + 1, by omega, by go_num, by rw [E.out], hb⟩
              case measure => simp [intOf]; omega
            · have E : Hid (lowTo A B id (i + 1) = n) := by show _ = _; rw [HS.out, HX.out]; unfold lowStep; rw [if_neg (by omega)]
              clear h2
              go_wp2_with fail
              go_roundw
              case rel => exact ⟨i + 1, by omega, by go_num, by rw [E.out], hb⟩
              case measure => simp [intOf]; omega
        · have E : Hid (lowTo A B id (i + 1) = n) := by show _ = _; rw [HS.out, HX.out]; unfold lowStep; rw [if_neg (by omega)]
          go_wp2_with fail
          go_roundw
          case rel => exact ⟨i + 1, by omega, by go_num, by rw [E.out], hb⟩
          case measure => simp [intOf]; omega
    · obtain rfl : A.n2 + B.n2 = i := by omega
      have E : Hid (lowR A B id = lowTo A B id (A.n2 + B.n2)) := rfl
      generalize lowTo A B id (A.n2 + B.n2) = n at *
      go_wp2_with fail
      go_ret
      exact ⟨by rw [E.out]; rfl, hb.old⟩
end Go.Proofs.Ytdjpkgaicmklmaa

/- The reference's clocks and joined: walked. -/
namespace Go.Proofs.Ytdjpkgaicmklmaa
open Go.RowKit

/-- A replica's lists. -/
def Rep.tri (R : Rep) : Tri := ⟨(List.range R.n1).map R.c, (List.range R.n2).map R.d, (List.range R.n3).map R.e⟩
theorem clockTo_look (c : Nat → Ck) (s : Int) : ∀ n, clockTo c s n = (look Ck.site ((List.range n).map c) s).map (·.count)
  | 0 => rfl
  | n + 1 => by
    simp only [clockTo]
    rw [clockTo_look c s n, List.range_succ, List.map_append, look_append]
    cases look Ck.site ((List.range n).map c) s with
    | some x => rfl
    | none =>
      simp only [Option.map_none, List.map_cons, List.map_nil, look, Option.none_or]
      split <;> rfl
theorem clk_look (R : Rep) (s : Int) : R.clk s = clkOf R.tri.K s := by
  unfold Rep.clk clkOf Rep.tri
  rw [clockTo_look]
  cases look Ck.site ((List.range R.n1).map R.c) s <;> rfl
theorem kcells_app (a b : List Ck) : kcells (a ++ b) = kcells a ++ kcells b := by simp [kcells]

set_option maxRecDepth 100000 in
set_option maxHeartbeats 4000000 in
theorem rclocks_any (A B : Rep) (a1 a2 a3 b1 b2 b3 : Option Addr) (k1 k2 k3 l1 l2 l3 : Nat) (w : World) (hA : Has w A a1 a2 a3) (hB : Has w B b1 b2 b3) :
    Calls Try.prog 105 #[repV A a1 a2 a3 k1 k2 k3, repV B b1 b2 b3 l1 l2 l3] w fun e w' => ∃ ad cap N, e = .returned (.slice ad N cap) ∧ N = (refClk A.tri.K B.tri.K 200).length ∧ Vec w' w.heap.size 67 2 ad N cap (kcells (refClk A.tri.K B.tri.K 200)) ∧ Below w.heap.size w w' := by
  have h0 : BoxT w A B a1 a2 a3 b1 b2 b3 k1 k2 k3 l1 l2 l3 ((w.alloc (.cells #[.slice a1 A.n1 k1, .slice a2 A.n2 k2, .slice a3 A.n3 k3] 26)).alloc (.cells #[.slice b1 B.n1 l1, .slice b2 B.n2 l2, .slice b3 B.n3 l3] 26)) := Below.refl _ _
  have H0 : Hid (BoxT w A B a1 a2 a3 b1 b2 b3 k1 k2 k3 l1 l2 l3 ((w.alloc (.cells #[.slice a1 A.n1 k1, .slice a2 A.n2 k2, .slice a3 A.n3 k3] 26)).alloc (.cells #[.slice b1 B.n1 l1, .slice b2 B.n2 l2, .slice b3 B.n3 l3] 26))) := h0
  have HA : Hid (Has w A a1 a2 a3) := hA
  have HB : Hid (Has w B b1 b2 b3) := hB
  clear h0 hA hB
  go_enter Try.func105, Try.ntmps105
  go_wp2_with fail
  go_loopw [5, 6, 7, 8] (fun v u _ _ wr => ∃ (i : Nat) (ad : Option Addr) (cap N : Nat), i ≤ 200 ∧ u = .int .i64 ((i : Int) + 1) ∧ v = .slice ad N cap ∧ N = (refClk A.tri.K B.tri.K i).length ∧ N ≤ i ∧ Vec wr (w.heap.size + 2) 67 2 ad N cap (kcells (refClk A.tri.K B.tri.K i)) ∧ BoxT w A B a1 a2 a3 b1 b2 b3 k1 k2 k3 l1 l2 l3 wr) (fun _ u _ _ _ => 201 - (intOf u).toNat)
  case atStart => exact ⟨0, none, 0, 0, by omega, rfl, rfl, rfl, by omega, Vec.nil _ _ _ _, H0.out⟩
  case round =>
    obtain ⟨i, ad, cap, N, hi, rfl, rfl, hN, hNi, hv, hb⟩ := hrel
    have HN : Hid (N = (refClk A.tri.K B.tri.K i).length) := hN
    clear hN
    obtain ⟨⟨x1, x2, x3⟩, z1, z2, z3⟩ := hb.cells
    by_cases hlt : i < 200
    · have hx := clk_look A ((i : Int) + 1)
      have hy := clk_look B ((i : Int) + 1)
      have HM : Hid (mostC A.tri.K B.tri.K ((i : Int) + 1) = max (A.clk ((i : Int) + 1)) (B.clk ((i : Int) + 1))) := by show _ = _; rw [hx, hy]; rfl
      have HS : Hid (refClk A.tri.K B.tri.K (i + 1) = if 0 < mostC A.tri.K B.tri.K ((i : Int) + 1) then refClk A.tri.K B.tri.K i ++ [⟨(i : Int) + 1, mostC A.tri.K B.tri.K ((i : Int) + 1)⟩] else refClk A.tri.K B.tri.K i) := rfl
      clear hx hy
      go_wp2_with fail
      refine (clocked_any A a1 a2 a3 k1 k2 k3 ((i : Int) + 1) _ (HA.out.below hb.old)).mono ?_
      rintro e w1 ⟨rfl, hb1⟩
      have hbs : w.heap.size + 2 ≤ wr.heap.size := by have := hb.size; simp at this; omega
      have hv1 := hv.keep hb1
      have hbx1 : BoxT w A B a1 a2 a3 b1 b2 b3 k1 k2 k3 l1 l2 l3 w1 := Below.trans hb (hb1.mono hbs)
      clear hv hb hb1 x1 x2 x3 z1 z2 z3 hbs
      obtain ⟨⟨x1, x2, x3⟩, z1, z2, z3⟩ := hbx1.cells
      go_wp2_with fail
      refine (clocked_any B b1 b2 b3 l1 l2 l3 ((i : Int) + 1) _ (HB.out.below hbx1.old)).mono ?_
      rintro e w2 ⟨rfl, hb2⟩
      have hbs : w.heap.size + 2 ≤ w1.heap.size := by have := hbx1.size; simp at this; omega
      have hv2 := hv1.keep hb2
      have hbx2 : BoxT w A B a1 a2 a3 b1 b2 b3 k1 k2 k3 l1 l2 l3 w2 := Below.trans hbx1 (hb2.mono hbs)
      clear hv1 hbx1 hb2 x1 x2 x3 z1 z2 z3 hbs
      have hbs : w.heap.size + 2 ≤ w2.heap.size := by have := hbx2.size; simp at this; omega
      generalize A.clk ((i : Int) + 1) = x at *
      generalize B.clk ((i : Int) + 1) = y at *
      generalize mostC A.tri.K B.tri.K ((i : Int) + 1) = z at *
      have HBX : Hid (∀ o : Obj, BoxT w A B a1 a2 a3 b1 b2 b3 k1 k2 k3 l1 l2 l3 (w2.alloc o)) := fun o => Below.alloc hbx2 hbs o
      by_cases hxy : x < y
      · have hz : z = y := by rw [HM.out]; omega
        subst hz
        by_cases hp : 0 < z
        · rw [if_pos hp] at HS
          go_wp2_with (at_builtin; refine wpList_push (by rfl) _ _ 22 (by rfl) (w.heap.size + 2) 67 2 16 (.agg #[.int .i64 0, .int .i64 0]) Try.underlying22 (by kernel_rfl) rfl (by decide) ad N cap _ (by rfl) (hv2.keep ((Below.refl _ _).alloc (Nat.le_refl _) _)) _ _ (Ck.cells ⟨(i : Int) + 1, z⟩) (by rfl) rfl ?_ ?_ ?_ ?_ ?_ ?_; exact new_cells _ _ _; exact ones1 _; (omega); (omega); (simp; omega); intro ad' cap' w' hv' hb' hs')
          go_roundw
          case rel => exact ⟨i + 1, ad', cap', N + 1, by omega, by go_num, rfl, by rw [HS.out]; simp; exact HN.out, by omega, by rw [HS.out, kcells_app]; simpa [kcells] using hv', Below.trans (HBX.out _) hb'⟩
          case measure => simp [intOf]; omega
        · rw [if_neg hp] at HS
          go_wp2_with fail
          go_roundw
          case rel => exact ⟨i + 1, ad, cap, N, by omega, by go_num, rfl, by rw [HS.out]; exact HN.out, by omega, by rw [HS.out]; exact hv2, hbx2⟩
          case measure => simp [intOf]; omega
      · have hz : z = x := by rw [HM.out]; omega
        subst hz
        by_cases hp : 0 < z
        · rw [if_pos hp] at HS
          go_wp2_with (at_builtin; refine wpList_push (by rfl) _ _ 22 (by rfl) (w.heap.size + 2) 67 2 16 (.agg #[.int .i64 0, .int .i64 0]) Try.underlying22 (by kernel_rfl) rfl (by decide) ad N cap _ (by rfl) (hv2.keep ((Below.refl _ _).alloc (Nat.le_refl _) _)) _ _ (Ck.cells ⟨(i : Int) + 1, z⟩) (by rfl) rfl ?_ ?_ ?_ ?_ ?_ ?_; exact new_cells _ _ _; exact ones1 _; (omega); (omega); (simp; omega); intro ad' cap' w' hv' hb' hs')
          go_roundw
          case rel => exact ⟨i + 1, ad', cap', N + 1, by omega, by go_num, rfl, by rw [HS.out]; simp; exact HN.out, by omega, by rw [HS.out, kcells_app]; simpa [kcells] using hv', Below.trans (HBX.out _) hb'⟩
          case measure => simp [intOf]; omega
        · rw [if_neg hp] at HS
          go_wp2_with fail
          go_roundw
          case rel => exact ⟨i + 1, ad, cap, N, by omega, by go_num, rfl, by rw [HS.out]; exact HN.out, by omega, by rw [HS.out]; exact hv2, hbx2⟩
          case measure => simp [intOf]; omega
    · obtain rfl : i = 200 := by omega
      go_wp2_with fail
      go_ret
      exact ⟨ad, cap, N, rfl, HN.out, hv.mono (by omega), hb.old⟩
end Go.Proofs.Ytdjpkgaicmklmaa

/- The reference's joined: walked. -/
namespace Go.Proofs.Ytdjpkgaicmklmaa
open Go.RowKit

theorem both_snoc (a b : List Ed) (e : Ed) : bothE a (b ++ [e]) = if e ∈ bothE a b then bothE a b else bothE a b ++ [e] := by
  unfold bothE; rw [List.foldl_append]; rfl
theorem range_ecells (E : List Ed) : ((List.range E.length).map fun i => (E.getD i ed0).cells).flatten = ecells E := by
  unfold ecells
  congr 1
  apply List.ext_getElem?
  intro i
  by_cases hi : i < E.length
  · simp [hi]
  · simp [hi]
theorem take_edit (E : List Ed) (i : Nat) (h : i < E.length) : E.take (i + 1) = E.take i ++ [E.getD i ed0] := by
  rw [List.take_succ_eq_append_getElem h, List.getD_eq_getElem?_getD, List.getElem?_eq_getElem h]; rfl
theorem ones_ed (x : Ed) : ∀ u, u ∈ x.cells → u.oneCell' = true := ones3 x

set_option maxRecDepth 100000 in
set_option maxHeartbeats 4000000 in
theorem rjoined_any (EA EB : List Ed) (a b : Option Addr) (n m ca cb : Nat) (w : World) (hA : Lies w a n 2 (fun i => (EA.getD i ed0).cells)) (hB : Lies w b m 2 (fun i => (EB.getD i ed0).cells)) (hn : n = EA.length) (hm : m = EB.length) (hn2 : n ≤ 1000) (hm2 : m ≤ 1000) :
    Calls Try.prog 106 #[.slice a n ca, .slice b m cb] w fun e w' => ∃ ad cap N, e = .returned (.slice ad N cap) ∧ N = (bothE EA EB).length ∧ Vec w' w.heap.size 71 2 ad N cap (ecells (bothE EA EB)) ∧ Below w.heap.size w w' := by
  have HN : Hid (n = EA.length) := hn
  have HM : Hid (m = EB.length) := hm
  have HA : Hid (Lies w a n 2 (fun i => (EA.getD i ed0).cells)) := hA
  have HB : Hid (Lies w b m 2 (fun i => (EB.getD i ed0).cells)) := hB
  clear hn hm hA hB
  go_enter Try.func106, Try.ntmps106
  go_wp2_with (at_builtin; refine wpList_pushAll (by rfl) _ _ 24 (by rfl) w.heap.size 71 2 24 (.agg #[.int .i64 0, .string ⟨#[]⟩]) Try.underlying24 (by kernel_rfl) rfl (by decide) none 0 0 [] (by rfl) (Vec.nil _ _ _ _) a n ca (fun i => (EA.getD i ed0).cells) (by rfl) HA.out (fun _ _ => rfl) (fun j _ => ones_ed _) ?_ ?_ ?_ n ?_ ?_; (omega); (omega); (exact Nat.le_refl _); (omega); intro ad1 cap1 w1 hv1 hb1 hs1)
  rw [List.nil_append, HN.out, range_ecells, ← HN.out] at hv1
  have HV1 : Hid (Vec w1 w.heap.size 71 2 ad1 n cap1 (ecells EA)) := hv1
  have HB1 : Hid (Below w.heap.size w w1) := hb1
  clear hv1 hb1 hs1
  go_loopw [5, 6, 7, 8] (fun v u _ _ wr => ∃ (i : Nat) (ad : Option Addr) (cap N : Nat), i ≤ m ∧ u = .int .i64 i ∧ v = .slice ad N cap ∧ N = (bothE EA (EB.take i)).length ∧ N ≤ 2000 ∧ Vec wr w.heap.size 71 2 ad N cap (ecells (bothE EA (EB.take i))) ∧ Below w.heap.size w wr) (fun _ u _ _ _ => m - (intOf u).toNat)
  case atStart => exact ⟨0, ad1, cap1, n, by omega, rfl, rfl, by simpa [bothE] using HN.out, by omega, by simpa [bothE] using HV1.out, HB1.out⟩
  case round =>
    obtain ⟨i, ad, cap, N, hi, rfl, rfl, hN, hN2, hv, hbw⟩ := hrel
    have HNN : Hid (N = (bothE EA (EB.take i)).length) := hN
    have HNB : Hid (N ≤ n + m) := by show _ ≤ _; have := both_len (EB.take i) EA; rw [hN, HN.out, HM.out]; simp at this; omega
    clear hN
    by_cases hlt : i < m
    · have hil : i < EB.length := by rw [← HM.out]; exact hlt
      have HT : Hid (bothE EA (EB.take (i + 1)) = if EB.getD i ed0 ∈ bothE EA (EB.take i) then bothE EA (EB.take i) else bothE EA (EB.take i) ++ [EB.getD i ed0]) := by
        show _ = _; rw [take_edit EB i hil, both_snoc]
      obtain ⟨bb, ob, hblb, hixb, e0, e1⟩ := Lies.edit (c := fun i => EB.getD i ed0) (HB.out.below hbw) cb hlt
      have HLV : Hid (Lies wr ad N 2 (fun i => ((bothE EA (EB.take i)).getD i ed0).cells) ∨ True) := Or.inr trivial
      generalize hL : bothE EA (EB.take i) = L at *
      have HL : Hid (Lies wr ad N 2 (fun k => (L.getD k ed0).cells)) := evec_lies hv HNN.out.symm
      generalize EB.getD i ed0 = ee at *
      clear hL HLV hil
      have HV5 : Hid (Vec wr w.heap.size 71 2 ad N cap (ecells L)) := hv
      have HBW : Hid (Below w.heap.size w wr) := hbw
      clear hv hbw
      generalize hwr : wr = w5 at *
      clear hwr
      go_wp2_with fail
      go_loopw [7, 8] (fun t u w2 => ∃ (k : Nat), k ≤ N ∧ u = .int .i64 k ∧ t = .bool (decide (ee ∈ L.take k)) ∧ Below w5.heap.size w5 w2) (fun _ u _ => N - (intOf u).toNat)
      case atStart => exact ⟨0, by omega, rfl, by simp, Below.refl _ _⟩
      case round =>
        obtain ⟨k, hk, rfl, rfl, hb2⟩ := hrel
        have f0 : wr.cell? ⟨bb, ob, none⟩ = some (.int .i64 ee.id) := (hb2.cell (p := ⟨bb, ob, none⟩) hblb).trans e0
        have f1 : wr.cell? ⟨bb, ob + 1, none⟩ = some (.string ee.text) := (hb2.cell (p := ⟨bb, ob + 1, none⟩) hblb).trans e1
        by_cases hlt2 : k < N
        · have hkl : k < L.length := by rw [← HNN.out]; exact hlt2
          have HTK : Hid (L.take (k + 1) = L.take k ++ [L.getD k ed0]) := take_edit L k hkl
          obtain ⟨bo, oo, hblo, hixo, g0, g1⟩ := Lies.edit (c := fun i => L.getD i ed0) (HL.out.below hb2) cap hlt2
          clear hkl
          generalize L.getD k ed0 = le at *
          cases hth : decide (ee ∈ L.take k) with
          | true =>
            have HD : Hid (decide (ee ∈ L.take (k + 1)) = true) := by
              have h : ee ∈ L.take k := of_decide_eq_true hth
              show _ = _; rw [HTK.out]; simp [h]
            clear hth
            go_wp2_with fail
            go_quiet (fail)
            go_wp2_with fail
            go_roundw
            case rel => exact ⟨k + 1, by omega, by go_num, by rw [HD.out], below_drewN hb2 _⟩
            case measure => simp [intOf]; omega
          | false =>
            have hno : ¬ ee ∈ L.take k := of_decide_eq_false hth
            by_cases heq : le = ee
            · have HD : Hid (decide (ee ∈ L.take (k + 1)) = true) := by show _ = _; rw [HTK.out, heq]; simp
              rw [heq] at g0 g1
              clear hth hno heq
              go_wp2_with fail
              go_quiet (fail)
              go_wp2_with fail
              go_roundw
              case rel => exact ⟨k + 1, by omega, by go_num, by rw [HD.out], below_drewN hb2 _⟩
              case measure => simp [intOf]; omega
            · have HD : Hid (decide (ee ∈ L.take (k + 1)) = false) := by
                show _ = _; rw [HTK.out, decide_eq_false_iff_not]
                simp only [List.mem_append, List.mem_singleton]
                rintro (h | h)
                · exact hno h
                · exact heq h.symm
              have hne := ed_ne heq
              clear hth hno heq
              rcases hne with hne | ⟨r1, hne⟩
              · have hq : (le.id == ee.id) = false := by rw [beq_eq_false_iff_ne]; exact hne
                clear hne
                go_wp2_with fail
                go_quiet (fail)
                go_wp2_with fail
                go_roundw
                case rel => exact ⟨k + 1, by omega, by go_num, by rw [HD.out], below_drewN hb2 _⟩
                case measure => simp [intOf]; omega
              · rw [r1] at g0
                have hnb := ba_beq hne
                have hnl := bl_beq hne
                clear hne r1
                go_wp2_with fail
                go_quiet (fail)
                go_wp2_with fail
                go_roundw
                case rel => exact ⟨k + 1, by omega, by go_num, by rw [HD.out], below_drewN hb2 _⟩
                case measure => simp [intOf]; omega
        · obtain rfl : N = k := by omega
          have HTL : Hid (L.take N = L) := by show _ = _; rw [HNN.out]; exact List.take_length
          have hv2 := HV5.out.keep hb2
          have hbw2 := HBW.out.trans (hb2.mono HBW.out.size)
          have hz2 := hbw2.size
          have HB2 : Hid (Below w5.heap.size w5 wr) := hb2
          clear hb2
          cases hth : decide (ee ∈ L.take N) with
          | true =>
            have HE : Hid (bothE EA (EB.take (i + 1)) = L) := by
              have h : ee ∈ L.take N := of_decide_eq_true hth
              rw [HTL.out] at h
              show _ = _; rw [HT.out, if_pos h]
            clear hth
            go_wp2_with fail
            go_roundw
            case rel => exact ⟨i + 1, ad, cap, N, by omega, by go_num, rfl, by rw [HE.out]; exact HNN.out, by omega, by rw [HE.out]; exact hv2, hbw2⟩
            case measure => simp [intOf]; omega
          | false =>
            have HE : Hid (bothE EA (EB.take (i + 1)) = L ++ [ee]) := by
              have h : ¬ ee ∈ L.take N := of_decide_eq_false hth
              rw [HTL.out] at h
              show _ = _; rw [HT.out, if_neg h]
            have HN3 : Hid (N + 1 ≤ 2000) := by
              have h1 := both_len (EB.take (i + 1)) EA
              rw [HE.out] at h1
              simp at h1
              have := HNN.out; have := HN.out; have := HM.out
              show _ ≤ _; omega
            have hN4 := HN3.out
            clear hth
            go_wp2_with (at_builtin; refine wpList_push (by rfl) _ _ 24 (by rfl) w.heap.size 71 2 24 (.agg #[.int .i64 0, .string ⟨#[]⟩]) Try.underlying24 (by kernel_rfl) rfl (by decide) ad N cap _ (by rfl) (hv2.keep ((Below.refl _ _).alloc (Nat.le_refl _) _)) _ _ ee.cells (by rfl) rfl ?_ ?_ ?_ ?_ ?_ ?_; exact new_cells _ _ _; exact ones3 _; (omega); (omega); (simp; omega); intro ad' cap' w' hv' hb' hs')
            go_roundw
            case rel => exact ⟨i + 1, ad', cap', N + 1, by omega, by go_num, rfl, by rw [HE.out, List.length_append, ← HNN.out]; rfl, by omega, by rw [HE.out, ecells_app]; simpa [ecells] using hv', (hbw2.alloc hz2 _).trans hb'⟩
            case measure => simp [intOf]; omega
    · obtain rfl : m = i := by omega
      have HE : Hid (bothE EA (EB.take m) = bothE EA EB) := by show _ = _; rw [HM.out, List.take_length]
      go_wp2_with fail
      go_ret
      exact ⟨ad, cap, N, rfl, by rw [← HE.out]; exact HNN.out, by rw [← HE.out]; exact hv, hbw⟩
end Go.Proofs.Ytdjpkgaicmklmaa

/- What the walks of the merges share. -/
namespace Go.Proofs.Ytdjpkgaicmklmaa
open Go.RowKit

/-- What Merge answers. -/
def MergeAns (x : Ans) (Bs : Nat) (e : Ending) (w' : World) : Prop := ∃ a1 n1 c1 a2 n2 c2 a3 n3 c3, e = .returned (.tuple #[.agg #[.slice a1 n1 c1, .slice a2 n2 c2, .slice a3 n3 c3], .int .i64 x.err]) ∧ Lists w' Bs x.K x.C x.E a1 n1 c1 a2 n2 c2 a3 n3 c3
theorem tri_chk (R : Rep) : R.tri.rep.chk = R.chk := (same_lists R).chk
/-- Two replicas that were handed in, and the result's variable. -/
structure M3 (w : World) (x y z : List Value) (wr : World) : Prop where
  a : Bx wr w.heap.size 26 x
  b : Bx wr (w.heap.size + 1) 26 y
  r : Bx wr (w.heap.size + 2) 26 z
  sz : w.heap.size + 3 ≤ wr.heap.size
  old : Below w.heap.size w wr
theorem M3.step {w : World} {x y z : List Value} {wr w' : World} (h : M3 w x y z wr) (hb : Below wr.heap.size wr w') : M3 w x y z w' :=
  ⟨h.a.below hb h.a.lt, h.b.below hb h.b.lt, h.r.below hb h.r.lt, Nat.le_trans h.sz hb.size, h.old.trans (hb.mono h.old.size)⟩
theorem M3.start (w : World) (x y z : Array Value) : M3 w x.toList y.toList z.toList (((w.alloc (.cells x 26)).alloc (.cells y 26)).alloc (.cells z 26)) := by
  obtain ⟨h1, h2, h3, h4⟩ := two_boxes w 26 26 x y
  have h5 := Bx.new ((w.alloc (.cells x 26)).alloc (.cells y 26)) 26 z
  rw [h3] at h5
  refine ⟨h1.alloc _, h2.alloc _, h5, ?_, h4.alloc h4.size _⟩
  show ((((w.alloc (.cells x 26)).alloc (.cells y 26)).heap.push _).size) ≥ _
  simp [h3]
theorem M3.put {w : World} {x y z z' : List Value} {wr w' : World} (h : M3 w x y z wr) (hu : Upd (w.heap.size + 2) wr w') (hr : Bx w' (w.heap.size + 2) 26 z') : M3 w x y z' w' :=
  ⟨h.a.upd hu (by omega), h.b.upd hu (by omega), hr, by rw [hu.size]; exact h.sz, hu.below h.old (by omega)⟩
theorem out_keep {Y w' : World} {cs : Array Value} {t : TypeId} (hb : Below (Y.alloc (.cells cs t)).heap.size (Y.alloc (.cells cs t)) w') : Bx w' Y.heap.size t cs.toList := (Bx.new Y t cs).below hb (Bx.new Y t cs).lt
theorem out_keep2 {Y w' : World} {cs : Array Value} {t : TypeId} (hb : Below (Y.alloc (.cells cs t)).drew.heap.size (Y.alloc (.cells cs t)).drew w') : Bx w' Y.heap.size t cs.toList := ((Bx.new Y t cs).drewN 1).below hb (Bx.new Y t cs).lt
theorem clash_no {a b : List Cd} (h : ∀ i, i < a.length → ∀ j, j < b.length → ¬ ((a.getD i cd0).site = (b.getD j cd0).site ∧ (a.getD i cd0).count = (b.getD j cd0).count ∧ a.getD i cd0 ≠ b.getD j cd0)) : clashB2 a b = false := by
  simp only [clashB2, List.any_eq_false, decide_eq_true_eq, Bool.not_eq_true]
  intro x hx y hy
  obtain ⟨i, hi, rfl⟩ := List.mem_iff_getElem.1 hx
  obtain ⟨j, hj, rfl⟩ := List.mem_iff_getElem.1 hy
  have := h i hi j hj
  simpa [List.getD, hi, hj] using this
theorem clash_yes {a b : List Cd} {i j : Nat} (hi : i < a.length) (hj : j < b.length) (h : (a.getD i cd0).site = (b.getD j cd0).site ∧ (a.getD i cd0).count = (b.getD j cd0).count ∧ a.getD i cd0 ≠ b.getD j cd0) : clashB2 a b = true := by
  simp only [clashB2, List.any_eq_true, decide_eq_true_eq]
  refine ⟨a[i], List.getElem_mem hi, b[j], List.getElem_mem hj, ?_⟩
  simpa [List.getD, hi, hj] using h
theorem tri_card (R : Rep) (i : Nat) (h : i < R.n2) : R.tri.C.getD i cd0 = R.d i := by simp [Rep.tri, List.getD, h]
theorem tri_edit (R : Rep) (i : Nat) (h : i < R.n3) : R.tri.E.getD i ed0 = R.e i := by simp [Rep.tri, List.getD, h]
theorem tri_len (R : Rep) : R.tri.K.length = R.n1 ∧ R.tri.C.length = R.n2 ∧ R.tri.E.length = R.n3 := by simp [Rep.tri]

/-- The merged replica in its variable, as far as it is made. -/
structure MO (W wx : World) (g Bc : Nat) (A B : Rep) (adK : Option Addr) (NK capK : Nat) (adC : Option Addr) (NC capC : Nat) (adE : Option Addr) (NE capE : Nat) (C : List Cd) : Prop where
  old : Below W.heap.size W wx
  o : Bx wx g 26 (repC adK NK capK adC NC capC adE NE capE)
  nk : NK = (refClk A.tri.K B.tri.K 200).length
  nc : NC = C.length
  ne : NE = (bothE A.tri.E B.tri.E).length
  k : Vec wx W.heap.size 67 2 adK NK capK (kcells (refClk A.tri.K B.tri.K 200))
  c : Vec wx Bc 69 5 adC NC capC (ccells C)
  e : Vec wx W.heap.size 71 2 adE NE capE (ecells (bothE A.tri.E B.tri.E))
theorem mo_new (Bc : Nat) {W wE : World} {A B : Rep} {adK adE : Option Addr} {NK capK NE capE : Nat} (h1 : NK = (refClk A.tri.K B.tri.K 200).length) (h2 : NE = (bothE A.tri.E B.tri.E).length) (hk : Vec wE W.heap.size 67 2 adK NK capK (kcells (refClk A.tri.K B.tri.K 200))) (he : Vec wE W.heap.size 71 2 adE NE capE (ecells (bothE A.tri.E B.tri.E))) (hb : Below W.heap.size W wE) :
    MO W (wE.alloc (.cells #[.slice adK NK capK, .slice none 0 0, .slice adE NE capE] 26)) wE.heap.size Bc A B adK NK capK none 0 0 adE NE capE [] :=
  ⟨hb.alloc hb.size _, Bx.new _ _ _, h1, rfl, h2, hk.keep ((Below.refl _ _).alloc (Nat.le_refl _) _), Vec.nil _ _ _ _, he.keep ((Below.refl _ _).alloc (Nat.le_refl _) _)⟩
theorem mo_set (Bc : Nat) {W wE : World} {A B : Rep} {adK adE : Option Addr} {NK capK NE capE g : Nat} (h1 : NK = (refClk A.tri.K B.tri.K 200).length) (h2 : NE = (bothE A.tri.E B.tri.E).length) (hk : Vec wE W.heap.size 67 2 adK NK capK (kcells (refClk A.tri.K B.tri.K 200))) (he : Vec wE W.heap.size 71 2 adE NE capE (ecells (bothE A.tri.E B.tri.E))) (hb : Below W.heap.size W wE) (ob : Bx wE g 26 (repC none 0 0 none 0 0 none 0 0)) (hg : W.heap.size ≤ g) :
    MO W (((wE.setCell ⟨g, 0, none⟩ (.slice adK NK capK)).setCell ⟨g, 1, none⟩ (.slice none 0 0)).setCell ⟨g, 2, none⟩ (.slice adE NE capE)) g Bc A B adK NK capK none 0 0 adE NE capE [] := by
  have hu : Upd g wE (((wE.setCell ⟨g, 0, none⟩ (.slice adK NK capK)).setCell ⟨g, 1, none⟩ (.slice none 0 0)).setCell ⟨g, 2, none⟩ (.slice adE NE capE)) := (((Upd.refl g wE).setCell _ rfl _).setCell _ rfl _).setCell _ rfl _
  exact ⟨hu.below hb hg, ((ob.setCell 0 _).setCell 1 _).setCell 2 _, h1, rfl, h2, hk.updo hu (fun b hb e1 => ob.apart hk (by decide) (by rw [hb]; simp [e1])), Vec.nil _ _ _ _, he.updo hu (fun b hb e1 => ob.apart he (by decide) (by rw [hb]; simp [e1]))⟩

theorem MO.step {W wx w' : World} {g Bc : Nat} {A B : Rep} {adK : Option Addr} {NK capK : Nat} {adC : Option Addr} {NC capC : Nat} {adE : Option Addr} {NE capE : Nat} {C : List Cd} (h : MO W wx g Bc A B adK NK capK adC NC capC adE NE capE C) (hb : Below wx.heap.size wx w') : MO W w' g Bc A B adK NK capK adC NC capC adE NE capE C :=
  ⟨h.old.trans (hb.mono h.old.size), h.o.below hb h.o.lt, h.nk, h.nc, h.ne, h.k.keep hb, h.c.keep hb, h.e.keep hb⟩
theorem MO.base {W wx : World} {g Bc : Nat} {A B : Rep} {adK : Option Addr} {NK capK : Nat} {adE : Option Addr} {NE capE : Nat} (h : MO W wx g Bc A B adK NK capK none 0 0 adE NE capE []) (Bd : Nat) : MO W wx g Bd A B adK NK capK none 0 0 adE NE capE [] :=
  ⟨h.old, h.o, h.nk, h.nc, h.ne, h.k, Vec.nil _ _ _ _, h.e⟩
theorem vec_low {w : World} {B e m : Nat} {ad : Option Addr} {n cap : Nat} {xs : List Value} (h : Vec w B e m ad n cap xs) : ∀ b, ad = some b → b.block < w.heap.size := by
  intro b hb
  obtain ⟨_, cur, hc⟩ := h.typed b.block (by rw [hb]; rfl)
  exact (Array.getElem?_eq_some_iff.1 hc).1
theorem Vec.low {w w' : World} {B Bc e m : Nat} {ad : Option Addr} {n cap : Nat} {xs : List Value} (h : Vec w B e m ad n cap xs) (hl : ∀ b, ad = some b → b.block < Bc) (hb : Below Bc w w') : Vec w' B e m ad n cap xs := by
  refine ⟨h.1, ?_⟩
  rcases h.2 with h2 | ⟨g, c, cur, hv, hB, hg, r⟩
  · exact Or.inl h2
  · have e1 : ad = some ⟨g, 0, none⟩ := by simp at hv; exact hv.1
    exact Or.inr ⟨g, c, cur, hv, hB, by rw [hb.block g (hl _ e1)]; exact hg, r⟩
/-- One card more. -/
theorem MO.push {W w7 w8 : World} {g Bc : Nat} {A B : Rep} {adK : Option Addr} {NK capK : Nat} {adC : Option Addr} {NC capC : Nat} {adE : Option Addr} {NE capE : Nat} {C : List Cd} (h : MO W w7 g Bc A B adK NK capK adC NC capC adE NE capE C) (hb : Below Bc w7 w8) (hBc : W.heap.size ≤ Bc) (lk : ∀ b, adK = some b → b.block < Bc) (le : ∀ b, adE = some b → b.block < Bc) (lg : g < Bc) (hg : W.heap.size ≤ g)
    {x : Cd} {ad' : Option Addr} {cap' : Nat} (hv : Vec w8 Bc 69 5 ad' (NC + 1) cap' (ccells C ++ x.cells)) :
    MO W (w8.setCell ⟨g, 1, none⟩ (.slice ad' (NC + 1) cap')) g Bc A B adK NK capK ad' (NC + 1) cap' adE NE capE (C ++ [x]) := by
  have ho : Bx w8 g 26 (repC adK NK capK adC NC capC adE NE capE) := h.o.below hb lg
  have hu : Upd g w8 (w8.setCell ⟨g, 1, none⟩ (.slice ad' (NC + 1) cap')) := (Upd.refl g w8).setCell _ rfl _
  have hk8 := h.k.low lk hb
  have he8 := h.e.low le hb
  exact ⟨hu.below (h.old.trans (hb.mono hBc)) hg, ho.setCell 1 _, h.nk, by rw [h.nc]; simp, h.ne, hk8.updo hu (fun b hb e1 => ho.apart hk8 (by decide) (by rw [hb]; simp [e1])), by rw [ccells_app, show ccells [x] = x.cells by simp [ccells]]; exact hv.updo hu (fun b hb e1 => ho.apart hv (by decide) (by rw [hb]; simp [e1])), he8.updo hu (fun b hb e1 => ho.apart he8 (by decide) (by rw [hb]; simp [e1]))⟩
theorem heap_newA (W : World) (x : Obj) : (W.alloc x).drew.heap[W.heap.size]? = some x := by show (W.heap.push x)[W.heap.size]? = _; simp
theorem new_atA {X : World} {N : Nat} {cs : List Value} {t : TypeId} (h : X.heap[N]? = some (.cells cs.toArray t)) : ∀ j u, cs[j]? = some u → X.cell? ((⟨N, 0, none⟩ : Addr).add j) = some u := by
  intro j u hu
  rw [addr_add]
  simp [World.cell?, h, hu]
theorem lowTo_eq (A B : Rep) (id : Int) : ∀ k, k ≤ A.n2 + B.n2 → lowTo A B id k = ((idsOf A.tri.C B.tri.C).take k).foldl (lowStep id) 0
  | 0, _ => by simp [lowTo]
  | k + 1, h => by
    have hl : (idsOf A.tri.C B.tri.C).length = A.n2 + B.n2 := by simp [idsOf, Rep.tri]
    rw [List.take_succ_eq_append_getElem (by omega), List.foldl_append, ← lowTo_eq A B id k (by omega)]
    simp only [lowTo, List.foldl_cons, List.foldl_nil]
    congr 1
    unfold idsR idsOf
    split
    · rename_i h1
      rw [List.getElem_append_left (by simp [Rep.tri]; exact h1)]; simp [Rep.tri]
    · rename_i h1
      rw [List.getElem_append_right (by simp [Rep.tri]; omega)]; simp [Rep.tri]
theorem lowR_eq (A B : Rep) (id : Int) : lowR A B id = lowAbove id (idsOf A.tri.C B.tri.C) := by
  have hl : (idsOf A.tri.C B.tri.C).length = A.n2 + B.n2 := by simp [idsOf, Rep.tri]
  unfold lowR lowAbove
  rw [lowTo_eq A B id _ (Nat.le_refl _), List.take_of_length_le (by omega)]
theorem Rep.nums {R : Rep} (h : R.chk = 0) : (∀ i, i < R.n1 → 1 ≤ (R.c i).site ∧ (R.c i).site ≤ 200 ∧ 1 ≤ (R.c i).count) ∧ (∀ i, i < R.n2 → 1 ≤ (R.d i).id) := by
  have g1 : R.manyB = false := by
    cases hh : R.manyB
    · rfl
    · simp [Rep.chk, hh] at h
  have g2 : R.numB = false := by
    cases hh : R.numB
    · rfl
    · simp [Rep.chk, g1, hh] at h
  unfold Rep.numB at g2
  simp only [Bool.or_eq_false_iff] at g2
  refine ⟨fun i hi => ?_, fun i hi => ?_⟩
  · cases hn : R.num1 i with
    | true => rw [anyTo_hit hi hn] at g2; exact absurd g2.1 (by simp)
    | false => simp [Rep.num1, scB, outB] at hn; omega
  · cases hn : R.num2 i with
    | true => rw [anyTo_hit hi hn] at g2; exact absurd g2.2.1 (by simp)
    | false => simp [Rep.num2, scB, outB] at hn; omega
theorem tri_good {R : Rep} (h : R.chk = 0) : Asc Cd.id R.tri.C ∧ ∀ x ∈ R.tri.C, 0 < x.id := by
  have h2 : R.tri.rep.chk = 0 := by rw [tri_chk]; exact h
  refine ⟨(Tri.asc h2).2, fun x hx => ?_⟩
  simp only [Rep.tri, List.mem_map, List.mem_range] at hx
  obtain ⟨i, hi, rfl⟩ := hx
  have := (Rep.nums h).2 i hi; omega
theorem tri_clocks {R : Rep} (h : R.chk = 0) : Asc Ck.site R.tri.K ∧ ∀ x ∈ R.tri.K, 1 ≤ x.site ∧ x.site ≤ 200 ∧ 1 ≤ x.count := by
  have h2 : R.tri.rep.chk = 0 := by rw [tri_chk]; exact h
  refine ⟨(Tri.asc h2).1, fun x hx => ?_⟩
  simp only [Rep.tri, List.mem_map, List.mem_range] at hx
  obtain ⟨i, hi, rfl⟩ := hx
  exact (Rep.nums h).1 i hi
/-- Where a number stands among the merged ones. -/
def posU (M : List Cd) (u : Value) : Nat := M.findIdx fun c => c.id == intOf u
theorem posU_at {M : List Cd} (h : Asc Cd.id M) (p : ∀ c ∈ M, 0 < c.id) (k : Nat) (hk : k ≤ M.length) : posU M (.int .i64 (idAt M k)) = k := by
  unfold posU
  rcases Nat.lt_or_ge k M.length with h1 | h1
  · have e : idAt M k = M[k].id := by unfold idAt; rw [List.getElem?_eq_getElem h1]
    rw [List.findIdx_eq h1]
    refine ⟨by simp [intOf, e], fun j hj => ?_⟩
    have := List.pairwise_iff_getElem.1 h j k (by omega) h1 hj
    simp only [intOf, e, beq_eq_false_iff_ne]
    omega
  · have e : idAt M k = 0 := by unfold idAt; rw [List.getElem?_eq_none h1]
    rw [List.findIdx_eq_length_of_false (fun c hc => by have := p c hc; simp only [intOf, e, beq_eq_false_iff_ne]; omega)]
    omega
theorem look_range (d : Nat → Cd) (id : Int) : ∀ n, look Cd.id ((List.range n).map d) id = (firstOf (fun i => (d i).id == id) n).map d
  | 0 => rfl
  | n + 1 => by
    rw [List.range_succ, List.map_append, look_append, look_range d id n]
    unfold firstOf
    rw [List.range_succ, List.find?_append]
    cases hf : (List.range n).find? (fun i => (d i).id == id) with
    | some i => rfl
    | none =>
      simp only [Option.map_none, Option.none_or, List.map_cons, List.map_nil, look, List.find?_cons, List.find?_nil]
      by_cases e : (d n).id = id
      · simp [e]
      · have : ((d n).id == id) = false := by rw [beq_eq_false_iff_ne]; exact e
        simp [e, this]
theorem look_find (R : Rep) (id : Int) : look Cd.id R.tri.C id = (findR R id).map R.d := look_range R.d id R.n2
theorem find_lt {R : Rep} {id : Int} {i : Nat} (h : findR R id = some i) : i < R.n2 := (firstOf_some.mp h).2.1

theorem layK_len {α : Type} (key : α → Int) (f : α → α → α) : ∀ (b a : List α), (layK key f a b).length ≤ a.length + b.length
  | [], a => by simp [layK]
  | c :: b, a => by
    have h := layK_len key f b (putK key f a c)
    have h2 : ∀ l : List α, (putK key f l c).length ≤ l.length + 1 := by
      intro l
      induction l with
      | nil => simp [putK]
      | cons o l ih => simp only [putK]; split; (simp; omega); split <;> simp
    have := h2 a
    simp only [layK, List.foldl_cons] at h ⊢
    simp; omega
end Go.Proofs.Ytdjpkgaicmklmaa

