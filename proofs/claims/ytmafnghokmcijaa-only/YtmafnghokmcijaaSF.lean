/- A bundle is of one list of records: numbers end themselves, frames tell their length. -/
import Derived.Test.YtmafnghokmcijaaX
namespace Go.Proofs.Ytmafnghokmcijaa
open Go.RowKit

theorem byt_inj {a b : Int} (ha : 0 ≤ a) (ha2 : a < 256) (hb : 0 ≤ b) (hb2 : b < 256) (h : byt a = byt b) : a = b := by
  unfold byt at h
  have := congrArg UInt8.toNat h
  simp only [UInt8.toNat_ofNat'] at this
  omega

/-- Numbers end themselves. -/
theorem numI_free : ∀ (k : Nat) (a b : Int), 0 ≤ a → 0 ≤ b → a < 128 ^ (k + 1) → b < 128 ^ (k + 1) → ∀ x y : List UInt8, (numI k a).map byt ++ x = (numI k b).map byt ++ y → a = b ∧ x = y
  | 0, a, b, ha, hb, la, lb, x, y, h => by
    simp [numI] at h la lb
    exact ⟨byt_inj ha (by omega) hb (by omega) h.1, h.2⟩
  | k + 1, a, b, ha, hb, la, lb, x, y, h => by
    have e : (128 : Int) ^ (k + 1 + 1) = 128 ^ (k + 1) * 128 := Int.pow_succ ..
    simp only [numI] at h
    split at h <;> split at h
    · simp at h; exact ⟨byt_inj ha (by omega) hb (by omega) h.1, h.2⟩
    · simp at h
      have := byt_inj ha (by omega) (by omega) (by omega) h.1
      omega
    · simp at h
      have := byt_inj (by omega) (by omega) hb (by omega) h.1
      omega
    · simp only [List.map_cons, List.cons_append, List.cons.injEq] at h
      have h1 := byt_inj (by omega) (by omega) (by omega) (by omega) h.1
      have h2 := numI_free k (a / 128) (b / 128) (by omega) (by omega) (Int.ediv_lt_of_lt_mul (by omega) (by rw [← e]; exact la)) (Int.ediv_lt_of_lt_mul (by omega) (by rw [← e]; exact lb)) x y h.2
      exact ⟨by omega, h2.2⟩
theorem numB_free {a b : Int} (ha : Num a) (hb : Num b) {x y : List UInt8} (h : numB a ++ x = numB b ++ y) : a = b ∧ x = y :=
  numI_free 9 a b ha.1 hb.1 (Int.lt_of_le_of_lt ha.2 (by decide)) (Int.lt_of_le_of_lt hb.2 (by decide)) x y h

theorem ba_ext {a b : ByteArray} (h : a.data.toList = b.data.toList) : a = b := by
  cases a; cases b; simp at h; simp [h]

/-- A record's bytes are of one record. -/
theorem recF_inj {f g : Fd} (hf : FdOk f) (hg : FdOk g) (h : recF f = recF g) (hs : f.seq = 0) (hs2 : g.seq = 0) (hb : f.base = 0) (hb2 : g.base = 0) : f = g := by
  rcases hf with ⟨s, b, rfl, hns, -, -⟩ | ⟨c, rfl, n1, n2⟩ | ⟨c, rfl, n1, n2, n3, -⟩ | ⟨c, rfl, n1, -⟩ <;>
  rcases hg with ⟨s', b', rfl, hns', -, -⟩ | ⟨c', rfl, m1, m2⟩ | ⟨c', rfl, m1, m2, m3, -⟩ | ⟨c', rfl, m1, -⟩ <;>
  simp only [recF_head, recF_clock, recF_card, recF_edit, recHead, recClock, recCard, recEdit, List.cons.injEq] at h
  all_goals first
    | (exact absurd h.1 (by decide))
    | skip
  · have e1 : s = 0 := hs
    have e2 : s' = 0 := hs2
    have e3 : b = 0 := hb
    have e4 : b' = 0 := hb2
    subst e1 e2 e3 e4; rfl
  · obtain ⟨e1, h2⟩ := numB_free n1 m1 h.2
    obtain ⟨e2, -⟩ := numB_free n2 m2 (x := []) (y := []) (by simpa using h2)
    cases c; cases c'; simp at e1 e2; subst e1 e2; rfl
  · obtain ⟨e1, h2⟩ := numB_free n1 m1 h.2
    obtain ⟨e2, h3⟩ := numB_free n2 m2 h2
    obtain ⟨e3, h4⟩ := numB_free n3 m3 h3
    simp only [List.cons.injEq] at h4
    have e4 : c.gone = c'.gone := by
      have := h4.1
      cases hg1 : c.gone <;> cases hg2 : c'.gone <;> simp [hg1, hg2] at this ⊢
    have e5 := ba_ext h4.2
    cases c; cases c'; simp at e1 e2 e3 e4 e5; subst e1 e2 e3 e4 e5; rfl
  · obtain ⟨e1, h2⟩ := numB_free n1 m1 h.2
    have e5 := ba_ext h2
    cases c; cases c'; simp at e1 e5; subst e1 e5; rfl

/-- Frames tell their length. -/
theorem frameB_free {r s : List UInt8} (hr : r.length ≤ 255) (hs : s.length ≤ 255) {x y : List UInt8} (h : frameB r ++ x = frameB s ++ y) : r = s ∧ x = y := by
  simp only [frameB, List.cons_append, List.cons.injEq, List.append_assoc] at h
  obtain ⟨-, -, h1, h2⟩ := h
  have hl : r.length = s.length := by
    have := byt_inj (a := (r.length : Int)) (b := (s.length : Int)) (by omega) (by omega) (by omega) (by omega) h1; omega
  obtain ⟨e1, e2⟩ := List.append_inj h2 hl
  subst e1
  exact ⟨rfl, List.append_cancel_left e2⟩

theorem frames_inj : ∀ (l m : List Fd), (∀ f, f ∈ l → FdOk f ∧ f.seq = 0 ∧ f.base = 0) → (∀ f, f ∈ m → FdOk f ∧ f.seq = 0 ∧ f.base = 0) → l.flatMap (fun f => frameB (recF f)) = m.flatMap (fun f => frameB (recF f)) → l = m
  | [], [], _, _, _ => rfl
  | [], g :: m, _, _, h => by simp [frameB] at h
  | f :: l, [], _, _, h => by simp [frameB] at h
  | f :: l, g :: m, hl, hm, h => by
    simp only [List.flatMap_cons] at h
    have a := hl f (List.mem_cons_self ..)
    have b := hm g (List.mem_cons_self ..)
    obtain ⟨e1, e2⟩ := frameB_free (by have := recF_length a.1; omega) (by have := recF_length b.1; omega) h
    have := recF_inj a.1 b.1 e1 a.2.1 b.2.1 a.2.2 b.2.2
    subst this
    rw [frames_inj l m (fun x hx => hl x (List.mem_cons_of_mem _ hx)) (fun x hx => hm x (List.mem_cons_of_mem _ hx)) e2]

theorem bundleB_inj {l m : List Fd} (hl : ∀ f, f ∈ l → FdOk f ∧ f.seq = 0 ∧ f.base = 0) (hm : ∀ f, f ∈ m → FdOk f ∧ f.seq = 0 ∧ f.base = 0) (h : bundleB l = bundleB m) : l = m := by
  unfold bundleB at h
  have e : (bodyB l).length = (bodyB m).length := by
    have := congrArg List.length h
    simp [fourI] at this; exact this
  obtain ⟨h, -⟩ := List.append_inj h e
  simp only [bodyB, List.cons.injEq, true_and] at h
  exact frames_inj l m hl hm h

/-- All records have no sequence and no base. -/
theorem recsOf_zero (R : Rep) : ∀ f, f ∈ recsOf 0 0 R → f.seq = 0 ∧ f.base = 0 := by
  intro f hf
  simp only [recsOf, recs3, recs2, recs1, List.mem_append, List.mem_cons, List.mem_map] at hf
  rcases hf with ((rfl | ⟨i, _, rfl⟩) | ⟨i, _, rfl⟩) | ⟨i, _, rfl⟩ <;> exact ⟨rfl, rfl⟩

/-- Two replicas are the same. -/
structure Same (R T : Rep) : Prop where
  n1 : R.n1 = T.n1
  n2 : R.n2 = T.n2
  n3 : R.n3 = T.n3
  c : ∀ i, i < R.n1 → R.c i = T.c i
  d : ∀ i, i < R.n2 → R.d i = T.d i
  e : ∀ i, i < R.n3 → R.e i = T.e i

theorem filter_kind (R : Rep) (k : Int) : (recsOf 0 0 R).filter (fun f => f.kind == k) =
    (if k = 4 then [fdHead 0 0] else []) ++ (if k = 1 then (List.range R.n1).map (fun i => fdClock (R.c i)) else []) ++ (if k = 2 then (List.range R.n2).map (fun i => fdCard (R.d i)) else []) ++ (if k = 3 then (List.range R.n3).map (fun i => fdEdit (R.e i)) else []) := by
  have h : ∀ (n : Nat) (f : Nat → Fd) (q : Int), (∀ i, (f i).kind = q) → ((List.range n).map f).filter (fun f => f.kind == k) = if k = q then (List.range n).map f else [] := by
    intro n f q hq
    split
    · rename_i e; subst e
      rw [List.filter_eq_self]; intro x hx; obtain ⟨i, _, rfl⟩ := List.mem_map.1 hx; simp [hq]
    · rename_i e
      rw [List.filter_eq_nil_iff]; intro x hx; obtain ⟨i, _, rfl⟩ := List.mem_map.1 hx; simp [hq]; omega
  unfold recsOf recs3 recs2 recs1
  rw [List.filter_append, List.filter_append, h R.n3 _ 3 (fun _ => rfl), h R.n2 _ 2 (fun _ => rfl), List.filter_cons, h R.n1 _ 1 (fun _ => rfl)]
  congr 2
  by_cases e : k = 4
  · subst e; simp [fdHead]
  · rw [if_neg (by show ¬ ((4 : Int) == k) = true; simp; omega), if_neg e]; simp

theorem map_range_inj {α : Type} {n m : Nat} {f g : Nat → α} (h : (List.range n).map f = (List.range m).map g) : n = m ∧ ∀ i, i < n → f i = g i := by
  have e : n = m := by simpa using congrArg List.length h
  subst e
  refine ⟨rfl, fun i hi => ?_⟩
  have := congrArg (fun l => l[i]?) h
  simpa [hi] using this

theorem recsOf_inj {R T : Rep} (h : recsOf 0 0 R = recsOf 0 0 T) : Same R T := by
  have k1 := congrArg (List.filter (fun f => f.kind == 1)) h
  have k2 := congrArg (List.filter (fun f => f.kind == 2)) h
  have k3 := congrArg (List.filter (fun f => f.kind == 3)) h
  rw [filter_kind, filter_kind] at k1 k2 k3
  simp at k1 k2 k3
  obtain ⟨a1, b1⟩ := map_range_inj k1
  obtain ⟨a2, b2⟩ := map_range_inj k2
  obtain ⟨a3, b3⟩ := map_range_inj k3
  refine ⟨a1, a2, a3, fun i hi => ?_, fun i hi => ?_, fun i hi => ?_⟩
  · have := b1 i hi
    simp [fdClock] at this
    cases hr : R.c i; cases ht : T.c i; simp [hr, ht] at this; simp [this]
  · have := b2 i hi
    simp [fdCard] at this
    cases hr : R.d i; cases ht : T.d i; simp [hr, ht] at this; simp [this]
  · have := b3 i hi
    simp [fdEdit] at this
    cases hr : R.e i; cases ht : T.e i; simp [hr, ht] at this; simp [this]

theorem Same.recs {R T : Rep} (h : Same R T) : recsOf 0 0 R = recsOf 0 0 T := by
  have e1 : (List.range R.n1).map (fun i => fdClock (R.c i)) = (List.range R.n1).map (fun i => fdClock (T.c i)) := List.map_congr_left fun i hi => by rw [h.c i (List.mem_range.1 hi)]
  have e2 : (List.range R.n2).map (fun i => fdCard (R.d i)) = (List.range R.n2).map (fun i => fdCard (T.d i)) := List.map_congr_left fun i hi => by rw [h.d i (List.mem_range.1 hi)]
  have e3 : (List.range R.n3).map (fun i => fdEdit (R.e i)) = (List.range R.n3).map (fun i => fdEdit (T.e i)) := List.map_congr_left fun i hi => by rw [h.e i (List.mem_range.1 hi)]
  unfold recsOf recs3 recs2 recs1
  rw [e1, e2, e3, ← h.n1, ← h.n2, ← h.n3]

/-- A bundle is of one sound replica. -/
theorem bundle_same {R T : Rep} (hR : Fit R) (hT : Fit T) : bundleB (recsOf 0 0 R) = bundleB (recsOf 0 0 T) ↔ Same R T := by
  constructor
  · intro h
    refine recsOf_inj (bundleB_inj (fun f hf => ⟨hR.ok ⟨by omega, by omega⟩ (by omega) (by omega) f hf, recsOf_zero R f hf⟩) (fun f hf => ⟨hT.ok ⟨by omega, by omega⟩ (by omega) (by omega) f hf, recsOf_zero T f hf⟩) h)
  · intro h; rw [h.recs]

/-- How many bytes a number has. -/
def bytesI : Nat → Int → Nat
  | 0, _ => 1
  | k + 1, n => if n < 128 then 1 else bytesI k (n / 128) + 1
theorem numI_bytes : ∀ (k : Nat) (n : Int), (numI k n).length = bytesI k n
  | 0, n => rfl
  | k + 1, n => by
    simp only [numI, bytesI]; split
    · rfl
    · simp [numI_bytes k (n / 128)]
theorem numB_bytes (n : Int) : (numB n).length = bytesI 9 n := by simp [numB, numI_bytes]

/-- How long the frames of records are. -/
def lenF (f : Fd) : Nat := (recF f).length + 7
def lenL (l : List Fd) : Nat := (l.map lenF).sum
theorem bundleB_length (l : List Fd) : (bundleB l).length = 8 + lenL l := by
  have : ∀ l : List Fd, (l.flatMap (fun f => frameB (recF f))).length = lenL l := by
    intro l; induction l with
    | nil => rfl
    | cons f l ih => simp only [List.flatMap_cons, List.length_append, ih, frameB_length, lenL, List.map_cons, List.sum_cons, lenF]
  unfold bundleB bodyB
  simp [fourI, this]; omega
theorem lenL_snoc (l : List Fd) (f : Fd) : lenL (l ++ [f]) = lenL l + lenF f := by simp [lenL]
theorem lenF_clock (c : Ck) : lenF (fdClock c) = 8 + bytesI 9 c.site + bytesI 9 c.count := by
  unfold lenF; rw [recF_clock, recClock, List.length_cons, List.length_append, numB_bytes, numB_bytes]; omega
theorem lenF_card (c : Cd) : lenF (fdCard c) = 9 + bytesI 9 c.id + bytesI 9 c.site + bytesI 9 c.count + c.text.size := by
  have : c.text.data.toList.length = c.text.size := Array.length_toList
  unfold lenF; rw [recF_card, recCard, List.length_cons, List.length_append, List.length_append, List.length_append, List.length_cons, numB_bytes, numB_bytes, numB_bytes]; omega
theorem lenF_edit (c : Ed) : lenF (fdEdit c) = 8 + bytesI 9 c.id + c.text.size := by
  have : c.text.data.toList.length = c.text.size := Array.length_toList
  unfold lenF; rw [recF_edit, recEdit, List.length_cons, List.length_append, numB_bytes]; omega
theorem lenF_head : lenF (fdHead 0 0) = 9 := by
  unfold lenF; rw [recF_head]; rfl
end Go.Proofs.Ytmafnghokmcijaa
