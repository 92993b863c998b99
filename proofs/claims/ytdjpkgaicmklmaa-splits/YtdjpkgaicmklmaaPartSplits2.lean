/- Texts of the proof, one behind the other; what each holds is said at its head. -/
import Derived.Test.YtdjpkgaicmklmaaPartSplits1
import Derived.Test.YtdjpkgaicmklmaaPartSplits0
import Derived.OwnWalk
import Derived.Deep.RegionLaw
/- A bundle is of one list of records: numbers end themselves, frames tell their length. -/
namespace Go.Proofs.Ytdjpkgaicmklmaa
open Go.RowKit

theorem byt_inj {a b : Int} (ha : 0 ≤ a) (ha2 : a < 256) (hb : 0 ≤ b) (hb2 : b < 256) (h : byt a = byt b) : a = b := by
  unfold byt at h
  have := congrArg UInt8.toNat h
  simp only [UInt8.toNat_ofNat'] at this
  omega

/-- Numbers end themselves. -/
theorem numI_free : ∀ (k : Nat) (a b : Int), 0 ≤ a → 0 ≤ b → a < 128 ^ (k + 1) → b < 128 ^ (k + 1) → ∀ x y : List UInt8, (numI k a).map byt ++ x = (numI k b).map byt ++ y → a = b ∧ x = y
  | 0, a, b, ha, hb, la, lb, x, y, h => by
    simp [numI] at h la lb
    exact ⟨byt_inj ha (by omega) hb (by omega) h.1, h.2⟩
  | k + 1, a, b, ha, hb, la, lb, x, y, h => by
    have e : (128 : Int) ^ (k + 1 + 1) = 128 ^ (k + 1) * 128 := Int.pow_succ ..
    simp only [numI] at h
    split at h <;> split at h
    · simp at h; exact ⟨byt_inj ha (by omega) hb (by omega) h.1, h.2⟩
    · simp at h
      have := byt_inj ha (by omega) (by omega) (by omega) h.1
      omega
    · simp at h
      have := byt_inj (by omega) (by omega) hb (by omega) h.1
      omega
    · simp only [List.map_cons, List.cons_append, List.cons.injEq] at h
      have h1 := byt_inj (by omega) (by omega) (by omega) (by omega) h.1
      have h2 := numI_free k (a / 128) (b / 128) (by omega) (by omega) (Int.ediv_lt_of_lt_mul (by omega) (by rw [← e]; exact la)) (Int.ediv_lt_of_lt_mul (by omega) (by rw [← e]; exact lb)) x y h.2
      exact ⟨by omega, h2.2⟩
theorem numB_free {a b : Int} (ha : Num a) (hb : Num b) {x y : List UInt8} (h : numB a ++ x = numB b ++ y) : a = b ∧ x = y :=
  numI_free 9 a b ha.1 hb.1 (Int.lt_of_le_of_lt ha.2 (by decide)) (Int.lt_of_le_of_lt hb.2 (by decide)) x y h

theorem ba_ext {a b : ByteArray} (h : a.data.toList = b.data.toList) : a = b := by
  cases a; cases b; simp at h; simp [h]

/-- A record's bytes are of one record. -/
theorem recF_inj {f g : Fd} (hf : FdOk f) (hg : FdOk g) (h : recF f = recF g) (hs : f.seq = 0) (hs2 : g.seq = 0) (hb : f.base = 0) (hb2 : g.base = 0) : f = g := by
  rcases hf with ⟨s, b, rfl, hns, -, -⟩ | ⟨c, rfl, n1, n2⟩ | ⟨c, rfl, n1, n2, n3, -⟩ | ⟨c, rfl, n1, -⟩ <;>
  rcases hg with ⟨s', b', rfl, hns', -, -⟩ | ⟨c', rfl, m1, m2⟩ | ⟨c', rfl, m1, m2, m3, -⟩ | ⟨c', rfl, m1, -⟩ <;>
  simp only [recF_head, recF_clock, recF_card, recF_edit, recHead, recClock, recCard, recEdit, List.cons.injEq] at h
  all_goals first
    | (exact absurd h.1 (by decide))
    | skip
  · have e1 : s = 0 := hs
    have e2 : s' = 0 := hs2
    have e3 : b = 0 := hb
    have e4 : b' = 0 := hb2
    subst e1 e2 e3 e4; rfl
  · obtain ⟨e1, h2⟩ := numB_free n1 m1 h.2
    obtain ⟨e2, -⟩ := numB_free n2 m2 (x := []) (y := []) (by simpa using h2)
    cases c; cases c'; simp at e1 e2; subst e1 e2; rfl
  · obtain ⟨e1, h2⟩ := numB_free n1 m1 h.2
    obtain ⟨e2, h3⟩ := numB_free n2 m2 h2
    obtain ⟨e3, h4⟩ := numB_free n3 m3 h3
    simp only [List.cons.injEq] at h4
    have e4 : c.gone = c'.gone := by
      have := h4.1
      cases hg1 : c.gone <;> cases hg2 : c'.gone <;> simp [hg1, hg2] at this ⊢
    have e5 := ba_ext h4.2
    cases c; cases c'; simp at e1 e2 e3 e4 e5; subst e1 e2 e3 e4 e5; rfl
  · obtain ⟨e1, h2⟩ := numB_free n1 m1 h.2
    have e5 := ba_ext h2
    cases c; cases c'; simp at e1 e5; subst e1 e5; rfl

/-- Frames tell their length. -/
theorem frameB_free {r s : List UInt8} (hr : r.length ≤ 255) (hs : s.length ≤ 255) {x y : List UInt8} (h : frameB r ++ x = frameB s ++ y) : r = s ∧ x = y := by
  simp only [frameB, List.cons_append, List.cons.injEq, List.append_assoc] at h
  obtain ⟨-, -, h1, h2⟩ := h
  have hl : r.length = s.length := by
    have := byt_inj (a := (r.length : Int)) (b := (s.length : Int)) (by omega) (by omega) (by omega) (by omega) h1; omega
  obtain ⟨e1, e2⟩ := List.append_inj h2 hl
  subst e1
  exact ⟨rfl, List.append_cancel_left e2⟩

theorem frames_inj : ∀ (l m : List Fd), (∀ f, f ∈ l → FdOk f ∧ f.seq = 0 ∧ f.base = 0) → (∀ f, f ∈ m → FdOk f ∧ f.seq = 0 ∧ f.base = 0) → l.flatMap (fun f => frameB (recF f)) = m.flatMap (fun f => frameB (recF f)) → l = m
  | [], [], _, _, _ => rfl
  | [], g :: m, _, _, h => by simp [frameB] at h
  | f :: l, [], _, _, h => by simp [frameB] at h
  | f :: l, g :: m, hl, hm, h => by
    simp only [List.flatMap_cons] at h
    have a := hl f (List.mem_cons_self ..)
    have b := hm g (List.mem_cons_self ..)
    obtain ⟨e1, e2⟩ := frameB_free (by have := recF_length a.1; omega) (by have := recF_length b.1; omega) h
    have := recF_inj a.1 b.1 e1 a.2.1 b.2.1 a.2.2 b.2.2
    subst this
    rw [frames_inj l m (fun x hx => hl x (List.mem_cons_of_mem _ hx)) (fun x hx => hm x (List.mem_cons_of_mem _ hx)) e2]

theorem bundleB_inj {l m : List Fd} (hl : ∀ f, f ∈ l → FdOk f ∧ f.seq = 0 ∧ f.base = 0) (hm : ∀ f, f ∈ m → FdOk f ∧ f.seq = 0 ∧ f.base = 0) (h : bundleB l = bundleB m) : l = m := by
  unfold bundleB at h
  have e : (bodyB l).length = (bodyB m).length := by
    have := congrArg List.length h
    simp [fourI] at this; exact this
  obtain ⟨h, -⟩ := List.append_inj h e
  simp only [bodyB, List.cons.injEq, true_and] at h
  exact frames_inj l m hl hm h

/-- All records have no sequence and no base. -/
theorem recsOf_zero (R : Rep) : ∀ f, f ∈ recsOf 0 0 R → f.seq = 0 ∧ f.base = 0 := by
  intro f hf
  simp only [recsOf, recs3, recs2, recs1, List.mem_append, List.mem_cons, List.mem_map] at hf
  rcases hf with ((rfl | ⟨i, _, rfl⟩) | ⟨i, _, rfl⟩) | ⟨i, _, rfl⟩ <;> exact ⟨rfl, rfl⟩

/-- Two replicas are the same. -/
structure Same (R T : Rep) : Prop where
  n1 : R.n1 = T.n1
  n2 : R.n2 = T.n2
  n3 : R.n3 = T.n3
  c : ∀ i, i < R.n1 → R.c i = T.c i
  d : ∀ i, i < R.n2 → R.d i = T.d i
  e : ∀ i, i < R.n3 → R.e i = T.e i

theorem filter_kind (R : Rep) (k : Int) : (recsOf 0 0 R).filter (fun f => f.kind == k) =
    (if k = 4 then [fdHead 0 0] else []) ++ (if k = 1 then (List.range R.n1).map (fun i => fdClock (R.c i)) else []) ++ (if k = 2 then (List.range R.n2).map (fun i => fdCard (R.d i)) else []) ++ (if k = 3 then (List.range R.n3).map (fun i => fdEdit (R.e i)) else []) := by
  have h : ∀ (n : Nat) (f : Nat → Fd) (q : Int), (∀ i, (f i).kind = q) → ((List.range n).map f).filter (fun f => f.kind == k) = if k = q then (List.range n).map f else [] := by
    intro n f q hq
    split
    · rename_i e; subst e
      rw [List.filter_eq_self]; intro x hx; obtain ⟨i, _, rfl⟩ := List.mem_map.1 hx; simp [hq]
    · rename_i e
      rw [List.filter_eq_nil_iff]; intro x hx; obtain ⟨i, _, rfl⟩ := List.mem_map.1 hx; simp [hq]; omega
  unfold recsOf recs3 recs2 recs1
  rw [List.filter_append, List.filter_append, h R.n3 _ 3 (fun _ => rfl), h R.n2 _ 2 (fun _ => rfl), List.filter_cons, h R.n1 _ 1 (fun _ => rfl)]
  congr 2
  by_cases e : k = 4
  · subst e; simp [fdHead]
  · rw [if_neg (by show ¬ ((4 : Int) == k) = true; simp; omega), if_neg e]; simp

theorem map_range_inj {α : Type} {n m : Nat} {f g : Nat → α} (h : (List.range n).map f = (List.range m).map g) : n = m ∧ ∀ i, i < n → f i = g i := by
  have e : n = m := by simpa using congrArg List.length h
  subst e
  refine ⟨rfl, fun i hi => ?_⟩
  have := congrArg (fun l => l[i]?) h
  simpa [hi] using this

theorem recsOf_inj {R T : Rep} (h : recsOf 0 0 R = recsOf 0 0 T) : Same R T := by
  have k1 := congrArg (List.filter (fun f => f.kind == 1)) h
  have k2 := congrArg (List.filter (fun f => f.kind == 2)) h
  have k3 := congrArg (List.filter (fun f => f.kind == 3)) h
  rw [filter_kind, filter_kind] at k1 k2 k3
  simp at k1 k2 k3
  obtain ⟨a1, b1⟩ := map_range_inj k1
  obtain ⟨a2, b2⟩ := map_range_inj k2
  obtain ⟨a3, b3⟩ := map_range_inj k3
  refine ⟨a1, a2, a3, fun i hi => ?_, fun i hi => ?_, fun i hi => ?_⟩
  · have := b1 i hi
    simp [fdClock] at this
    cases hr : R.c i; cases ht : T.c i; simp [hr, ht] at this; simp [this]
  · have := b2 i hi
    simp [fdCard] at this
    cases hr : R.d i; cases ht : T.d i; simp [hr, ht] at this; simp [this]
  · have := b3 i hi
    simp [fdEdit] at this
    cases hr : R.e i; cases ht : T.e i; simp [hr, ht] at this; simp [this]

theorem Same.recs {R T : Rep} (h : Same R T) : recsOf 0 0 R = recsOf 0 0 T := by
  have e1 : (List.range R.n1).map (fun i => fdClock (R.c i)) = (List.range R.n1).map (fun i => fdClock (T.c i)) := List.map_congr_left fun i hi => by rw [h.c i (List.mem_range.1 hi)]
  have e2 : (List.range R.n2).map (fun i => fdCard (R.d i)) = (List.range R.n2).map (fun i => fdCard (T.d i)) := List.map_congr_left fun i hi => by rw [h.d i (List.mem_range.1 hi)]
  have e3 : (List.range R.n3).map (fun i => fdEdit (R.e i)) = (List.range R.n3).map (fun i => fdEdit (T.e i)) := List.map_congr_left fun i hi => by rw [h.e i (List.mem_range.1 hi)]
  unfold recsOf recs3 recs2 recs1
  rw [e1, e2, e3, ← h.n1, ← h.n2, ← h.n3]

/-- A bundle is of one sound replica. -/
theorem bundle_same {R T : Rep} (hR : Fit R) (hT : Fit T) : bundleB (recsOf 0 0 R) = bundleB (recsOf 0 0 T) ↔ Same R T := by
  constructor
  · intro h
    refine recsOf_inj (bundleB_inj (fun f hf => ⟨hR.ok ⟨by omega, by omega⟩ (by omega) (by omega) f hf, recsOf_zero R f hf⟩) (fun f hf => ⟨hT.ok ⟨by omega, by omega⟩ (by omega) (by omega) f hf, recsOf_zero T f hf⟩) h)
  · intro h; rw [h.recs]

/-- How many bytes a number has. -/
def bytesI : Nat → Int → Nat
  | 0, _ => 1
  | k + 1, n => if n < 128 then 1 else bytesI k (n / 128) + 1
theorem numI_bytes : ∀ (k : Nat) (n : Int), (numI k n).length = bytesI k n
  | 0, n => rfl
  | k + 1, n => by
    simp only [numI, bytesI]; split
    · rfl
    · simp [numI_bytes k (n / 128)]
theorem numB_bytes (n : Int) : (numB n).length = bytesI 9 n := by simp [numB, numI_bytes]

/-- How long the frames of records are. -/
def lenF (f : Fd) : Nat := (recF f).length + 7
def lenL (l : List Fd) : Nat := (l.map lenF).sum
theorem bundleB_length (l : List Fd) : (bundleB l).length = 8 + lenL l := by
  have : ∀ l : List Fd, (l.flatMap (fun f => frameB (recF f))).length = lenL l := by
    intro l; induction l with
    | nil => rfl
    | cons f l ih => simp only [List.flatMap_cons, List.length_append, ih, frameB_length, lenL, List.map_cons, List.sum_cons, lenF]
  unfold bundleB bodyB
  simp [fourI, this]; omega
theorem lenL_snoc (l : List Fd) (f : Fd) : lenL (l ++ [f]) = lenL l + lenF f := by simp [lenL]
theorem lenF_clock (c : Ck) : lenF (fdClock c) = 8 + bytesI 9 c.site + bytesI 9 c.count := by
  unfold lenF; rw [recF_clock, recClock, List.length_cons, List.length_append, numB_bytes, numB_bytes]; omega
theorem lenF_card (c : Cd) : lenF (fdCard c) = 9 + bytesI 9 c.id + bytesI 9 c.site + bytesI 9 c.count + c.text.size := by
  have : c.text.data.toList.length = c.text.size := Array.length_toList
  unfold lenF; rw [recF_card, recCard, List.length_cons, List.length_append, List.length_append, List.length_append, List.length_cons, numB_bytes, numB_bytes, numB_bytes]; omega
theorem lenF_edit (c : Ed) : lenF (fdEdit c) = 8 + bytesI 9 c.id + c.text.size := by
  have : c.text.data.toList.length = c.text.size := Array.length_toList
  unfold lenF; rw [recF_edit, recEdit, List.length_cons, List.length_append, numB_bytes]; omega
theorem lenF_head : lenF (fdHead 0 0) = 9 := by
  unfold lenF; rw [recF_head]; rfl
end Go.Proofs.Ytdjpkgaicmklmaa

/- Numbers read back: plain functions, and the reference's number, numbers, four, walked. -/
namespace Go.Proofs.Ytdjpkgaicmklmaa
open Go.RowKit

/-- Bytes are added up till the first below 128. -/
def rdAcc : Nat → Nat → Int → List UInt8 → Option (Int × Nat)
  | 0, _, _, _ => none
  | _ + 1, _, _, [] => none
  | k + 1, i, v, c :: s => if c.toNat < 128 then some (v + ((c.toNat % 128 : Nat) : Int) * 128 ^ i, i + 1) else rdAcc k (i + 1) (v + ((c.toNat % 128 : Nat) : Int) * 128 ^ i) s
/-- The number with which bytes begin, and how many bytes it has. -/
def numRd (s : List UInt8) : Option (Int × Nat) := match rdAcc 9 0 0 s with
  | some (v, n) => if numB v = s.take n then some (v, n) else none
  | none => none
def rdV (x : Option (Int × Nat)) : Value := match x with
  | some (v, n) => .tuple #[.int .i64 v, .int .i64 (n : Nat)]
  | none => .tuple #[.int .i64 0, .int .i64 0]

theorem str_extract (s : List UInt8) (a b : Nat) : (str s).extract a b = str ((s.drop a).take (b - a)) := by
  have : ((str s).extract a b).data = (str ((s.drop a).take (b - a))).data := by
    rw [ByteArray.data_extract]; simp [str]
  cases h : (str s).extract a b
  rw [h] at this
  simp only [str] at this ⊢
  rw [this]
theorem str_at (s : List UInt8) (k : Nat) (h : k < (str s).size) (h2 : k < s.length) : (str s)[k]'h = s[k] := rfl
theorem str_beq (a b : List UInt8) : ((str a).toList == (str b).toList) = (a == b) := by rw [str_toList, str_toList]

theorem pow128 (i : Nat) (h : i ≤ 8) : (128 : Int) ^ i ≤ 72057594037927936 ∧ 0 < (128 : Int) ^ i := by
  have : i = 0 ∨ i = 1 ∨ i = 2 ∨ i = 3 ∨ i = 4 ∨ i = 5 ∨ i = 6 ∨ i = 7 ∨ i = 8 := by omega
  rcases this with rfl | rfl | rfl | rfl | rfl | rfl | rfl | rfl | rfl <;> decide

set_option maxRecDepth 100000 in
set_option maxHeartbeats 4000000 in
theorem rnum_any (s : List UInt8) (w : World) (hs : s.length ≤ 9223372036854775807) :
    Calls Try.prog 166 #[.string (str s)] w fun e w' => e = .returned (rdV (numRd s)) ∧ Below w.heap.size w w' := by
  have hz := str_size s
  have HZ : Hid ((str s).size = s.length) := hz
  clear hz
  have hs2 : (str s).size ≤ 9223372036854775807 := by rw [HZ.out]; exact hs
  go_enter Try.func166, Try.ntmps166
  go_wp2
  go_loopw [4, 5, 6] (fun u q _ wr => ∃ (i : Nat) (v : Int), i ≤ 9 ∧ i ≤ (str s).size ∧ q = .int .i64 i ∧ u = .int .i64 v ∧ 0 ≤ v ∧ v < 128 ^ i ∧ rdAcc (9 - i) i v (s.drop i) = rdAcc 9 0 0 s ∧ wr = w) (fun _ q _ _ => 9 - (intOf q).toNat)
  case atStart => exact ⟨0, 0, by omega, by omega, rfl, rfl, by omega, by omega, rfl, rfl⟩
  case round =>
    obtain ⟨i, v, hi9, hi, rfl, rfl, v0, v1, hr, hw⟩ := hrel
    obtain rfl := hw.symm
    have HR : Hid (rdAcc (9 - i) i v (s.drop i) = rdAcc 9 0 0 s) := hr
    clear hr
    by_cases hlt : i < (str s).size
    · by_cases hl9 : i < 9
      · have hlt2 : i < s.length := by rw [← HZ.out]; exact hlt
        have hp := pow128 i (by omega)
        have HV : Hid (v < 128 ^ i) := v1
        clear v1
        have hb := (s[i]).toNat_lt
        have ev : wrap64 (v + wrap64 ((wrap64 (((str s)[i]'hlt).toNat : Int)).tmod 128 * 2 ^ (7 * i))) = v + ((s[i].toNat % 128 : Nat) : Int) * 128 ^ i := by
          have e0 : ((str s)[i]'hlt).toNat = s[i].toNat := rfl
          have e1 : (2 : Int) ^ (7 * i) = 128 ^ i := by rw [Int.pow_mul]; rfl
          rw [e0, e1]
          have e2 : wrap64 (s[i].toNat : Int) = (s[i].toNat : Int) := by unfold wrap64; omega
          rw [e2]
          have e3 : (s[i].toNat : Int).tmod 128 = ((s[i].toNat % 128 : Nat) : Int) := by rw [Int.tmod_eq_emod_of_nonneg (by omega)]; omega
          rw [e3]
          have h1 : ((s[i].toNat % 128 : Nat) : Int) * 128 ^ i ≤ 127 * 128 ^ i := Int.mul_le_mul_of_nonneg_right (by omega) (by omega)
          have h0 : 0 ≤ ((s[i].toNat % 128 : Nat) : Int) * 128 ^ i := Int.mul_nonneg (by omega) (by omega)
          have h2 := HV.out
          generalize ((s[i].toNat % 128 : Nat) : Int) * 128 ^ i = m at *
          generalize (128 : Int) ^ i = q at *
          unfold wrap64
          omega
        have hv' : 0 ≤ v + ((s[i].toNat % 128 : Nat) : Int) * 128 ^ i ∧ v + ((s[i].toNat % 128 : Nat) : Int) * 128 ^ i < 128 ^ (i + 1) ∧ v + ((s[i].toNat % 128 : Nat) : Int) * 128 ^ i ≤ 9223372036854775807 := by
          have h1 : ((s[i].toNat % 128 : Nat) : Int) * 128 ^ i ≤ 127 * 128 ^ i := Int.mul_le_mul_of_nonneg_right (by omega) (by omega)
          have h0 : 0 ≤ ((s[i].toNat % 128 : Nat) : Int) * 128 ^ i := Int.mul_nonneg (by omega) (by omega)
          have h2 := HV.out
          rw [Int.pow_succ]
          generalize ((s[i].toNat % 128 : Nat) : Int) * 128 ^ i = m at *
          generalize (128 : Int) ^ i = q at *
          omega
        have hstep : rdAcc 9 0 0 s = if s[i].toNat < 128 then some (v + ((s[i].toNat % 128 : Nat) : Int) * 128 ^ i, i + 1) else rdAcc (9 - (i + 1)) (i + 1) (v + ((s[i].toNat % 128 : Nat) : Int) * 128 ^ i) (s.drop (i + 1)) := by
          rw [← HR.out, List.drop_eq_getElem_cons hlt2, show 9 - i = (9 - (i + 1)) + 1 by omega]
          rfl
        have HS : Hid (rdAcc 9 0 0 s = if s[i].toNat < 128 then some (v + ((s[i].toNat % 128 : Nat) : Int) * 128 ^ i, i + 1) else rdAcc (9 - (i + 1)) (i + 1) (v + ((s[i].toNat % 128 : Nat) : Int) * 128 ^ i) (s.drop (i + 1))) := hstep
        have HE : Hid (wrap64 (v + wrap64 ((wrap64 (((str s)[i]'hlt).toNat : Int)).tmod 128 * 2 ^ (7 * i))) = v + ((s[i].toNat % 128 : Nat) : Int) * 128 ^ i) := ev
        have HE2 : Hid (wrap64 (v + wrap64 ((((str s)[i]'hlt).toNat : Int) % 128 * 2 ^ (7 * i))) = v + ((s[i].toNat % 128 : Nat) : Int) * 128 ^ i) := by
          have e0 : ((str s)[i]'hlt).toNat = s[i].toNat := rfl
          show _ = _
          rw [← ev, e0]
          have e2 : wrap64 (s[i].toNat : Int) = (s[i].toNat : Int) := by unfold wrap64; omega
          rw [e2, Int.tmod_eq_emod_of_nonneg (by omega)]
        clear hstep ev HR
        generalize hV : v + ((s[i].toNat % 128 : Nat) : Int) * 128 ^ i = V at *
        clear hV
        by_cases hc : ((str s)[i]'hlt).toNat < 128
        · have hacc : rdAcc 9 0 0 s = some (V, i + 1) := by rw [HS.out]; exact if_pos hc
          have HA : Hid (rdAcc 9 0 0 s = some (V, i + 1)) := hacc
          clear hacc HS
          go_wp2_with fail
          first | rw [HE.out] | rw [HE2.out]
          refine (rnumber_any V _ hv'.1 hv'.2.2).mono ?_
          rintro e w' ⟨rfl, hb'⟩
          have hx : (str s).extract 0 (i + 1) = str (s.take (i + 1)) := by rw [str_extract]; simp
          have hle : ((i : Int) + 1) ≤ ((str s).size : Int) := by omega
          by_cases hq : numB V = s.take (i + 1)
          · have hbq : ((str (numB V)).toList == (str (s.take (i + 1))).toList) = true := by rw [str_beq, hq]; simp
            have HN : Hid (numRd s = some (V, i + 1)) := by show _ = _; unfold numRd; rw [HA.out]; simp only; rw [if_pos hq]
            clear hq
            go_wp2_with fail
            go_ret2
            exact ⟨by rw [HN.out]; rfl, hb'⟩
          · have hbq : ((str (numB V)).toList == (str (s.take (i + 1))).toList) = false := by rw [str_beq, beq_eq_false_iff_ne]; exact hq
            have HN : Hid (numRd s = none) := by show _ = _; unfold numRd; rw [HA.out]; simp only; rw [if_neg hq]
            clear hq
            go_wp2_with fail
            go_ret2
            exact ⟨by rw [HN.out]; rfl, hb'⟩
        · have hacc : rdAcc (9 - (i + 1)) (i + 1) V (s.drop (i + 1)) = rdAcc 9 0 0 s := by rw [HS.out]; exact (if_neg hc).symm
          have HA : Hid (rdAcc (9 - (i + 1)) (i + 1) V (s.drop (i + 1)) = rdAcc 9 0 0 s) := hacc
          clear hacc HS
          go_wp2_with fail
          first | rw [HE.out] | rw [HE2.out]
          go_roundw
          case rel => exact ⟨i + 1, V, by omega, by omega, by go_num, rfl, hv'.1, hv'.2.1, HA.out, by first | rfl | trivial⟩
          case measure => simp [intOf]; omega
      · have HN : Hid (numRd s = none) := by
          have : 9 - i = 0 := by omega
          have h := HR.out
          rw [this] at h
          show _ = _; unfold numRd; rw [← h]; rfl
        go_wp2_with fail
        go_ret2
        exact ⟨by rw [HN.out]; rfl, Below.refl _ _⟩
    · have HN : Hid (numRd s = none) := by
        have h := HR.out
        rw [List.drop_of_length_le (by rw [← HZ.out]; omega)] at h
        have : rdAcc (9 - i) i v [] = none := by cases 9 - i <;> rfl
        show _ = _; unfold numRd; rw [← h, this]
      go_wp2_with fail
      go_ret2
      exact ⟨by rw [HN.out]; rfl, Below.refl _ _⟩

theorem rdAcc_le : ∀ (k i : Nat) (v : Int) (s : List UInt8) {v' : Int} {n : Nat}, rdAcc k i v s = some (v', n) → i < n ∧ n ≤ i + s.length
  | 0, _, _, _, _, _, h => by simp [rdAcc] at h
  | _ + 1, _, _, [], _, _, h => by simp [rdAcc] at h
  | k + 1, i, v, c :: s, v', n, h => by
    simp only [rdAcc] at h
    split at h
    · simp at h; simp; omega
    · have := rdAcc_le k (i + 1) _ s h; simp; omega
theorem rdAcc_num : ∀ (k i : Nat) (v : Int) (s : List UInt8) {v' : Int} {n : Nat}, rdAcc k i v s = some (v', n) → 0 ≤ v → v < 128 ^ i → i + k ≤ 9 → 0 ≤ v' ∧ v' < 128 ^ 9
  | 0, _, _, _, _, _, h, _, _, _ => by simp [rdAcc] at h
  | _ + 1, _, _, [], _, _, h, _, _, _ => by simp [rdAcc] at h
  | k + 1, i, v, c :: s, v', n, h, h0, h1, hk => by
    have hp := pow128 i (by omega)
    have m0 : 0 ≤ ((c.toNat % 128 : Nat) : Int) * 128 ^ i := Int.mul_nonneg (by omega) (by omega)
    have m1 : ((c.toNat % 128 : Nat) : Int) * 128 ^ i ≤ 127 * 128 ^ i := Int.mul_le_mul_of_nonneg_right (by omega) (by omega)
    simp only [rdAcc] at h
    split at h
    · simp at h
      obtain ⟨rfl, -⟩ := h
      simp only [Int.natCast_emod] at m0 m1
      have e9 : (128 : Int) ^ 9 = 9223372036854775808 := by decide
      rw [e9]
      have e : ((128 : Nat) : Int) = 128 := rfl
      simp only [e] at m0 m1
      generalize (128 : Int) ^ i = q at *
      omega
    · refine rdAcc_num k (i + 1) _ s h (by omega) ?_ (by omega)
      rw [Int.pow_succ]; omega
theorem numRd_le {s : List UInt8} {v : Int} {n : Nat} (h : numRd s = some (v, n)) : 0 < n ∧ n ≤ s.length ∧ Num v ∧ numB v = s.take n := by
  unfold numRd at h
  split at h
  · rename_i v' n' hr
    split at h
    · simp at h
      obtain ⟨rfl, rfl⟩ := h
      rename_i hq
      have h1 := rdAcc_le 9 0 0 s hr
      have h2 := rdAcc_num 9 0 0 s hr (by omega) (by decide) (by omega)
      have e9 : (128 : Int) ^ 9 = 9223372036854775808 := by decide
      rw [e9] at h2
      exact ⟨by omega, by omega, ⟨by omega, by omega⟩, hq⟩
    · cases h
  · cases h

/-- The k numbers with which bytes begin, and what is behind them. -/
def numsRd : Nat → List UInt8 → Option (List Int × List UInt8)
  | 0, s => some ([], s)
  | k + 1, s => match numRd s with
    | none => none
    | some (v, n) => match numsRd k (s.drop n) with
      | none => none
      | some (l, r) => some (v :: l, r)
def pre (a : List Int) (x : Option (List Int × List UInt8)) : Option (List Int × List UInt8) := x.map fun p => (a ++ p.1, p.2)
theorem numsRd_length : ∀ (k : Nat) (s : List UInt8) {l : List Int} {r : List UInt8}, numsRd k s = some (l, r) → l.length = k ∧ r.length ≤ s.length
  | 0, s, l, r, h => by simp [numsRd] at h; obtain ⟨rfl, rfl⟩ := h; simp
  | k + 1, s, l, r, h => by
    simp only [numsRd] at h
    split at h
    · cases h
    · split at h
      · cases h
      · rename_i hh
        simp at h
        obtain ⟨rfl, rfl⟩ := h
        have := numsRd_length k _ hh
        simp at this ⊢
        omega
theorem pre_some (a : List Int) (l : List Int) (r : List UInt8) : pre a (some (l, r)) = some (a ++ l, r) := rfl
theorem numsRd_step {a : List Int} {k : Nat} {s : List UInt8} {v : Int} {n : Nat} (h : numRd s = some (v, n)) : pre a (numsRd (k + 1) s) = pre (a ++ [v]) (numsRd k (s.drop n)) := by
  simp only [numsRd, h]
  cases numsRd k (s.drop n) with
  | none => rfl
  | some p => obtain ⟨l, r⟩ := p; simp [pre]
theorem numsRd_none {a : List Int} {k : Nat} {s : List UInt8} (h : numRd s = none) : pre a (numsRd (k + 1) s) = none := by
  simp only [numsRd, h]; rfl

/-- What numbers answers. -/
def NumsAns (s : List UInt8) (k : Nat) (w : World) (e : Ending) (w' : World) : Prop :=
  match numsRd k s with
  | none => e = .returned (.tuple #[.slice none 0 0, .string ⟨#[]⟩, .bool false])
  | some (l, r) => ∃ ad cap, e = .returned (.tuple #[.slice ad k cap, .string (str r), .bool true]) ∧ Vec w' w.heap.size 3 1 ad k cap (l.map (Value.int .i64))

set_option maxRecDepth 100000 in
set_option maxHeartbeats 4000000 in
theorem rnums_any (s : List UInt8) (k : Nat) (w : World) (hs : s.length ≤ 9223372036854775807) (hk : k ≤ 3) :
    Calls Try.prog 151 #[.string (str s), .int .i64 k] w fun e w' => NumsAns s k w e w' ∧ Below w.heap.size w w' := by
  go_enter Try.func151, Try.ntmps151
  go_wp2
  go_loopw [0, 7, 8, 9, 10] (fun u q i _ _ wr => ∃ (j : Nat) (t : List UInt8) (a : List Int) (ad : Option Addr) (cap : Nat), j ≤ k ∧ i = .int .i64 j ∧ u = .string (str t) ∧ t.length ≤ s.length ∧ q = .slice ad j cap ∧ pre a (numsRd (k - j) t) = numsRd k s ∧ Vec wr w.heap.size 3 1 ad j cap (a.map (Value.int .i64)) ∧ Below w.heap.size w wr) (fun _ _ i _ _ _ => k - (intOf i).toNat)
  case atStart => exact ⟨0, s, [], none, 0, Nat.zero_le _, rfl, rfl, Nat.le_refl _, rfl, by simp [pre], Vec.nil _ _ _ _, Below.refl _ _⟩
  case round =>
    obtain ⟨j, t, a, ad, cap, hj, rfl, rfl, ht, rfl, hp, hv, hb⟩ := hrel
    have HP : Hid (pre a (numsRd (k - j) t) = numsRd k s) := hp
    clear hp
    by_cases hlt : j < k
    · have ht2 : t.length ≤ 9223372036854775807 := by omega
      go_wp2_with fail
      refine (rnum_any t _ ht2).mono ?_
      rintro e w1 ⟨rfl, hb1⟩
      have hv1 := hv.keep hb1
      have hb2 : Below w.heap.size w w1 := hb.trans (hb1.mono hb.size)
      have hz := hb2.size
      clear hv hb hb1
      cases hn : numRd t with
      | none =>
        have HN : Hid (numsRd k s = none) := by
          show _ = _; rw [← HP.out, show k - j = (k - (j + 1)) + 1 by omega]; exact numsRd_none hn
        simp only [rdV]
        clear hn
        go_wp2_with fail
        go_ret3
        refine ⟨?_, hb2⟩
        unfold NumsAns; rw [HN.out]; rfl
      | some p =>
        obtain ⟨v, n⟩ := p
        obtain ⟨n0, n1, nv, -⟩ := numRd_le hn
        have HN : Hid (pre (a ++ [v]) (numsRd (k - (j + 1)) (t.drop n)) = numsRd k s) := by
          show _ = _; rw [← HP.out, show k - j = (k - (j + 1)) + 1 by omega]; exact (numsRd_step hn).symm
        simp only [rdV]
        clear hn
        have hnz : ((n : Int) == 0) = false := by simp; omega
        have hle : (n : Int) ≤ ((str t).size : Int) := by rw [str_size]; omega
        have hx : (str t).extract n (str t).size = str (t.drop n) := by rw [str_extract, str_size, List.take_of_length_le (by simp)]
        go_wp2_with (at_builtin; refine wpList_push (by rfl) _ _ 55 (by rfl) w.heap.size 3 1 8 (.int .i64 0) Try.underlying55 (by kernel_rfl) rfl (by decide) ad j cap _ (by rfl) (hv1.keep ((Below.refl _ _).alloc (Nat.le_refl _) _)) _ _ [.int .i64 v] (by rfl) rfl ?_ ?_ ?_ ?_ ?_ ?_; exact new_cells _ _ _; (simp [Value.oneCell']); (omega); (omega); (simp; omega); intro ad' cap' w' hv' hb' hs')
        have hb3 : Below w.heap.size w w' := (hb2.alloc hz _).trans hb'
        go_roundw
        case rel => exact ⟨j + 1, t.drop n, a ++ [v], ad', cap', by omega, by go_num, rfl, by simp; omega, rfl, HN.out, by simpa using hv', hb3⟩
        case measure => simp [intOf]; omega
    · have HN : Hid (numsRd k s = some (a, t)) := by
        show _ = _; rw [← HP.out, show k - j = 0 by omega]; simp [numsRd, pre]
      obtain rfl : j = k := by omega
      go_wp2_with fail
      go_ret3
      refine ⟨?_, hb⟩
      unfold NumsAns; rw [HN.out]
      exact ⟨ad, cap, rfl, hv⟩
end Go.Proofs.Ytdjpkgaicmklmaa

/- The program's Split and what it calls, walked. -/
namespace Go.Proofs.Ytdjpkgaicmklmaa
open Go.RowKit
attribute [local go_sem] str_size str_append mk_append_str str_append_mk

def strLen : Value → Nat
  | .string s => s.size
  | _ => 0
theorem cnt_is {m k i : Nat} (hm : 0 < m) (h1 : i = 0 ∨ i * m < k) (h2 : k ≤ (i + 1) * m) : cntB m k = i + 1 := by
  unfold cntB
  rw [Nat.add_mul] at h2
  by_cases hk : k ≤ m
  · rw [if_pos hk]
    rcases h1 with rfl | h1
    · rfl
    · rcases Nat.eq_zero_or_pos i with rfl | hi
      · rfl
      · have := Nat.mul_le_mul_right m hi; omega
  · rw [if_neg hk]
    have e1 : (i + 1) * m = i * m + m := by rw [Nat.add_mul, Nat.one_mul]
    have e2 : (i + 1 + 1) * m = i * m + m + m := by rw [Nat.add_mul, e1, Nat.one_mul]
    exact Nat.div_eq_of_lt_le (by rw [e1]; rcases h1 with rfl | h1 <;> omega) (by rw [e2]; omega)
theorem part_last {m i : Nat} {b : List UInt8} (h : b.length ≤ (i + 1) * m) : partB m i b = b.drop (i * m) := by
  unfold partB; rw [Nat.add_mul] at h; exact List.take_of_length_le (by simp; omega)

/-- The parts. -/
def partsB (m : Nat) (b : List UInt8) : List (List UInt8) := (List.range (cntB m b.length)).map fun i => partB m i b

set_option maxRecDepth 100000 in
set_option maxHeartbeats 4000000 in
theorem partsOf_any (b : List UInt8) (m : Nat) (w : World) (hb : b.length ≤ 6000) (hm : 26 ≤ m) (hm2 : m ≤ 4000) :
    Calls Try.prog 132 #[.string (str b), .int .i64 (m : Int)] w fun e w' => ∃ ad cap N, e = .returned (.slice ad N cap) ∧ N = cntB m b.length ∧ Vec w' w.heap.size 9 1 ad N cap (strs (partsB m b)) ∧ Below w.heap.size w w' := by
  have HB : Hid (b.length ≤ 6000) := hb
  have hV0 : Hid (Vec (w.alloc (.cells #[] 9)) w.heap.size 9 1 (some ⟨w.heap.size, 0, none⟩) 0 0 (strs [])) := Vec.lit w w.heap.size 9 1 0 [] (Nat.le_refl _) (by omega) rfl
  go_enter Try.func132, Try.ntmps132
  go_wp2_with fail
  go_loopw [0, 5] (fun u v wr => ∃ (i : Nat) (ad : Option Addr) (cap : Nat) (t : List UInt8), u = .string (str t) ∧ v = .slice ad i cap ∧ t = b.drop (i * m) ∧ (i = 0 ∨ i * m < b.length) ∧ i ≤ 6000 ∧ t.length ≤ 6000 ∧ Vec wr w.heap.size 9 1 ad i cap (strs ((List.range i).map fun k => partB m k b)) ∧ Below w.heap.size w wr) (fun u _ _ => strLen u)
  case atStart => exact ⟨0, _, _, b, rfl, rfl, by simp, Or.inl rfl, by omega, hb, hV0.out, (Below.refl _ _).alloc (Nat.le_refl _) _⟩
  case round =>
    obtain ⟨i, ad, cap, t, rfl, rfl, ht, hi, hi2, htl, hv, hbw⟩ := hrel
    have HT : Hid (t = b.drop (i * m)) := ht
    have HI : Hid (i = 0 ∨ i * m < b.length) := hi
    have hl : t.length = b.length - i * m := by rw [ht]; simp
    have HL : Hid (t.length = b.length - i * m) := hl
    have hz := hbw.size
    clear ht hi hl hb
    by_cases hlt : m < t.length
    · have hx1 : (str t).extract 0 m = str (partB m i b) := by rw [str_extract, HT.out]; simp [partB]
      have hx2 : (str t).extract m t.length = str (t.drop m) := by rw [str_extract, List.take_of_length_le (by simp)]
      have him : (i + 1) * m < b.length := by rw [Nat.add_mul]; have := HL.out; omega
      have hi3 : i + 1 ≤ 6000 := by
        have := Nat.le_mul_of_pos_right (i + 1) (show 0 < m by omega)
        have := HB.out; omega
      have HM : Hid ((i + 1) * m < b.length) := him
      clear him
      go_wp2_with (at_builtin; refine wpList_push (by rfl) _ _ 46 (by rfl) w.heap.size 9 1 16 (.string ⟨#[]⟩) Try.underlying46 (by kernel_rfl) rfl (by decide) ad i cap _ (by rfl) (hv.keep ((Below.refl _ _).alloc (Nat.le_refl _) _)) _ _ [.string (str (partB m i b))] (by rfl) rfl ?_ ?_ ?_ ?_ ?_ ?_; exact new_cells _ _ _; (simp [Value.oneCell']); (omega); (omega); (simp; omega); intro ad' cap' w' hv' hb' hs')
      have hb2 : Below w.heap.size w w' := (hbw.alloc hz _).trans hb'
      go_roundw
      case rel => exact ⟨i + 1, ad', cap', t.drop m, rfl, rfl, by rw [HT.out, List.drop_drop, Nat.add_mul]; congr 1; omega, Or.inr HM.out, hi3, by simp; omega, by rw [List.range_succ, List.map_append, strs, List.map_append]; exact hv', hb2⟩
      case measure => simp [strLen, str_size]; omega
    · have hle : b.length ≤ (i + 1) * m := by rw [Nat.add_mul]; have := HL.out; omega
      have HC : Hid (cntB m b.length = i + 1) := cnt_is (by omega) HI.out hle
      have HP : Hid (t = partB m i b) := by show _ = _; rw [part_last hle]; exact HT.out
      clear hle
      go_wp2_with (at_builtin; refine wpList_push (by rfl) _ _ 46 (by rfl) w.heap.size 9 1 16 (.string ⟨#[]⟩) Try.underlying46 (by kernel_rfl) rfl (by decide) ad i cap _ (by rfl) (hv.keep ((Below.refl _ _).alloc (Nat.le_refl _) _)) _ _ [.string (str t)] (by rfl) rfl ?_ ?_ ?_ ?_ ?_ ?_; exact new_cells _ _ _; (simp [Value.oneCell']); (omega); (omega); (simp; omega); intro ad' cap' w' hv' hb' hs')
      go_ret
      exact ⟨ad', cap', i + 1, rfl, HC.out.symm, by unfold partsB; rw [HC.out, List.range_succ, List.map_append, strs, List.map_append]; rw [HP.out] at hv'; exact hv', (hbw.alloc hz _).trans hb'⟩

/-- A volume's struct. -/
abbrev volS (i n : Int) (s p : List UInt8) : List Value := [.int .u8 i, .int .u8 n, .string (str s), .string (str p)]

set_option maxRecDepth 100000 in
set_option maxHeartbeats 4000000 in
theorem bytesOf_any (i n : Int) (C : Nat) (p : List UInt8) (w : World) (hp : p.length ≤ 8796093022000) :
    Calls Try.prog 133 #[.agg (volS i n (fourI C) p).toArray] w fun e w' => e = .returned (.string (str (volB i n C p))) ∧ Below w.heap.size w w' := by
  have E : Hid (86 :: 79 :: 76 :: 49 :: byt i :: byt n :: (fourI C ++ p) ++ fourI (crc pSum (86 :: 79 :: 76 :: 49 :: byt i :: byt n :: (fourI C ++ p))) = volB i n C p) := by show _ = _; unfold volB volH; simp
  have l4 : (fourI (C : Int)).length ≤ 4 := Nat.le_refl _
  generalize fourI (C : Int) = s at *
  have hb0 : Below w.heap.size w (w.alloc (.cells (volS i n s p).toArray 122)) := (Below.refl _ _).alloc (Nat.le_refl _) _
  have hb1 : Below w.heap.size w ((w.alloc (.cells (volS i n s p).toArray 122)).alloc (.cells #[.int .u8 i, .int .u8 n] 5)) := hb0.alloc hb0.size _
  have hBx := (Bx.new w 122 (volS i n s p).toArray).alloc (.cells #[.int .u8 i, .int .u8 n] 5)
  have c2 := hBx.cell 2
  have c3 := hBx.cell 3
  clear hBx hb0
  dsimp only [List.getElem?_cons_zero, List.getElem?_cons_succ] at c2 c3
  go_enter Try.func133, Try.ntmps133
  go_wp2_with (refine wpList_toString (by rfl) 126 9 5 _ (by rfl) Try.underlying126 Try.underlying5 Try.underlying9 _ _ _ (by rfl) [i, n] rfl ?_ ?_; exact new_cells2 _ _ _ _)
  generalize ((w.alloc (.cells (volS i n s p).toArray 122)).alloc (.cells #[.int .u8 i, .int .u8 n] 5)) = w1 at *
  clear c2 c3
  refine (sum_any (86 :: 79 :: 76 :: 49 :: byt i :: byt n :: (s ++ p)) _ (by simp; omega)).mono ?_
  rintro e w2 ⟨rfl, rfl⟩
  obtain ⟨c1, c2⟩ := crc_le pSum (by decide) (86 :: 79 :: 76 :: 49 :: byt i :: byt n :: (s ++ p))
  generalize crc pSum (86 :: 79 :: 76 :: 49 :: byt i :: byt n :: (s ++ p)) = C2 at *
  go_wp2_with fail
  refine (fourBytes_any _ _ c1 c2).mono ?_
  rintro e w3 ⟨rfl, hb3⟩
  have l5 : (fourI (C2 : Int)).length ≤ 4 := Nat.le_refl _
  generalize fourI (C2 : Int) = t at *
  go_wp2_with fail
  go_ret
  exact ⟨ret_str (by rw [← E.out]; simp), hb1.trans (hb3.mono hb1.size)⟩

/-- What Split answers. -/
def splitOk (b : List UInt8) (size : Int) : Prop := 40 ≤ size ∧ size ≤ 4000 ∧ b.length ≤ 6000
instance (b : List UInt8) (size : Int) : Decidable (splitOk b size) := by unfold splitOk; infer_instance
def splitL (b : List UInt8) (size : Int) : List (List UInt8) := if splitOk b size then volsB (size - 14).toNat b else []
def splitE (b : List UInt8) (size : Int) : Int := if splitOk b size then 0 else 12
theorem vols_take (m : Nat) (b : List UInt8) (i : Nat) (h : i < cntB m b.length) : (volsB m b).take (i + 1) = (volsB m b).take i ++ [volB i (cntB m b.length) (crc pSum b) (partB m i b)] := by
  rw [List.take_succ_eq_append_getElem (by rw [vols_len]; exact h)]
  congr 2
  have := vols_get m b i h
  rw [List.getD_eq_getElem?_getD, List.getElem?_eq_getElem (by rw [vols_len]; exact h)] at this
  exact this

set_option maxRecDepth 100000 in
set_option maxHeartbeats 4000000 in
theorem vsplit_any (b : List UInt8) (size : Int) (w : World) (hb : b.length ≤ 9223372036854775807) :
    Calls Try.prog 95 #[.string (str b), .int .i64 size] w fun e w' => ∃ ad cap N, e = .returned (.tuple #[.slice ad N cap, .int .i64 (splitE b size)]) ∧ N = (splitL b size).length ∧ Vec w' w.heap.size 9 1 ad N cap (strs (splitL b size)) ∧ Below w.heap.size w w' := by
  by_cases hok : splitOk b size
  · have HE : Hid (splitE b size = 0) := by show _ = _; simp [splitE, hok]
    obtain ⟨m, hm⟩ : ∃ m : Nat, size = (m : Int) + 14 := ⟨(size - 14).toNat, by have := hok.1; omega⟩
    have HL : Hid (splitL b size = volsB m b) := by show _ = _; unfold splitL; rw [if_pos hok, hm]; congr 1; omega
    obtain ⟨h1, h2, h3⟩ := hok
    subst hm
    have hm1 : 26 ≤ m := by omega
    have hm2 : m ≤ 4000 := by omega
    have hsub : ((m : Int) + 14 - 14) = (m : Int) := by omega
    have HM : Hid (26 ≤ m) := hm1
    have H3 : Hid (b.length ≤ 6000) := h3
    have hc := cnt_small m b.length hm1 h3
    have hc0 := cnt_pos m b.length (by omega)
    go_enter Try.func95, Try.ntmps95
    go_wp2_with fail
    refine (sum_any b _ (by omega)).mono ?_
    rintro e w1 ⟨rfl, hw1⟩
    have hb1 : Below w.heap.size w w1 := by rw [hw1]; exact Below.refl _ _
    clear hw1
    obtain ⟨c1, c2⟩ := crc_le pSum (by decide) b
    go_wp2_with fail
    refine (fourBytes_any _ _ c1 c2).mono ?_
    rintro e w2 ⟨rfl, hb2⟩
    go_wp2_with fail
    refine (partsOf_any b m _ H3.out hm1 hm2).mono ?_
    rintro e w3 ⟨ad3, cap3, N3, rfl, hN3, hv3, hb3⟩
    have hbw := hb1.trans ((hb2.trans (hb3.mono hb2.size)).mono hb1.size)
    have HN3 : Hid (N3 = cntB m b.length) := hN3
    have hN256 : N3 < 256 := by omega
    have HV3 : Hid (Vec w3 w.heap.size 9 1 ad3 N3 cap3 (strs (partsB m b))) := hv3.mono (Nat.le_trans hb1.size hb2.size)
    have HBW : Hid (Below w.heap.size w w3) := hbw
    obtain ⟨C, hC⟩ : ∃ C, C = crc pSum b := ⟨_, rfl⟩
    rw [← hC]
    have HC : Hid (crc pSum b = C) := hC.symm
    clear hC
    clear hv3 hbw hb1 hb2 hb3 c1 c2 hN3 hc hc0
    go_wp2_with fail
    go_loopw [9, 10, 11] (fun v u _ wr => ∃ (i : Nat) (ad : Option Addr) (cap : Nat), i ≤ N3 ∧ u = .int .i64 i ∧ v = .slice ad i cap ∧ Vec wr w3.heap.size 9 1 ad i cap (strs ((volsB m b).take i)) ∧ Below w3.heap.size w3 wr) (fun _ u _ _ => N3 - (intOf u).toNat)
    case atStart => exact ⟨0, _, _, by omega, rfl, rfl, Vec.lit w3 w3.heap.size 9 1 0 [] (Nat.le_refl _) (by omega) rfl, (Below.refl _ _).alloc (Nat.le_refl _) _⟩
    case round =>
      obtain ⟨i, ad, cap, hi, rfl, rfl, hv, hbr⟩ := hrel
      by_cases hlt : i < N3
      · obtain ⟨bb, o, hbl, hix, hcell⟩ := ((strs_lies HV3.out (by rw [HN3.out]; simp [partsB])).below hbr).at cap3 (P := Try.prog) (t := 46) (by kernel_rfl) (by kernel_rfl) hlt
        have hc0 : wr.cell? ⟨bb, o, none⟩ = some (.string (str ((partsB m b).getD i []))) := hcell 0 _ (by omega) rfl
        have hpi : (partsB m b).getD i [] = partB m i b := by
          have : i < cntB m b.length := by rw [← HN3.out]; exact hlt
          simp [partsB, List.getD, this]
        rw [hpi] at hc0
        have hpl : (partB m i b).length ≤ 6000 := by unfold partB; have := H3.out; simp; omega
        have HT : Hid ((volsB m b).take (i + 1) = (volsB m b).take i ++ [volB i N3 C (partB m i b)]) := by
          have := vols_take m b i (by rw [← HN3.out]; exact hlt)
          rw [HC.out, ← HN3.out] at this; exact this
        clear hcell hpi
        generalize partB m i b = p at *
        go_wp2_with fail
        refine (bytesOf_any (i : Int) (N3 : Int) C p _ (by omega)).mono ?_
        rintro e w5 ⟨rfl, hb5⟩
        have hv5 := hv.keep hb5
        have hbr5 := hbr.trans (hb5.mono hbr.size)
        have hz5 := hbr5.size
        clear hv hbr hb5
        generalize hV : volB (i : Int) (N3 : Int) C p = V at *
        clear hV
        go_wp2_with (at_builtin; refine wpList_push (by rfl) _ _ 46 (by rfl) w3.heap.size 9 1 16 (.string ⟨#[]⟩) Try.underlying46 (by kernel_rfl) rfl (by decide) ad i cap _ (by rfl) (hv5.keep ((Below.refl _ _).alloc (Nat.le_refl _) _)) _ _ [.string (str V)] (by rfl) rfl ?_ ?_ ?_ ?_ ?_ ?_; exact new_cells _ _ _; (simp [Value.oneCell']); (omega); (omega); (simp; omega); intro ad' cap' w' hv' hb' hs')
        go_roundw
        case rel => exact ⟨i + 1, ad', cap', by omega, by go_num, rfl, by rw [HT.out, strs, List.map_append]; exact hv', (hbr5.alloc hz5 _).trans hb'⟩
        case measure => simp [intOf]; omega
      · have e1 : i = N3 := by omega
        subst e1
        have HT : Hid ((volsB m b).take i = volsB m b) := List.take_of_length_le (by rw [vols_len, ← HN3.out]; exact Nat.le_refl _)
        go_wp2_with fail
        go_ret2
        exact ⟨ad, cap, i, by rw [HE.out]; rfl, by rw [HL.out, vols_len]; exact HN3.out, by rw [HL.out, ← HT.out]; exact hv.mono HBW.out.size, HBW.out.trans (hbr.mono HBW.out.size)⟩
  · have HE : Hid (splitE b size = 12) := by show _ = _; simp [splitE, hok]
    have HL : Hid (splitL b size = []) := by show _ = _; simp [splitL, hok]
    have hz := str_size b
    by_cases h1 : size < 40
    · clear hok hz
      go_enter Try.func95, Try.ntmps95
      go_wp2_with fail
      go_ret2
      refine ⟨none, 0, 0, by rw [HE.out]; rfl, by rw [HL.out]; rfl, by rw [HL.out]; exact Vec.nil _ _ _ _, Below.refl _ _⟩
    · by_cases h2 : 4000 < size
      · clear hok hz
        go_enter Try.func95, Try.ntmps95
        go_wp2_with fail
        go_ret2
        refine ⟨none, 0, 0, by rw [HE.out]; rfl, by rw [HL.out]; rfl, by rw [HL.out]; exact Vec.nil _ _ _ _, Below.refl _ _⟩
      · have h3 : 6000 < b.length := by
          rcases Nat.lt_or_ge 6000 b.length with h | h
          · exact h
          · exact absurd ⟨by omega, by omega, h⟩ hok
        clear hok hz
        go_enter Try.func95, Try.ntmps95
        go_wp2_with fail
        go_ret2
        refine ⟨none, 0, 0, by rw [HE.out]; rfl, by rw [HL.out]; rfl, by rw [HL.out]; exact Vec.nil _ _ _ _, Below.refl _ _⟩

set_option maxRecDepth 100000 in
set_option maxHeartbeats 4000000 in
theorem psplit_any (b : List UInt8) (size : Int) (w : World) (hb : b.length ≤ 9223372036854775807) :
    Calls Try.prog 52 #[.string (str b), .int .i64 size] w fun e w' => ∃ ad cap N, e = .returned (.tuple #[.slice ad N cap, .int .i64 (splitE b size)]) ∧ N = (splitL b size).length ∧ Vec w' w.heap.size 9 1 ad N cap (strs (splitL b size)) ∧ Below w.heap.size w w' := by
  go_enter Try.func52, Try.ntmps52
  go_wp2_with fail
  refine (vsplit_any b size _ hb).mono ?_
  rintro e w' ⟨ad, cap, N, rfl, rfl, h⟩
  go_wp2_with fail
  go_ret2
  exact ⟨ad, cap, _, rfl, rfl, h⟩
end Go.Proofs.Ytdjpkgaicmklmaa

/- The reference's Split, walked. -/
namespace Go.Proofs.Ytdjpkgaicmklmaa
open Go.RowKit
attribute [local go_sem] str_size str_append mk_append_str str_append_mk

set_option maxRecDepth 100000 in
set_option maxHeartbeats 4000000 in
theorem rhead_any (i n : Nat) (C : Nat) (w : World) (hi : i < 256) (hn : n < 256) (hC : C < 4294967296) :
    Calls Try.prog 96 #[.int .i64 (i : Int), .int .i64 (n : Int), .int .i64 (C : Int)] w fun e w' => e = .returned (.string (str (volH i n C []))) ∧ Below w.heap.size w w' := by
  have E : Hid (86 :: 79 :: 76 :: 49 :: byt i :: byt n :: fourI C = volH i n C []) := by show _ = _; unfold volH; simp
  have hwi : IntKind.u8.wrap (i : Int) = (i : Int) := wrap_u8 _ (by omega)
  have hwn : IntKind.u8.wrap (n : Int) = (n : Int) := wrap_u8 _ (by omega)
  have cv1 : ∀ w' : World, (convert 126 9 (.slice (some ⟨w'.heap.size, 0, none⟩) 2 2)).run Try.prog (w'.alloc (.cells #[.int .u8 (i : Int), .int .u8 (n : Int)] 5)).drew = .ok (.string (str [byt i, byt n])) (w'.alloc (.cells #[.int .u8 (i : Int), .int .u8 (n : Int)] 5)).drew :=
    fun w' => run_toString _ _ _ 5 _ _ _ [(i : Int), (n : Int)] Try.underlying126 Try.underlying5 Try.underlying9 rfl (new_cellsD _ _ _)
  have cv2 : ∀ w' : World, (convert 126 9 (.slice (some ⟨w'.heap.size, 0, none⟩) 2 2)).run Try.prog (w'.alloc (.cells #[.int .u8 (i : Int), .int .u8 (n : Int)] 5)) = .ok (.string (str [byt i, byt n])) (w'.alloc (.cells #[.int .u8 (i : Int), .int .u8 (n : Int)] 5)) :=
    fun w' => run_toString _ _ _ 5 _ _ _ [(i : Int), (n : Int)] Try.underlying126 Try.underlying5 Try.underlying9 rfl (new_cells _ _ _)
  have hf4 : (fourI (C : Int)).length = 4 := rfl
  go_enter Try.func96, Try.ntmps96
  go_wp2_with fail
  go_region_law (go_simp; go_at_call 60; refine (rfour_any _ _ (by omega) (by omega)).mono ?_; rintro e w' ⟨rfl, hb'⟩; dsimp only; (try have cv3 : (convert 126 9 (.slice (some ⟨w.heap.size, 0, none⟩) 2 2)).run Try.prog w' = .ok (.string (str [byt i, byt n])) w' := run_toString _ _ _ 5 _ _ _ [(i : Int), (n : Int)] Try.underlying126 Try.underlying5 Try.underlying9 rfl (cells_below hb' (new_cellsD _ _ _) (by simp))))
  all_goals
    go_wp2_with fail
    go_ret
    refine ⟨ret_str E.out, ?_⟩
    first
      | exact ((((Below.refl _ _).alloc (Nat.le_refl _) _).drew).trans (hb'.mono (by simp)))
      | exact ((Below.refl _ _).drew.trans hb').alloc hb'.size _

set_option maxRecDepth 100000 in
set_option maxHeartbeats 4000000 in
theorem rsplit_any (b : List UInt8) (size : Int) (w : World) (hb : b.length ≤ 9223372036854775807) :
    Calls Try.prog 53 #[.string (str b), .int .i64 size] w fun e w' => ∃ ad cap N, e = .returned (.tuple #[.slice ad N cap, .int .i64 (splitE b size)]) ∧ N = (splitL b size).length ∧ Vec w' w.heap.size 9 1 ad N cap (strs (splitL b size)) ∧ Below w.heap.size w w' := by
  by_cases hok : splitOk b size
  · have HE : Hid (splitE b size = 0) := by show _ = _; simp [splitE, hok]
    obtain ⟨m, hm⟩ : ∃ m : Nat, size = (m : Int) + 14 := ⟨(size - 14).toNat, by have := hok.1; omega⟩
    have HL : Hid (splitL b size = volsB m b) := by show _ = _; unfold splitL; rw [if_pos hok, hm]; congr 1; omega
    obtain ⟨h1, h2, h3⟩ := hok
    subst hm
    have hm1 : 26 ≤ m := by omega
    have hm2 : m ≤ 4000 := by omega
    have hsub : ((m : Int) + 14 - 14) = (m : Int) := by omega
    have H3 : Hid (b.length ≤ 6000) := h3
    obtain ⟨N, hN⟩ : ∃ N, N = cntB m b.length := ⟨_, rfl⟩
    have hc := cnt_small m b.length hm1 h3
    have hc0 := cnt_pos m b.length (by omega)
    have HG : Hid (b.length ≤ N * m) := by show _ ≤ _; rw [hN]; exact cnt_ge m b.length (by omega)
    rw [← hN] at hc hc0
    have HN : Hid (N = cntB m b.length) := hN
    clear hN
    go_enter Try.func53, Try.ntmps53
    go_wp2_with fail
    go_loopw [6] (fun u wr => ∃ k : Nat, 1 ≤ k ∧ k ≤ N ∧ u = .int .i64 k ∧ (k = 1 ∨ (k - 1) * m < b.length) ∧ wr = w) (fun u _ => N - (intOf u).toNat)
    case atStart => exact ⟨1, by omega, by omega, rfl, Or.inl rfl, rfl⟩
    case round =>
      obtain ⟨k, hk1, hk2, rfl, hk3, hw⟩ := hrel
      have HW : Hid (wr = w) := hw
      have HK : Hid (k = 1 ∨ (k - 1) * m < b.length) := hk3
      obtain ⟨q, hq⟩ : ∃ q, q = k * m := ⟨_, rfl⟩
      have hqi : (k : Int) * (m : Int) = (q : Int) := by rw [hq]; simp
      have hqb : q ≤ 1024000 := by rw [hq]; exact Nat.le_trans (Nat.mul_le_mul (show k ≤ 256 by omega) hm2) (by omega)
      have HQ : Hid (q = k * m) := hq
      clear hw hk3 hq
      by_cases hlt : q < b.length
      · have hkN : k < N := by
          rcases Nat.lt_or_ge k N with h | h
          · exact h
          · have := Nat.mul_le_mul_right m h; have := HG.out; have := HQ.out; omega
        go_wp2_with fail
        go_roundw
        case rel => exact ⟨k + 1, by omega, by omega, by go_num, Or.inr (by rw [Nat.add_sub_cancel, ← HQ.out]; exact hlt), HW.out⟩
        case measure => simp [intOf]; omega
      · have e1 : k = N := by
          have := cnt_is (m := m) (k := b.length) (i := k - 1) (by omega) (by rcases HK.out with h | h; (left; omega); (right; exact h)) (by rw [Nat.sub_add_cancel hk1, ← HQ.out]; omega)
          rw [HN.out, this]; omega
        subst e1
        go_wp2_with fail
        refine (rsum_any b _ (by omega)).mono ?_
        rintro e w1 ⟨rfl, hb1⟩
        have HB1 : Hid (Below w.heap.size w w1) := by rw [HW.out] at hb1; exact hb1
        have hcl := crc_lt (p := pSum) (by decide) b
        obtain ⟨C, hC⟩ : ∃ C, C = crc pSum b := ⟨_, rfl⟩
        rw [← hC] at hcl ⊢
        have HC : Hid (crc pSum b = C) := hC.symm
        clear hC hb1
        go_wp2_with fail
        go_loopw [0, 8, 9, 10, 11, 12] (fun x v u _ _ _ wr => ∃ (i : Nat) (ad : Option Addr) (cap : Nat) (t : List UInt8), i ≤ k ∧ x = .string (str t) ∧ t = b.drop (i * m) ∧ t.length ≤ 6000 ∧ u = .int .i64 i ∧ v = .slice ad i cap ∧ Vec wr w.heap.size 9 1 ad i cap (strs ((volsB m b).take i)) ∧ Below w.heap.size w wr) (fun _ _ u _ _ _ _ => k - (intOf u).toNat)
        case atStart => exact ⟨0, _, _, b, by omega, rfl, by simp, H3.out, rfl, rfl, Vec.nil _ _ _ _, HB1.out⟩
        case round =>
          obtain ⟨i, ad, cap, t, hi, rfl, ht, htl, rfl, rfl, hv, hbr⟩ := hrel
          have HT : Hid (t = b.drop (i * m)) := ht
          clear ht
          by_cases hlt : i < k
          · have HV : Hid ((volsB m b).take (i + 1) = (volsB m b).take i ++ [volB i k C (partB m i b)]) := by
              have := vols_take m b i (by rw [← HN.out]; exact hlt)
              rw [HC.out, ← HN.out] at this; exact this
            have HX : Hid (t.drop m = b.drop ((i + 1) * m)) := by show _ = _; rw [HT.out, List.drop_drop, Nat.add_mul]; congr 1; omega
            have HP : Hid (partB m i b = t.take m) := by show _ = _; rw [HT.out]; rfl
            by_cases hm3 : m < t.length
            · have hx1 : (str t).extract 0 m = str (t.take m) := by rw [str_extract]; simp
              have htm : (t.take m).length = m := by simp; omega
              have hx2 : (str t).extract m t.length = str (t.drop m) := by rw [str_extract, List.take_of_length_le (by simp)]
              have HX2 : Hid (t.drop m = b.drop ((i + 1) * m)) := HX.out
              have HP2 : Hid (partB m i b = t.take m) := HP.out
              go_wp2_with fail
              refine (rhead_any i k C _ (by omega) (by omega) hcl).mono ?_
              rintro e w5 ⟨rfl, hb5⟩
              have hv5 := hv.keep hb5
              have hbr5 := hbr.trans (hb5.mono hbr.size)
              clear hv hbr hb5
              have hhl : (volH (i : Int) (k : Int) C []).length = 10 := by rw [volH_len]; rfl
              have HH : Hid (volH (i : Int) (k : Int) C [] ++ t.take m = volH (i : Int) (k : Int) C (t.take m)) := by show _ = _; unfold volH; simp
              have hpl : (t.take m).length ≤ 6000 := by omega
              generalize volH (i : Int) (k : Int) C [] = H at *
              generalize t.take m = p at *
              go_wp2_with fail
              refine (rsum_any (H ++ p) _ (by simp; omega)).mono ?_
              rintro e w6 ⟨rfl, hb6⟩
              have hv6 := hv5.keep hb6
              have hbr6 := hbr5.trans (hb6.mono hbr5.size)
              clear hv5 hbr5 hb6
              obtain ⟨c1, c2⟩ := crc_le pSum (by decide) (H ++ p)
              have HV2 : Hid (volB (i : Int) (k : Int) C p = H ++ p ++ fourI (crc pSum (H ++ p))) := by show _ = _; unfold volB; rw [HH.out]
              generalize crc pSum (H ++ p) = C6 at *
              go_wp2_with fail
              refine (rfour_any _ _ c1 c2).mono ?_
              rintro e w7 ⟨rfl, hb7⟩
              have hv7 := hv6.keep hb7
              have hbr7 := hbr6.trans (hb7.mono hbr6.size)
              have hz7 := hbr7.size
              have hf4 : (fourI (C6 : Int)).length ≤ 4 := Nat.le_refl _
              generalize fourI (C6 : Int) = f4 at *
              clear hv6 hbr6 hb7 c1 c2
              go_wp2_with (at_builtin; refine wpList_push (by rfl) _ _ 46 (by rfl) w.heap.size 9 1 16 (.string ⟨#[]⟩) Try.underlying46 (by kernel_rfl) rfl (by decide) ad i cap _ (by rfl) (hv7.keep ((Below.refl _ _).alloc (Nat.le_refl _) _)) _ _ [.string (str (H ++ (p ++ f4)))] (by rfl) rfl ?_ ?_ ?_ ?_ ?_ ?_; exact new_cells _ _ _; (simp [Value.oneCell']); (omega); (omega); (simp; omega); intro ad' cap' w' hv' hb' hs')
              go_roundw
              case rel => exact ⟨i + 1, ad', cap', t.drop m, by omega, rfl, HX2.out, by simp; omega, by go_num, rfl, by rw [HV.out, HP2.out, HV2.out, strs, List.map_append, List.append_assoc]; exact hv', (hbr7.alloc hz7 _).trans hb'⟩
              case measure => simp [intOf]; omega
            · have hx2 : (str t).extract t.length t.length = str [] := by rw [str_extract]; simp
              have HX2 : Hid ([] = b.drop ((i + 1) * m)) := by show _ = _; rw [← HX.out, List.drop_of_length_le (by omega)]
              have HP2 : Hid (partB m i b = t) := by show _ = _; rw [HP.out, List.take_of_length_le (by omega)]
              go_wp2_with fail
              refine (rhead_any i k C _ (by omega) (by omega) hcl).mono ?_
              rintro e w5 ⟨rfl, hb5⟩
              have hv5 := hv.keep hb5
              have hbr5 := hbr.trans (hb5.mono hbr.size)
              clear hv hbr hb5
              have hhl : (volH (i : Int) (k : Int) C []).length = 10 := by rw [volH_len]; rfl
              have HH : Hid (volH (i : Int) (k : Int) C [] ++ t = volH (i : Int) (k : Int) C t) := by show _ = _; unfold volH; simp
              have hpl : (t).length ≤ 6000 := by omega
              generalize volH (i : Int) (k : Int) C [] = H at *
              generalize hpt : t = p at *
              go_wp2_with fail
              refine (rsum_any (H ++ p) _ (by simp; omega)).mono ?_
              rintro e w6 ⟨rfl, hb6⟩
              have hv6 := hv5.keep hb6
              have hbr6 := hbr5.trans (hb6.mono hbr5.size)
              clear hv5 hbr5 hb6
              obtain ⟨c1, c2⟩ := crc_le pSum (by decide) (H ++ p)
              have HV2 : Hid (volB (i : Int) (k : Int) C p = H ++ p ++ fourI (crc pSum (H ++ p))) := by show _ = _; unfold volB; rw [HH.out]
              generalize crc pSum (H ++ p) = C6 at *
              go_wp2_with fail
              refine (rfour_any _ _ c1 c2).mono ?_
              rintro e w7 ⟨rfl, hb7⟩
              have hv7 := hv6.keep hb7
              have hbr7 := hbr6.trans (hb7.mono hbr6.size)
              have hz7 := hbr7.size
              have hf4 : (fourI (C6 : Int)).length ≤ 4 := Nat.le_refl _
              generalize fourI (C6 : Int) = f4 at *
              clear hv6 hbr6 hb7 c1 c2
              go_wp2_with (at_builtin; refine wpList_push (by rfl) _ _ 46 (by rfl) w.heap.size 9 1 16 (.string ⟨#[]⟩) Try.underlying46 (by kernel_rfl) rfl (by decide) ad i cap _ (by rfl) (hv7.keep ((Below.refl _ _).alloc (Nat.le_refl _) _)) _ _ [.string (str (H ++ (p ++ f4)))] (by rfl) rfl ?_ ?_ ?_ ?_ ?_ ?_; exact new_cells _ _ _; (simp [Value.oneCell']); (omega); (omega); (simp; omega); intro ad' cap' w' hv' hb' hs')
              go_roundw
              case rel => exact ⟨i + 1, ad', cap', [], by omega, rfl, HX2.out, by simp, by go_num, rfl, by rw [HV.out, HP2.out, HV2.out, strs, List.map_append, List.append_assoc]; exact hv', (hbr7.alloc hz7 _).trans hb'⟩
              case measure => simp [intOf]; omega
          · have e1 : i = k := by omega
            subst e1
            have HT2 : Hid ((volsB m b).take i = volsB m b) := List.take_of_length_le (by rw [vols_len, ← HN.out]; exact Nat.le_refl _)
            go_wp2_with fail
            go_ret2
            exact ⟨ad, cap, i, by rw [HE.out]; rfl, by rw [HL.out, vols_len]; exact HN.out, by rw [HL.out, ← HT2.out]; exact hv, hbr⟩
  · have HE : Hid (splitE b size = 12) := by show _ = _; simp [splitE, hok]
    have HL : Hid (splitL b size = []) := by show _ = _; simp [splitL, hok]
    by_cases h1 : size < 40
    · clear hok
      go_enter Try.func53, Try.ntmps53
      go_wp2_with fail
      go_ret2
      exact ⟨none, 0, 0, by rw [HE.out]; rfl, by rw [HL.out]; rfl, by rw [HL.out]; exact Vec.nil _ _ _ _, Below.refl _ _⟩
    · by_cases h2 : 4000 < size
      · clear hok
        go_enter Try.func53, Try.ntmps53
        go_wp2_with fail
        go_ret2
        exact ⟨none, 0, 0, by rw [HE.out]; rfl, by rw [HL.out]; rfl, by rw [HL.out]; exact Vec.nil _ _ _ _, Below.refl _ _⟩
      · have h3 : 6000 < b.length := by
          rcases Nat.lt_or_ge 6000 b.length with h | h
          · exact h
          · exact absurd ⟨by omega, by omega, h⟩ hok
        clear hok
        go_enter Try.func53, Try.ntmps53
        go_wp2_with fail
        go_ret2
        exact ⟨none, 0, 0, by rw [HE.out]; rfl, by rw [HL.out]; rfl, by rw [HL.out]; exact Vec.nil _ _ _ _, Below.refl _ _⟩
end Go.Proofs.Ytdjpkgaicmklmaa

/- Rows of strings of the call's own. -/
namespace Go.Proofs.Ytdjpkgaicmklmaa
open Go.RowKit

/-- A row of strings. -/
abbrev srows (l : List (List UInt8)) : List (List Value) := l.map fun s => [Value.string (str s)]
theorem srows_flat (l : List (List UInt8)) : (srows l).flatten = strs l := strs_flat l
theorem srows_at {w : World} {g : Nat} {e : TypeId} {l : List (List UInt8)} (h : Own w g e 1 (srows l)) (k : Nat) (hk : k < l.length) : w.cell? ⟨g, k, none⟩ = some (.string (str (l.getD k []))) ∧ w.frozen? ⟨g, k, none⟩ = false := by
  constructor
  · have := h.cell k 0 (by simpa using hk) (by omega)
    rw [Nat.add_zero, Nat.mul_one] at this
    rw [this]
    simp [List.getD, hk]
  · simp [World.frozen?, h.block]
theorem srows_set {w : World} {g : Nat} {e : TypeId} {l : List (List UInt8)} (h : Own w g e 1 (srows l)) (k : Nat) (x : List UInt8) : Own (w.setCell ⟨g, k, none⟩ (.string (str x))) g e 1 (srows (l.set k x)) := by
  refine ⟨by intro r hr; obtain ⟨y, _, rfl⟩ := List.mem_map.1 hr; rfl, ?_⟩
  rw [heap_setCell_same w g k _ e _ h.block]
  congr 2
  rw [srows_flat, srows_flat, strs, strs, List.map_set]
  simp
theorem srows_lies {w : World} {g : Nat} {e : TypeId} {L l : List (List UInt8)} {ad : Option Addr} {N : Nat} (h : Own w g e 1 (srows L)) (had : ad = some ⟨g, 0, none⟩) (hN : N ≤ L.length) (hf : ∀ i, i < N → L.getD i [] = l.getD i []) : Lies w ad N 1 (fun i => [.string (str (l.getD i []))]) := by
  refine Or.inr ⟨g, 0, had, (Array.getElem?_eq_some_iff.1 h.block).1, fun i hi j v hj hv => ?_⟩
  obtain rfl : j = 0 := by omega
  rw [show 0 + i * 1 + 0 = i by omega, (srows_at h i (by omega)).1, hf i hi]
  simpa using hv
theorem srows_bx {w : World} {g : Nat} {e : TypeId} {l : List (List UInt8)} (h : Own w g e 1 (srows l)) : Bx w g e (strs l) := ⟨by have := h.block; rw [srows_flat] at this; exact this⟩
theorem bx_srows {w : World} {g : Nat} {e : TypeId} {l : List (List UInt8)} (h : Bx w g e (strs l)) : Own w g e 1 (srows l) :=
  ⟨by intro r hr; obtain ⟨y, _, rfl⟩ := List.mem_map.1 hr; rfl, by rw [srows_flat]; exact h.h⟩
theorem strs_at {l : List (List UInt8)} {k : Nat} (h : k < l.length) : (strs l)[k]? = some (.string (str (l.getD k []))) := by simp [strs, List.getD, h]
theorem strs_set (l : List (List UInt8)) (k : Nat) (x : List UInt8) : (strs l).set k (.string (str x)) = strs (l.set k x) := by rw [strs, strs, List.map_set]
theorem Vec.cell1 {w : World} {B e : Nat} {ad : Option Addr} {n cap : Nat} {xs : List Value} (h : Vec w B e 1 ad n cap xs) {P : Program} {t : TypeId}
    (ht : P.underlying t = some (.slice (P.elem t))) (hs : (P.info? (P.elem t)).map (·.size) = some 1) {i : Nat} (hi : i < n) (N : Int) (hN : N = (i : Int)) :
    ∃ g, ad = some ⟨g, 0, none⟩ ∧ B ≤ g ∧ g < w.heap.size ∧ (∀ w', (Instr.indexAt t (.slice ad n cap) (.int .i64 N)).run P w' = .ok (.pointer (some ⟨g, i, none⟩)) w') ∧
      w.cell? ⟨g, i, none⟩ = xs[i]? ∧ w.frozen? ⟨g, i, none⟩ = false ∧ (∀ u, Vec (w.setCell ⟨g, i, none⟩ u) B e 1 ad n cap (xs.set i u)) := by
  obtain ⟨g, rfl, hB, hl⟩ := h.form (by omega)
  refine ⟨g, rfl, hB, hl, fun w' => ?_, ?_, World.ownsRow.frozenAt h _, fun u => (World.ownsRow.stored h i u).1⟩
  · have := Own.idx (P := P) (t := t) (m := 1) (had := rfl) n cap ht hs hi N hN w' (g := g)
    rw [Nat.mul_one] at this; exact this
  · exact World.ownsRow.cellAt h i (by omega)
end Go.Proofs.Ytdjpkgaicmklmaa

/- Lists that came out and that their owner writes over with a mark: append of marks, stores, and what stays. -/
namespace Go.Proofs.Ytdjpkgaicmklmaa
open Go.RowKit

/-- n rows of one mark. -/
def rep (n : Nat) (mk : List Value) : List Value := (List.replicate n mk).flatten
theorem rep_length (n : Nat) (mk : List Value) : (rep n mk).length = n * mk.length := by simp [rep]
theorem rep_add (n c : Nat) (mk : List Value) : rep (n + c) mk = rep n mk ++ rep c mk := by simp [rep, ← List.replicate_append_replicate]
theorem rep_one (mk : List Value) : rep 1 mk = mk := by simp [rep]
theorem rep_zero (mk : List Value) : rep 0 mk = [] := rfl
theorem rep_at (mk : List Value) : ∀ (n j : Nat), j < n * mk.length → (rep n mk)[j]? = mk[j % mk.length]?
  | 0, j, h => by simp at h
  | n + 1, j, h => by
    have e : rep (n + 1) mk = mk ++ rep n mk := by simp [rep, List.replicate_succ]
    rw [e]
    by_cases hj : j < mk.length
    · rw [List.getElem?_append_left hj, Nat.mod_eq_of_lt hj]
    · rw [List.getElem?_append_right (by omega), rep_at mk n (j - mk.length) (by rw [Nat.add_mul] at h; omega)]
      congr 1
      conv => rhs; rw [show j = (j - mk.length) + mk.length by omega]
      rw [Nat.add_mod_right]
theorem rep_eq {mk xs : List Value} {n : Nat} (hl : xs.length = n * mk.length) (h : ∀ j, j < n * mk.length → xs[j]? = mk[j % mk.length]?) : xs = rep n mk := by
  apply List.ext_getElem?
  intro j
  by_cases hj : j < n * mk.length
  · rw [h j hj, rep_at mk n j hj]
  · rw [List.getElem?_eq_none (by omega), List.getElem?_eq_none (by rw [rep_length]; omega)]

/-- Nothing but block g is changed of what there was; in it what was marked is so still. -/
structure Kp (g : Option Nat) (mk : List Value) (w w' : World) : Prop where
  os : w'.os = w.os
  tape : w'.tape = w.tape
  output : w'.output = w.output
  size : w.heap.size ≤ w'.heap.size
  block : ∀ k, k < w.heap.size → g ≠ some k → w'.heap[k]? = w.heap[k]?
  mark : ∀ k cur e, g = some k → w.heap[k]? = some (.cells cur e) → ∃ cur', w'.heap[k]? = some (.cells cur' e) ∧ cur'.size = cur.size ∧ ∀ j, cur[j]? = mk[j % mk.length]? → cur'[j]? = mk[j % mk.length]?

theorem Kp.of_below {g : Option Nat} {mk : List Value} {w w' : World} (h : Below w.heap.size w w') : Kp g mk w w' :=
  ⟨h.os, h.tape, h.output, h.size, fun k hk _ => h.block k hk, fun k cur e _ hc => ⟨cur, by rw [h.block k (Array.getElem?_eq_some_iff.1 hc).1]; exact hc, rfl, fun _ h => h⟩⟩
theorem Kp.below {g : Option Nat} {mk : List Value} {B : Nat} {w0 w w' : World} (h : Kp g mk w w') (hb : Below B w0 w) (hB : B ≤ w.heap.size) (hg : ∀ k, g = some k → B ≤ k) : Below B w0 w' :=
  ⟨h.os.trans hb.os, h.tape.trans hb.tape, h.output.trans hb.output, Nat.le_trans hb.size h.size, fun k hk => (h.block k (by omega) (fun e => by have := hg k e; omega)).trans (hb.block k hk)⟩
theorem Bx.kp {w w' : World} {k e : Nat} {cs mk : List Value} {g : Option Nat} (b : Bx w k e cs) (h : Kp g mk w w') (hg : g ≠ some k) : Bx w' k e cs := ⟨by rw [h.block k b.lt hg]; exact b.h⟩
theorem Vec.kpo {w w' : World} {B e m : Nat} {ad : Option Addr} {n cap : Nat} {xs mk : List Value} {g : Option Nat} (h : Vec w B e m ad n cap xs) (hk : Kp g mk w w') (hg : ∀ b, ad = some b → g ≠ some b.block) : Vec w' B e m ad n cap xs := by
  refine ⟨h.1, ?_⟩
  rcases h.2 with h2 | ⟨k, c, cur, hv, hB, hc, r⟩
  · exact Or.inl h2
  · refine Or.inr ⟨k, c, cur, hv, hB, ?_, r⟩
    simp at hv
    rw [hk.block k (Array.getElem?_eq_some_iff.1 hc).1 (hg _ hv.1)]; exact hc
theorem Vec.kp {w w' : World} {B e m : Nat} {ad : Option Addr} {n cap : Nat} {mk mk' : List Value} {g : Option Nat} (h : Vec w B e m ad n cap (rep n mk)) (hm : mk.length = m) (hk : Kp g mk' w w') (hg : ∀ b, ad = some b → g = some b.block → mk = mk') : Vec w' B e m ad n cap (rep n mk) := by
  refine ⟨h.1, ?_⟩
  rcases h.2 with h2 | ⟨k, c, cur, hv, hB, hc, h1, h3, h4, h5⟩
  · exact Or.inl h2
  · have hv' := hv
    simp at hv'
    by_cases hgk : g = some k
    · obtain rfl := hg _ hv'.1 hgk
      obtain ⟨cur', hc', hs, hmk⟩ := hk.mark k cur e hgk hc
      refine Or.inr ⟨k, c, cur', hv, hB, hc', h1, h3, by rw [hs, h4], ?_⟩
      subst hm
      refine rep_eq ?_ ?_
      · simp only [List.length_take, Array.length_toList, hs, h4]
        exact Nat.min_eq_left (Nat.mul_le_mul_right _ h1)
      · intro j hj
        rw [List.getElem?_take_of_lt hj, Array.getElem?_toList]
        apply hmk
        have := rep_at mk n j hj
        rw [← h5, List.getElem?_take_of_lt hj, Array.getElem?_toList] at this
        exact this
    · refine Or.inr ⟨k, c, cur, hv, hB, ?_, h1, h3, h4, h5⟩
      rw [hk.block k (Array.getElem?_eq_some_iff.1 hc).1 hgk]; exact hc

/-- Blocks of two types are two blocks. -/
theorem Vec.apart {w : World} {B B' e e' m m' : Nat} {ad ad' : Option Addr} {n n' cap cap' : Nat} {xs xs' : List Value} (h : Vec w B e m ad n cap xs) (h' : Vec w B' e' m' ad' n' cap' xs') (he : e ≠ e') : ∀ b, ad = some b → ad'.map (·.block) ≠ some b.block := by
  intro b hb hb'
  rcases h.2 with ⟨h2, _⟩ | ⟨k, c, cur, hv, hB, hc, _⟩
  · simp at h2; rw [h2.1] at hb; cases hb
  · rcases h'.2 with ⟨h2, _⟩ | ⟨k', c', cur', hv', hB', hc', _⟩
    · simp at h2; rw [h2.1] at hb'; cases hb'
    · simp at hv hv'
      rw [hv.1] at hb; cases hb
      rw [hv'.1] at hb'; simp at hb'
      subst hb'
      rw [hc] at hc'
      simp at hc'
      exact he hc'.2
theorem Bx.apart {w : World} {B e e' m k : Nat} {ad : Option Addr} {n cap : Nat} {xs cs : List Value} (b : Bx w k e' cs) (h : Vec w B e m ad n cap xs) (he : e ≠ e') : ad.map (·.block) ≠ some k := by
  intro hb
  rcases h.2 with ⟨h2, _⟩ | ⟨k', c, cur, hv, hB, hc, _⟩
  · simp at h2; rw [h2.1] at hb; cases hb
  · simp at hv
    rw [hv.1] at hb; simp at hb
    subst hb
    have := b.h
    rw [hc] at this
    simp at this
    exact he this.2
theorem Bx.frozen {w : World} {g e : Nat} {cs : List Value} (b : Bx w g e cs) (k : Nat) : w.frozen? ⟨g, k, none⟩ = false := by
  simp [World.frozen?, b.h]
theorem Bx.setCell {w : World} {g e : Nat} {cs : List Value} (b : Bx w g e cs) (k : Nat) (v : Value) : Bx (w.setCell ⟨g, k, none⟩ v) g e (cs.set k v) := by
  refine ⟨?_⟩
  rw [heap_setCell_same w g k cs.toArray e v b.h]
  simp

section
variable {P : Program} {w : World} {ops : Array Oper} {rest : List Oper} {o : Oper} {a : Act} {Q : Exit → Act → World → Prop}

theorem run_append_marks (B : Nat) (t ty e : TypeId) (i : TypeInfo) (z : Value) (size bytes : Nat) (ht : P.underlying t = some (.slice e)) (hi : P.info? e = some i) (hz : i.zero = some z)
    (hsize : i.size = size) (hby : i.bytes = bytes) (hzs : z.cells.size = size) (_hsz : 0 < size)
    (ad : Option Addr) (n cap : Nat) (xs : List Value) (hown : Vec w B e size ad n cap xs)
    (a : Addr) (m c : Nat) (mk : List Value) (hl : mk.length = size) (hnews : ∀ j u, (rep m mk)[j]? = some u → w.cell? (a.add j) = some u) (h1 : ∀ u ∈ mk, u.oneCell' = true) (hm : 0 < m)
    (h63 : n + m ≤ maxLen) (hbytes : (n + m) * bytes ≤ 140737488355328) (hbase : B ≤ w.heap.size) :
    ∃ ad' cap' w', (Builtin.append_ #[t, t] ty #[.slice ad n cap, .slice (some a) m c]).run P w = .ok (.slice ad' (n + m) cap') w' ∧ Vec w' B e size ad' (n + m) cap' (xs ++ rep m mk) ∧ Kp (ad.map (·.block)) mk w w' := by
  subst hsize
  subst hby
  have hsmall : n + m ≤ 9223372036854775807 := by simp only [maxLen] at h63; omega
  have hln : (rep m mk).length = m * i.size := by rw [rep_length, hl]
  have h1' : ∀ u ∈ rep m mk, u.oneCell' = true := by
    intro u hu
    simp only [rep, List.mem_flatten, List.mem_replicate] at hu
    obtain ⟨r, ⟨_, rfl⟩, hu⟩ := hu
    exact h1 u hu
  have hlen : (xs ++ rep m mk).length = (n + m) * i.size := by rw [List.length_append, hown.1, hln, Nat.add_mul]
  have grown : ∀ (old : Nat), old < n + m →
      Vec (w.drew.alloc (.cells (xs.toArray ++ (rep m mk).toArray ++ Builtin.zeroCells z.cells (grownCap w (n + m) old e - (n + m))) e)) B e i.size (some ⟨w.heap.size, 0, none⟩) (n + m) (grownCap w (n + m) old e) (xs ++ rep m mk) ∧
      Below w.heap.size w (w.drew.alloc (.cells (xs.toArray ++ (rep m mk).toArray ++ Builtin.zeroCells z.cells (grownCap w (n + m) old e - (n + m))) e)) := by
    intro old ho
    have hge := grownCap_ge w (n + m) old e
    have hcm : grownCap w (n + m) old e ≤ maxLen := grownCap_le_maxLen w (n + m) old e h63
    refine ⟨⟨hlen, .inr ⟨w.heap.size, _, _, rfl, hbase, heap_alloc_new w.drew _, hge, hcm, ?_, ?_⟩⟩, (Below.refl _ w).drew.alloc (by simp) _⟩
    · simp only [Array.size_append, List.size_toArray, size_zeroCells, hzs, hown.1, hln, ← Nat.add_mul]
      congr 1
      omega
    · simp only [Array.toList_append, List.append_assoc]
      rw [← List.append_assoc, ← hlen]
      exact List.take_left
  rcases hown.2 with ⟨hv, rfl⟩ | ⟨g, cap0, cur, hv, hbg, hg, hnc, hcm, hcs, htake⟩
  · simp at hv
    obtain ⟨rfl, rfl⟩ := hv
    have hx : xs = [] := List.eq_nil_of_length_eq_zero (by have := hown.1; omega)
    subst hx
    have hr := run_append_nil (P := P) w t ty e i z ht hi hz a m c (rep m mk) hln hnews (by omega) (by omega) (by have hb := hbytes; simp only [Nat.zero_add] at hb; omega)
    have hgr := grown 0 (by omega)
    simp only [Nat.zero_add, List.nil_append, Array.empty_append] at hgr ⊢
    exact ⟨_, _, _, hr, hgr.1, Kp.of_below hgr.2⟩
  · simp at hv
    obtain ⟨rfl, rfl⟩ := hv
    by_cases hroom : n + m ≤ cap
    · have hfit : n * i.size + (rep m mk).length ≤ cur.size := by rw [hln, hcs, ← Nat.add_mul]; exact Nat.mul_le_mul_right _ hroom
      have hr := run_append_room (P := P) w t ty e i ht hi g n cap cur hg a m c (rep m mk) hln hnews h1' hroom hfit
      refine ⟨_, _, _, hr, ⟨hlen, .inr ⟨g, cap, _, rfl, hbg, setRow_heap w g cur _ e _ hg, hroom, hcm, ?_, ?_⟩⟩, ⟨rfl, rfl, rfl, by simp, fun k _ hk => setRow_other w g k _ (fun e => hk (by simp [e])), ?_⟩⟩
      · simp only [List.size_toArray, List.length_append, List.length_take, List.length_drop, Array.length_toList]
        omega
      · rw [htake, ← hlen]
        exact List.take_left
      · intro k cur1 e1 hk hc1
        simp at hk
        subst hk
        rw [hg] at hc1
        simp at hc1
        obtain ⟨rfl, rfl⟩ := hc1
        refine ⟨_, setRow_heap w g cur _ e _ hg, ?_, ?_⟩
        · simp only [List.size_toArray, List.length_append, List.length_take, List.length_drop, Array.length_toList]
          omega
        · intro j hj
          simp only [List.getElem?_toArray]
          by_cases h1 : j < n * i.size
          · rw [List.append_assoc, List.getElem?_append_left (by simp; omega), List.getElem?_take_of_lt h1, Array.getElem?_toList]; exact hj
          · by_cases h2 : j < n * i.size + (rep m mk).length
            · rw [List.getElem?_append_left (by simp; omega), List.getElem?_append_right (by simp; omega)]
              have e1 : (cur.toList.take (n * i.size)).length = n * i.size := by simp; omega
              rw [e1, rep_at mk m (j - n * i.size) (by rw [hl]; omega), hl]
              congr 1
              conv => rhs; rw [show j = (j - n * i.size) + n * i.size by omega]
              rw [Nat.add_mul_mod_self_right]
            · rw [List.getElem?_append_right (by simp; omega)]
              have e1 : (cur.toList.take (n * i.size) ++ rep m mk).length = n * i.size + (rep m mk).length := by simp; omega
              rw [e1, List.getElem?_drop, Array.getElem?_toList, show n * i.size + (rep m mk).length + (j - (n * i.size + (rep m mk).length)) = j by omega]
              exact hj
    · have holds : ∀ j u, xs[j]? = some u → w.cell? ((⟨g, 0, none⟩ : Addr).add j) = some u := World.ownsRow.cells (g := g) hown rfl
      have hr := run_append_grow (P := P) w t ty e i z ht hi hz ⟨g, 0, none⟩ n cap xs hown.1 holds a m c (rep m mk) hln hnews (by omega) (by omega) (growslice_fits (by omega) hbytes)
      have hgr := grown cap (by omega)
      exact ⟨_, _, _, hr, hgr.1, Kp.of_below hgr.2⟩

/-- 'a := append(l, m, ..)'. -/
theorem wpList_pushk (hgd : o.guard = none) (s x : Operand) (t : TypeId) (ho : o.op = .call { callee := .builtin .append, args := #[s, x], argTypes := #[t, t] })
    (B e m bytes : Nat) (z : Value) (ht : P.underlying t = some (.slice e)) (hinfo : (P.info? e).map (fun i => (i.zero, i.size, i.bytes)) = some (some z, m, bytes)) (hzs : z.cells.size = m) (hm : 0 < m)
    (ad : Option Addr) (n cap : Nat) (xs : List Value) (hs : a.eval s = .slice ad n cap) (hown : Vec w B e m ad n cap xs)
    (ad1 : Addr) (k c : Nat) (mk : List Value) (hx : a.eval x = .slice (some ad1) k c) (hl : mk.length = m) (hnews : ∀ j u, (rep k mk)[j]? = some u → w.cell? (ad1.add j) = some u) (h1 : ∀ u, u ∈ mk → u.oneCell' = true) (hk : 0 < k)
    (hbytes : (n + k) * bytes ≤ 140737488355328) (hn : n + k ≤ 9223372036854775807) (hB : B ≤ w.heap.size)
    (h : ∀ ad' cap' w', Vec w' B e m ad' (n + k) cap' (xs ++ rep k mk) → Kp (ad.map (·.block)) mk w w' → wpList P ops Q rest (a.put o.dst (.slice ad' (n + k) cap')) w') : wpList P ops Q (o :: rest) a w := by
  obtain ⟨i, hi, hzz⟩ := Option.map_eq_some_iff.1 hinfo
  simp only [Prod.mk.injEq] at hzz
  obtain ⟨hz, hsz, hby⟩ := hzz
  obtain ⟨ad', cap', w', hr, h2, h3⟩ := run_append_marks (P := P) (w := w) B t o.type e i z m bytes ht hi hz hsz hby hzs hm ad n cap xs hown ad1 k c mk hl hnews h1 hk (by unfold maxLen; omega) hbytes hB
  refine wpList_plain hgd fun K hK => ?_
  unfold Oper.wp execOp
  simp only [ho, resolve, invoke, builtin, Sem.run_bind, Sem.run_pure, Result.andThen_ok, List.map_toArray, List.map_cons, List.map_nil, hs, hx, hr]
  exact hK _ _ (h ad' cap' w' h2 h3)
/-- The same within a region that draws its order. -/
theorem step_pushk {K : Act → World → Prop} {E : Prop} (hgd : o.guard = none) (s x : Operand) (t : TypeId) (ho : o.op = .call { callee := .builtin .append, args := #[s, x], argTypes := #[t, t] })
    (B e m bytes : Nat) (z : Value) (ht : P.underlying t = some (.slice e)) (hinfo : (P.info? e).map (fun i => (i.zero, i.size, i.bytes)) = some (some z, m, bytes)) (hzs : z.cells.size = m) (hm : 0 < m)
    (ad : Option Addr) (n cap : Nat) (xs : List Value) (hs : a.eval s = .slice ad n cap) (hown : Vec w B e m ad n cap xs)
    (ad1 : Addr) (c : Nat) (mk : List Value) (hx : a.eval x = .slice (some ad1) 1 c) (hl : mk.length = m) (hnews : ∀ j u, mk[j]? = some u → w.cell? (ad1.add j) = some u) (h1 : ∀ u, u ∈ mk → u.oneCell' = true)
    (hbytes : (n + 1) * bytes ≤ 140737488355328) (hn : n + 1 ≤ 9223372036854775807) (hB : B ≤ w.heap.size)
    (h : ∀ ad' cap' w', Vec w' B e m ad' (n + 1) cap' (xs ++ mk) → Kp (ad.map (·.block)) mk w w' → K (a.put o.dst (.slice ad' (n + 1) cap')) w') :
    if Region.wanted o (yielded ops a.tmps) = true then Oper.wp P o a w K Q else E := by
  have hw : Region.wanted o (yielded ops a.tmps) = true := by simp [Region.wanted, hgd]
  rw [if_pos hw]
  obtain ⟨i, hi, hzz⟩ := Option.map_eq_some_iff.1 hinfo
  simp only [Prod.mk.injEq] at hzz
  obtain ⟨hz, hsz, hby⟩ := hzz
  obtain ⟨ad', cap', w', hr, h2, h3⟩ := run_append_marks (P := P) (w := w) B t o.type e i z m bytes ht hi hz hsz hby hzs hm ad n cap xs hown ad1 1 c mk hl (by rw [rep_one]; exact hnews) h1 (by omega) (by unfold maxLen; omega) hbytes hB
  rw [rep_one] at h2
  unfold Oper.wp execOp
  simp only [ho, resolve, invoke, builtin, Sem.run_bind, Sem.run_pure, Result.andThen_ok, List.map_toArray, List.map_cons, List.map_nil, hs, hx, hr]
  exact h ad' cap' w' h2 h3

/-- 'l[i] = m'. -/
theorem wpList_vstore (hgd : o.guard = none) (p v : Operand) (t : TypeId) (ho : o.op = .store t p v) (B e m : Nat) (hs : (P.info? t).map (·.size) = some m) (ad : Option Addr) (n cap : Nat) (mk ys : List Value) (i g : Nat) (hg : Hid (ad = some ⟨g, 0, none⟩))
    (hown : Vec w B e m ad n cap (rep i mk ++ ys)) (hin : i < n) (hl : mk.length = m) (h1 : ∀ u, u ∈ mk → u.oneCell' = true) (hp : a.eval p = .pointer (some ⟨g, i * m, none⟩)) (hv : a.eval v = .agg mk.toArray)
    (h : ∀ w', Vec w' B e m ad n cap (rep (i + 1) mk ++ ys.drop m) → Upd g w w' → wpList P ops Q rest (a.put o.dst undef) w') : wpList P ops Q (o :: rest) a w := by
  subst hl
  have hg' := hg.out
  subst hg'
  rcases hown.2 with ⟨h2, _⟩ | ⟨k, c, cur, hvv, hB, hc, r1, r2, r3, r4⟩
  · simp at h2
  · simp at hvv
    obtain ⟨rfl, rfl⟩ := hvv
    have hlen := hown.1
    rw [List.length_append, rep_length] at hlen
    have hmul : (i + 1) * mk.length ≤ n * mk.length := Nat.mul_le_mul_right _ hin
    have hmul2 : n * mk.length ≤ cap * mk.length := Nat.mul_le_mul_right _ r1
    rw [Nat.add_mul, Nat.one_mul] at hmul
    have hfit : i * mk.length + 0 + mk.length ≤ cur.size := by rw [r3]; omega
    have hst := run_storeCells_at P g (i * mk.length) e mk 0 cur w hc hfit h1
    refine wpList_plain hgd fun K hK => ?_
    cases hq : P.info? t with
    | none => simp [hq] at hs
    | some inf =>
      have hi' : inf.size = mk.length := by simpa [hq] using hs
      unfold Oper.wp
      simp [execOp, ho, hp, hv, Instr.storeAt, Instr.sureAddr, storeVar, sizeOf, typeInfo, hq, hi', Value.cells, hst, Result.andThen]
      refine hK _ _ (h _ ⟨?_, .inr ⟨g, cap, _, rfl, hB, setRow_heap w g cur _ e _ hc, r1, r2, ?_, ?_⟩⟩ (Upd.setRow _ _ _))
      · rw [List.length_append, rep_length, List.length_drop, Nat.add_mul]; omega
      · simp only [List.size_toArray, List.length_append, List.length_take, List.length_drop, Array.length_toList]; omega
      · have hcur : cur.toList = rep i mk ++ ys ++ cur.toList.drop (n * mk.length) := by rw [← r4, List.take_append_drop]
        have e1 : cur.toList.take (i * mk.length) = rep i mk := by
          rw [hcur, List.append_assoc, List.take_append_of_le_length (by rw [rep_length]; omega), List.take_of_length_le (by rw [rep_length]; omega)]
        have e2 : cur.toList.drop (i * mk.length + mk.length) = ys.drop mk.length ++ cur.toList.drop (n * mk.length) := by
          conv => lhs; rw [hcur]
          rw [List.append_assoc, List.drop_append, rep_length, List.drop_of_length_le (by rw [rep_length]; omega), List.nil_append, List.drop_append, show i * mk.length + mk.length - i * mk.length = mk.length by omega, show mk.length - ys.length = 0 by omega, List.drop_zero]
        rw [e1, e2]
        have e3 : rep i mk ++ (mk ++ (ys.drop mk.length ++ cur.toList.drop (n * mk.length))) = (rep (i + 1) mk ++ ys.drop mk.length) ++ cur.toList.drop (n * mk.length) := by rw [rep_add, rep_one]; simp
        rw [e3]
        refine List.take_left' ?_
        rw [List.length_append, rep_length, List.length_drop, Nat.add_mul]; omega
end
end Go.Proofs.Ytdjpkgaicmklmaa

/- The owner's books: lists that came out, each with its mark, and what stays of them at each step. -/
namespace Go.Proofs.Ytdjpkgaicmklmaa
open Go.RowKit

/-- A list that came out, and the mark that its elements read. -/
structure Bk where
  ad : Option Addr
  n : Nat
  cap : Nat
  mrk : List Value
abbrev Bk.cells (x : Bk) : List Value := .slice x.ad x.n x.cap :: x.mrk
def bcells (L : List Bk) : List Value := (L.map Bk.cells).flatten
theorem bcells_snoc (L : List Bk) (x : Bk) : bcells (L ++ [x]) = bcells L ++ x.cells := by simp [bcells]
/-- It reads so. -/
structure Reads1 (Sh : List Value → Prop) (w : World) (B e m : Nat) (x : Bk) : Prop where
  len : x.mrk.length = m
  vec : Vec w B e m x.ad x.n x.cap (rep x.n x.mrk)
  few : x.n ≤ 1099511627780
  shape : Sh x.mrk
/-- The books of one kind. -/
structure Books (Sh : List Value → Prop) (w : World) (B e eb m : Nat) (ad : Option Addr) (cap : Nat) (L : List Bk) : Prop where
  list : Vec w B eb (m + 1) ad L.length cap (bcells L)
  each : ∀ x, x ∈ L → Reads1 Sh w B e m x
theorem Books.nil {Sh : List Value → Prop} (w : World) (B e eb m : Nat) : Books Sh w B e eb m none 0 [] := ⟨Vec.nil _ _ _ _, fun x h => by cases h⟩
theorem Books.keep {Sh : List Value → Prop} {w w' : World} {B e eb m : Nat} {ad : Option Addr} {cap : Nat} {L : List Bk} (h : Books Sh w B e eb m ad cap L) (hb : Below w.heap.size w w') : Books Sh w' B e eb m ad cap L :=
  ⟨h.list.keep hb, fun x hx => ⟨(h.each x hx).len, (h.each x hx).vec.keep hb, (h.each x hx).few, (h.each x hx).shape⟩⟩

/-- But for block go, and blocks of two types, all is as it was. -/
structure But3 (go e eb : Nat) (w w' : World) : Prop where
  size : w.heap.size ≤ w'.heap.size
  block : ∀ k cur t, k ≠ go → w.heap[k]? = some (.cells cur t) → t ≠ e → t ≠ eb → w'.heap[k]? = some (.cells cur t)
theorem But3.trans {go e eb : Nat} {a b c : World} (h : But3 go e eb a b) (h' : But3 go e eb b c) : But3 go e eb a c :=
  ⟨Nat.le_trans h.size h'.size, fun k cur t h1 h2 h3 h4 => h'.block k cur t h1 (h.block k cur t h1 h2 h3 h4) h3 h4⟩
theorem But3.of_below {go e eb : Nat} {w w' : World} (h : Below w.heap.size w w') : But3 go e eb w w' :=
  ⟨h.size, fun k _ _ _ h2 _ _ => by rw [h.block k (Array.getElem?_eq_some_iff.1 h2).1]; exact h2⟩
theorem But3.of_upd {go e eb g : Nat} {w w' : World} (h : Upd g w w') (hg : g = go ∨ ∃ cur t, w.heap[g]? = some (.cells cur t) ∧ (t = e ∨ t = eb)) : But3 go e eb w w' :=
  ⟨by rw [h.size]; exact Nat.le_refl _, fun k cur t h1 h2 h3 h4 => by
    have hk : k ≠ g := by
      rintro rfl
      rcases hg with hg | ⟨cur', t', hc, ht⟩
      · exact h1 hg
      · rw [h2] at hc; simp at hc; obtain ⟨-, rfl⟩ := hc; rcases ht with ht | ht
        · exact h3 ht
        · exact h4 ht
    rw [h.block k hk]; exact h2⟩
theorem But3.of_kp {go e eb : Nat} {g : Option Nat} {mk : List Value} {w w' : World} (h : Kp g mk w w') (hg : ∀ k, g = some k → ∃ cur t, w.heap[k]? = some (.cells cur t) ∧ (t = e ∨ t = eb)) : But3 go e eb w w' :=
  ⟨h.size, fun k cur t _ h2 h3 h4 => by
    have hk : g ≠ some k := by
      intro hk
      obtain ⟨cur', t', hc, ht⟩ := hg k hk
      rw [h2] at hc; simp at hc; obtain ⟨-, rfl⟩ := hc; rcases ht with ht | ht
      · exact h3 ht
      · exact h4 ht
    rw [h.block k (Array.getElem?_eq_some_iff.1 h2).1 hk]; exact h2⟩
theorem Vec.typed {w : World} {B e m : Nat} {ad : Option Addr} {n cap : Nat} {xs : List Value} (h : Vec w B e m ad n cap xs) : ∀ k, ad.map (·.block) = some k → B ≤ k ∧ ∃ cur, w.heap[k]? = some (.cells cur e) := by
  intro k hk
  rcases h.2 with ⟨h2, _⟩ | ⟨g, c, cur, hv, hB, hc, _⟩
  · simp at h2; rw [h2.1] at hk; cases hk
  · simp at hv; rw [hv.1] at hk; simp at hk; subst hk; exact ⟨hB, cur, hc⟩
theorem Vec.but3 {w w' : World} {B e m go e1 eb1 : Nat} {ad : Option Addr} {n cap : Nat} {xs : List Value} (h : Vec w B e m ad n cap xs) (hb : But3 go e1 eb1 w w') (h1 : e ≠ e1) (h2 : e ≠ eb1) (hgo : ∀ k, ad.map (·.block) = some k → k ≠ go) : Vec w' B e m ad n cap xs := by
  refine ⟨h.1, ?_⟩
  rcases h.2 with h3 | ⟨k, c, cur, hv, hB, hc, r⟩
  · exact Or.inl h3
  · refine Or.inr ⟨k, c, cur, hv, hB, hb.block k cur e (hgo k ?_) hc h1 h2, r⟩
    simp at hv; rw [hv.1]; rfl
theorem Vec.updo {w w' : World} {B e m g : Nat} {ad : Option Addr} {n cap : Nat} {xs : List Value} (h : Vec w B e m ad n cap xs) (hu : Upd g w w') (hg : ∀ b, ad = some b → b.block ≠ g) : Vec w' B e m ad n cap xs := by
  refine ⟨h.1, ?_⟩
  rcases h.2 with h2 | ⟨k, c, cur, hv, hB, hk, r⟩
  · exact Or.inl h2
  · refine Or.inr ⟨k, c, cur, hv, hB, ?_, r⟩
    simp at hv
    rw [hu.block k (hg _ hv.1)]; exact hk
/-- Books of other types stay. -/
theorem Books.but3 {Sh : List Value → Prop} {w w' : World} {B e eb m go e1 eb1 tT : Nat} {oc : List Value} {ad : Option Addr} {cap : Nat} {L : List Bk} (h : Books Sh w B e eb m ad cap L) (hb : But3 go e1 eb1 w w') (ho : Bx w go tT oc)
    (h1 : e ≠ e1) (h2 : e ≠ eb1) (h3 : eb ≠ e1) (h4 : eb ≠ eb1) (h5 : e ≠ tT) (h6 : eb ≠ tT) : Books Sh w' B e eb m ad cap L :=
  ⟨h.list.but3 hb h3 h4 (fun k hk e => ho.apart h.list h6 (by rw [hk, e])), fun x hx => ⟨(h.each x hx).len, (h.each x hx).vec.but3 hb h1 h2 (fun k hk e => ho.apart (h.each x hx).vec h5 (by rw [hk, e])), (h.each x hx).few, (h.each x hx).shape⟩⟩

/-- While the owner writes a list over: his variable, the mark, the list, the books of its kind. -/
structure St (Sh : List Value → Prop) (w0 w : World) (B B1 go gm tT e eb m f : Nat) (oc mk : List Value) (ad : Option Addr) (N cap : Nat) (a4 : Option Addr) (c4 : Nat) (L : List Bk) : Prop where
  o : Bx w go tT oc
  k : Bx w gm e mk
  l : Vec w B1 e m ad N cap (rep N mk)
  b : Vec w B eb (m + 1) a4 L.length c4 (bcells L)
  each : ∀ x, x ∈ L → Reads1 Sh w B e m x ∧ ((∀ b, x.ad = some b → b.block < B1) ∨ x.mrk = mk)
  at_ : oc[f]? = some (.slice a4 L.length c4)
  mark : mk.length = m
  low : B ≤ go
  big : B ≤ B1
  apt : ∀ b, ad = some b → b.block ≠ gm
  old : Below B w0 w
  but : But3 go e eb w0 w

theorem St.step {Sh : List Value → Prop} {w0 w w' : World} {B B1 go gm tT e eb m f : Nat} {oc mk : List Value} {ad : Option Addr} {N cap : Nat} {a4 : Option Addr} {c4 : Nat} {L : List Bk} (h : St Sh w0 w B B1 go gm tT e eb m f oc mk ad N cap a4 c4 L) (hb : Below w.heap.size w w') (hB : B ≤ w.heap.size) : St Sh w0 w' B B1 go gm tT e eb m f oc mk ad N cap a4 c4 L :=
  ⟨h.o.below hb h.o.lt, h.k.below hb h.k.lt, h.l.keep hb, h.b.keep hb, fun x hx => ⟨⟨(h.each x hx).1.len, (h.each x hx).1.vec.keep hb, (h.each x hx).1.few, (h.each x hx).1.shape⟩, (h.each x hx).2⟩, h.at_, h.mark, h.low, h.big, h.apt, h.old.trans (hb.mono hB), h.but.trans (But3.of_below hb)⟩
/-- 'a := append(l, m, ..)': all stays. -/
theorem St.push {Sh : List Value → Prop} {w0 w w' : World} {B B1 go gm tT e eb m f : Nat} {oc mk : List Value} {ad : Option Addr} {N cap : Nat} {a4 : Option Addr} {c4 : Nat} {L : List Bk} (h : St Sh w0 w B B1 go gm tT e eb m f oc mk ad N cap a4 c4 L) (hk : Kp (ad.map (·.block)) mk w w')
    (h1 : e ≠ tT) (h2 : e ≠ eb) (hB : B ≤ w.heap.size) : St Sh w0 w' B B1 go gm tT e eb m f oc mk ad N cap a4 c4 L := by
  refine ⟨h.o.kp hk (h.o.apart h.l h1), h.k.kp hk ?_, h.l.kp h.mark hk (fun _ _ _ => rfl), h.b.kpo hk (fun b hb hb' => ?_), fun x hx => ?_, h.at_, h.mark, h.low, h.big, h.apt, hk.below h.old hB (fun k e => Nat.le_trans h.big (h.l.typed k e).1), h.but.trans (But3.of_kp hk fun k e => ?_)⟩
  · intro e; cases ad with
    | none => cases e
    | some b => simp at e; exact h.apt b rfl e
  · exact h.b.apart h.l (fun e => h2 e.symm) b hb hb'
  · obtain ⟨h3, h4⟩ := h.each x hx
    refine ⟨⟨h3.len, h3.vec.kp h3.len hk (fun b hb hb' => ?_), h3.few, h3.shape⟩, h4⟩
    rcases h4 with h4 | h4
    · have := (h.l.typed _ hb').1; have := h4 b hb; omega
    · exact h4
  · obtain ⟨_, cur, hc⟩ := h.l.typed k e; exact ⟨cur, _, hc, Or.inl rfl⟩
/-- 'o.l = append(o.l, book{..})': one book more. -/
theorem St.book {Sh : List Value → Prop} {w0 w w' : World} {B B1 go gm tT e eb m f : Nat} {oc mk : List Value} {ad : Option Addr} {N cap : Nat} {a4 : Option Addr} {c4 : Nat} {L : List Bk} (h : St Sh w0 w B B1 go gm tT e eb m f oc mk ad N cap a4 c4 L) {x : Bk} {a5 : Option Addr} {c5 : Nat}
    (hv : Vec w' B eb (m + 1) a5 (L.length + 1) c5 (bcells L ++ x.cells)) (hk : Kp (a4.map (·.block)) x.cells w w') (hx : Reads1 Sh w B e m x) (hm : x.mrk = mk) (h1 : eb ≠ tT) (h2 : e ≠ eb) (h3 : e ≠ tT) (hf : f < oc.length) (hB : B ≤ w.heap.size) :
    St Sh w0 (w'.setCell ⟨go, f, none⟩ (.slice a5 (L.length + 1) c5)) B B1 go gm tT e eb m f (oc.set f (.slice a5 (L.length + 1) c5)) mk ad N cap a5 c5 (L ++ [x]) := by
  have hu : Upd go w' (w'.setCell ⟨go, f, none⟩ (.slice a5 (L.length + 1) c5)) := (Upd.refl go w').setCell _ rfl _
  have ho : Bx w' go tT oc := h.o.kp hk (h.o.apart h.b h1)
  have hkk : Bx w' gm e mk := h.k.kp hk (h.k.apart h.b (fun e => h2 e.symm))
  have hl : Vec w' B1 e m ad N cap (rep N mk) := h.l.kpo hk (fun b hb hb' => h.l.apart h.b h2 b hb hb')
  have hgo : gm ≠ go := by
    intro e1; have a := hkk.h; have b := ho.h; rw [e1, b] at a; simp at a; exact h3 a.2.symm
  have each : ∀ y, Reads1 Sh w B e m y → Reads1 Sh (w'.setCell ⟨go, f, none⟩ (.slice a5 (L.length + 1) c5)) B e m y := fun y hy => by
    have := hy.vec.kpo hk (fun b hb hb' => hy.vec.apart h.b h2 b hb hb')
    exact ⟨hy.len, this.updo hu (fun b hb e1 => ho.apart this h3 (by rw [hb]; simp [e1])), hy.few, hy.shape⟩
  refine ⟨ho.setCell f _, hkk.upd hu hgo, hl.updo hu (fun b hb e1 => ho.apart hl h3 (by rw [hb]; simp [e1])), ?_, fun y hy => ?_, ?_, h.mark, h.low, h.big, h.apt, ?_, ?_⟩
  · rw [bcells_snoc, List.length_append]
    exact hv.updo hu (fun b hb e1 => ho.apart hv h1 (by rw [hb]; simp [e1]))
  · rcases List.mem_append.1 hy with hy | hy
    · exact ⟨each y (h.each y hy).1, (h.each y hy).2⟩
    · simp at hy; subst hy; exact ⟨each _ hx, Or.inr hm⟩
  · simp [hf]
  · exact hu.below (hk.below h.old hB (fun k e => (h.b.typed k e).1)) h.low
  · exact (h.but.trans (But3.of_kp hk fun k e1 => by obtain ⟨_, cur, hc⟩ := h.b.typed k e1; exact ⟨cur, _, hc, Or.inr rfl⟩)).trans (But3.of_upd hu (Or.inl rfl))
end Go.Proofs.Ytdjpkgaicmklmaa

/- What the walks of the owner's calls share. -/
namespace Go.Proofs.Ytdjpkgaicmklmaa
open Go.RowKit

def ShFd (l : List Value) : Prop := ∃ f : Fd, l = f.cells
def ShCk (l : List Value) : Prop := ∃ f : Ck, l = f.cells
def ShCd (l : List Value) : Prop := ∃ f : Cd, l = f.cells
def ShEd (l : List Value) : Prop := ∃ f : Ed, l = f.cells

theorem newc1 (X : World) (cs : List Value) (t : TypeId) : ∀ j u, cs[j]? = some u → (X.alloc (.cells cs.toArray t)).cell? ((⟨X.heap.size, 0, none⟩ : Addr).add j) = some u := by
  intro j u h
  rw [addr_add, (Bx.new X t cs.toArray).cell]
  simpa using h
/-- The worlds part in one block alone. -/
structure Upo (g : Option Nat) (w w' : World) : Prop where
  os : w'.os = w.os
  tape : w'.tape = w.tape
  output : w'.output = w.output
  size : w'.heap.size = w.heap.size
  block : ∀ k, g ≠ some k → w'.heap[k]? = w.heap[k]?
theorem Upo.refl (g : Option Nat) (w : World) : Upo g w w := ⟨rfl, rfl, rfl, rfl, fun _ _ => rfl⟩
theorem Upo.upd {g : Option Nat} {k : Nat} {w w1 w2 : World} (h : Upo g w w1) (hu : Upd k w1 w2) (hk : g = some k) : Upo g w w2 :=
  ⟨hu.os.trans h.os, hu.tape.trans h.tape, hu.output.trans h.output, hu.size.trans h.size, fun j hj => (hu.block j (fun e => hj (by rw [hk, e]))).trans (h.block j hj)⟩
theorem Bx.upo {g : Option Nat} {w w' : World} {k e : Nat} {cs : List Value} (b : Bx w k e cs) (h : Upo g w w') (hg : g ≠ some k) : Bx w' k e cs := ⟨by rw [h.block k hg]; exact b.h⟩
theorem Vec.upo {g : Option Nat} {w w' : World} {B e m : Nat} {ad : Option Addr} {n cap : Nat} {xs : List Value} (h : Vec w B e m ad n cap xs) (hu : Upo g w w') (hg : ∀ b, ad = some b → g ≠ some b.block) : Vec w' B e m ad n cap xs := by
  refine ⟨h.1, ?_⟩
  rcases h.2 with h2 | ⟨k, c, cur, hv, hB, hk, r⟩
  · exact Or.inl h2
  · refine Or.inr ⟨k, c, cur, hv, hB, ?_, r⟩
    simp at hv
    rw [hu.block k (hg _ hv.1)]; exact hk
theorem Upo.below {g : Option Nat} {B : Nat} {w0 w w' : World} (h : Upo g w w') (hb : Below B w0 w) (hg : ∀ k, g = some k → B ≤ k) : Below B w0 w' :=
  ⟨h.os.trans hb.os, h.tape.trans hb.tape, h.output.trans hb.output, by rw [h.size]; exact hb.size, fun k hk => (h.block k (fun e => by have := hg k e; omega)).trans (hb.block k hk)⟩
theorem But3.of_upo {go e eb : Nat} {g : Option Nat} {w w' : World} (h : Upo g w w') (hg : ∀ k, g = some k → ∃ cur t, w.heap[k]? = some (.cells cur t) ∧ (t = e ∨ t = eb)) : But3 go e eb w w' :=
  ⟨by rw [h.size]; exact Nat.le_refl _, fun k cur t _ h2 h3 h4 => by
    have hk : g ≠ some k := by
      intro hk
      obtain ⟨cur', t', hc, ht⟩ := hg k hk
      rw [h2] at hc; simp at hc; obtain ⟨-, rfl⟩ := hc; rcases ht with ht | ht
      · exact h3 ht
      · exact h4 ht
    rw [h.block k hk]; exact h2⟩

theorem merge {T G : Prop} (main : Hid T → G) (key : T) : G := main key
theorem St.six {Sh : List Value → Prop} {w0 w X w6 : World} {B B1 go gm tT e eb m f : Nat} {oc mk row : List Value} {ad : Option Addr} {N cap : Nat} {a4 : Option Addr} {c4 : Nat} {L : List Bk} (hk : Kp (a4.map (·.block)) row X w6) (h : St Sh w0 w B B1 go gm tT e eb m f oc mk ad N cap a4 c4 L) (hb : Below w.heap.size w X) (hB : B ≤ w.heap.size) (h1 : eb ≠ tT) {x : Bk} (hx : Reads1 Sh w B e m x) :
    Reads1 Sh X B e m x ∧ B ≤ X.heap.size ∧ St Sh w0 X B B1 go gm tT e eb m f oc mk ad N cap a4 c4 L ∧ w6.cell? ⟨go, f, none⟩ = some (.slice a4 L.length c4) ∧ w6.frozen? ⟨go, f, none⟩ = false := by
  have h2 := h.step hb hB
  have h3 := h2.o.kp hk (h2.o.apart h2.b h1)
  exact ⟨⟨hx.len, hx.vec.keep hb, hx.few, hx.shape⟩, Nat.le_trans hB hb.size, h2, by rw [h3.cell, h.at_], h3.frozen f⟩
/-- The list is written over. -/
theorem St.start {Sh : List Value → Prop} {w w1 w3 : World} {B B1 go tT e eb m f : Nat} {oc0 oc mk xs : List Value} {ad : Option Addr} {N cap : Nat} {a4 : Option Addr} {c4 : Nat} {L : List Bk} (hO : Bx w go tT oc0) (hO1 : Bx w1 go tT oc) (hU : Upd go w w1) (hK : Books Sh w B e eb m a4 c4 L)
    (hfr : ∀ x, x ∈ L → ∀ b, x.ad = some b → b.block < B1) (hv : Vec w B1 e m ad N cap xs) (hu : Upo (ad.map (·.block)) (w1.alloc (.cells mk.toArray e)) w3) (hv3 : Vec w3 B1 e m ad N cap (rep N mk)) (hf : oc[f]? = some (.slice a4 L.length c4)) (hm : mk.length = m)
    (hB : B ≤ go) (hB1 : B ≤ B1) (hBw : B ≤ w.heap.size) (h1 : e ≠ tT) (h2 : eb ≠ tT) (h3 : e ≠ eb) : St Sh w w3 B B1 go w1.heap.size tT e eb m f oc mk ad N cap a4 c4 L := by
  have hz := hU.size
  have hal : Below w1.heap.size w1 (w1.alloc (.cells mk.toArray e)) := (Below.refl _ _).alloc (Nat.le_refl _) _
  have hlt : ∀ k, ad.map (·.block) = some k → B1 ≤ k ∧ k < w1.heap.size ∧ k ≠ go := by
    intro k hk
    obtain ⟨h4, cur, hc⟩ := hv.typed k hk
    refine ⟨h4, by rw [hz]; exact (Array.getElem?_eq_some_iff.1 hc).1, fun e1 => hO.apart hv h1 (by rw [hk, e1])⟩
  have tr : ∀ {B' e' m' : Nat} {ad' : Option Addr} {n' cap' : Nat} {xs' : List Value}, Vec w B' e' m' ad' n' cap' xs' → e' ≠ tT → (∀ b, ad' = some b → ad.map (·.block) ≠ some b.block) → Vec w3 B' e' m' ad' n' cap' xs' := by
    intro B' e' m' ad' n' cap' xs' h4 h5 h6
    exact ((h4.updo hU (fun b hb e1 => hO.apart h4 h5 (by rw [hb]; simp [e1]))).keep hal).upo hu h6
  have hgm := Bx.new w1 e mk.toArray
  refine ⟨(hO1.alloc _).upo hu (fun e1 => (hlt _ e1).2.2 rfl), ?_, hv3, tr hK.list h2 (fun b hb e1 => hK.list.apart hv (fun e => h3 e.symm) b hb e1), fun x hx => ⟨⟨(hK.each x hx).len, tr (hK.each x hx).vec h1 (fun b hb e1 => ?_), (hK.each x hx).few, (hK.each x hx).shape⟩, Or.inl (hfr x hx)⟩, hf, hm, hB, hB1, fun b hb e1 => ?_, ?_, ?_⟩
  · have := hgm.upo hu (fun e1 => by have := (hlt _ e1).2.1; omega); simpa using this
  · have := hfr x hx b hb; have := (hlt _ e1).1; omega
  · have := (hlt b.block (by rw [hb]; rfl)).2.1; omega
  · exact hu.below ((hU.below (Below.refl _ _) hB).alloc (by rw [hz]; exact hBw) _) (fun k hk => Nat.le_trans hB1 (hlt k hk).1)
  · refine ((But3.of_upd hU (Or.inl rfl)).trans (But3.of_below hal)).trans (But3.of_upo hu fun k hk => ?_)
    obtain ⟨_, cur, hc⟩ := hv.typed k hk
    refine ⟨cur, e, ?_, Or.inl rfl⟩
    rw [hal.block k (hlt k hk).2.1, hU.block k (hlt k hk).2.2]; exact hc
end Go.Proofs.Ytdjpkgaicmklmaa

/- While the owner writes a list of strings over: as for lists of records, but the mark lies in no variable. -/
namespace Go.Proofs.Ytdjpkgaicmklmaa
open Go.RowKit

def ShSt (l : List Value) : Prop := ∃ s : List UInt8, l = [.string (str s)]

structure Su (Sh : List Value → Prop) (w0 w : World) (B B1 go tT e eb m f : Nat) (oc mk : List Value) (ad : Option Addr) (N cap : Nat) (a4 : Option Addr) (c4 : Nat) (L : List Bk) : Prop where
  o : Bx w go tT oc
  l : Vec w B1 e m ad N cap (rep N mk)
  b : Vec w B eb (m + 1) a4 L.length c4 (bcells L)
  each : ∀ x, x ∈ L → Reads1 Sh w B e m x ∧ ((∀ b, x.ad = some b → b.block < B1) ∨ x.mrk = mk)
  at_ : oc[f]? = some (.slice a4 L.length c4)
  mark : mk.length = m
  low : B ≤ go
  big : B ≤ B1
  old : Below B w0 w
  but : But3 go e eb w0 w

theorem Su.step {Sh : List Value → Prop} {w0 w w' : World} {B B1 go tT e eb m f : Nat} {oc mk : List Value} {ad : Option Addr} {N cap : Nat} {a4 : Option Addr} {c4 : Nat} {L : List Bk} (h : Su Sh w0 w B B1 go tT e eb m f oc mk ad N cap a4 c4 L) (hb : Below w.heap.size w w') (hB : B ≤ w.heap.size) : Su Sh w0 w' B B1 go tT e eb m f oc mk ad N cap a4 c4 L :=
  ⟨h.o.below hb h.o.lt, h.l.keep hb, h.b.keep hb, fun x hx => ⟨⟨(h.each x hx).1.len, (h.each x hx).1.vec.keep hb, (h.each x hx).1.few, (h.each x hx).1.shape⟩, (h.each x hx).2⟩, h.at_, h.mark, h.low, h.big, h.old.trans (hb.mono hB), h.but.trans (But3.of_below hb)⟩
theorem Su.push {Sh : List Value → Prop} {w0 w w' : World} {B B1 go tT e eb m f : Nat} {oc mk : List Value} {ad : Option Addr} {N cap : Nat} {a4 : Option Addr} {c4 : Nat} {L : List Bk} (h : Su Sh w0 w B B1 go tT e eb m f oc mk ad N cap a4 c4 L) (hk : Kp (ad.map (·.block)) mk w w')
    (h1 : e ≠ tT) (h2 : e ≠ eb) (hB : B ≤ w.heap.size) : Su Sh w0 w' B B1 go tT e eb m f oc mk ad N cap a4 c4 L := by
  refine ⟨h.o.kp hk (h.o.apart h.l h1), h.l.kp h.mark hk (fun _ _ _ => rfl), h.b.kpo hk (fun b hb hb' => ?_), fun x hx => ?_, h.at_, h.mark, h.low, h.big, hk.below h.old hB (fun k e => Nat.le_trans h.big (h.l.typed k e).1), h.but.trans (But3.of_kp hk fun k e => ?_)⟩
  · exact h.b.apart h.l (fun e => h2 e.symm) b hb hb'
  · obtain ⟨h3, h4⟩ := h.each x hx
    refine ⟨⟨h3.len, h3.vec.kp h3.len hk (fun b hb hb' => ?_), h3.few, h3.shape⟩, h4⟩
    rcases h4 with h4 | h4
    · have := (h.l.typed _ hb').1; have := h4 b hb; omega
    · exact h4
  · obtain ⟨_, cur, hc⟩ := h.l.typed k e; exact ⟨cur, _, hc, Or.inl rfl⟩
theorem Su.book {Sh : List Value → Prop} {w0 w w' : World} {B B1 go tT e eb m f : Nat} {oc mk : List Value} {ad : Option Addr} {N cap : Nat} {a4 : Option Addr} {c4 : Nat} {L : List Bk} (h : Su Sh w0 w B B1 go tT e eb m f oc mk ad N cap a4 c4 L) {x : Bk} {a5 : Option Addr} {c5 : Nat}
    (hv : Vec w' B eb (m + 1) a5 (L.length + 1) c5 (bcells L ++ x.cells)) (hk : Kp (a4.map (·.block)) x.cells w w') (hx : Reads1 Sh w B e m x) (hm : x.mrk = mk) (h1 : eb ≠ tT) (h2 : e ≠ eb) (h3 : e ≠ tT) (hf : f < oc.length) (hB : B ≤ w.heap.size) :
    Su Sh w0 (w'.setCell ⟨go, f, none⟩ (.slice a5 (L.length + 1) c5)) B B1 go tT e eb m f (oc.set f (.slice a5 (L.length + 1) c5)) mk ad N cap a5 c5 (L ++ [x]) := by
  have hu : Upd go w' (w'.setCell ⟨go, f, none⟩ (.slice a5 (L.length + 1) c5)) := (Upd.refl go w').setCell _ rfl _
  have ho : Bx w' go tT oc := h.o.kp hk (h.o.apart h.b h1)
  have hl : Vec w' B1 e m ad N cap (rep N mk) := h.l.kpo hk (fun b hb hb' => h.l.apart h.b h2 b hb hb')
  have each : ∀ y, Reads1 Sh w B e m y → Reads1 Sh (w'.setCell ⟨go, f, none⟩ (.slice a5 (L.length + 1) c5)) B e m y := fun y hy => by
    have := hy.vec.kpo hk (fun b hb hb' => hy.vec.apart h.b h2 b hb hb')
    exact ⟨hy.len, this.updo hu (fun b hb e1 => ho.apart this h3 (by rw [hb]; simp [e1])), hy.few, hy.shape⟩
  refine ⟨ho.setCell f _, hl.updo hu (fun b hb e1 => ho.apart hl h3 (by rw [hb]; simp [e1])), ?_, fun y hy => ?_, ?_, h.mark, h.low, h.big, ?_, ?_⟩
  · rw [bcells_snoc, List.length_append]
    exact hv.updo hu (fun b hb e1 => ho.apart hv h1 (by rw [hb]; simp [e1]))
  · rcases List.mem_append.1 hy with hy | hy
    · exact ⟨each y (h.each y hy).1, (h.each y hy).2⟩
    · simp at hy; subst hy; exact ⟨each _ hx, Or.inr hm⟩
  · simp [hf]
  · exact hu.below (hk.below h.old hB (fun k e => (h.b.typed k e).1)) h.low
  · exact (h.but.trans (But3.of_kp hk fun k e1 => by obtain ⟨_, cur, hc⟩ := h.b.typed k e1; exact ⟨cur, _, hc, Or.inr rfl⟩)).trans (But3.of_upd hu (Or.inl rfl))
/-- .. and the owner's variable bears the longer list. -/
theorem Su.book2 {Sh : List Value → Prop} {w0 w w' w'' : World} {B B1 go tT e eb m f q : Nat} {oc mk : List Value} {ad : Option Addr} {N cap : Nat} {a4 : Option Addr} {c4 : Nat} {L : List Bk} (h : Su Sh w0 w B B1 go tT e eb m f oc mk ad N cap a4 c4 L) {x : Bk} {a5 : Option Addr} {c5 : Nat}
    (hv : Vec w' B eb (m + 1) a5 (L.length + 1) c5 (bcells L ++ x.cells)) (hk : Kp (a4.map (·.block)) x.cells w w') (hu : Upd go w' w'') (hO : Bx w'' go tT (oc.set f (.slice a5 (L.length + 1) c5))) (hx : Reads1 Sh w B e m x) (hm : x.mrk = mk) (h1 : eb ≠ tT) (h2 : e ≠ eb) (h3 : e ≠ tT) (hf : f < oc.length) (hB : B ≤ w.heap.size) (hq : L.length = q) :
    ∃ L1, L1.length = q + 1 ∧ B ≤ w''.heap.size ∧ Su Sh w0 w'' B B1 go tT e eb m f (oc.set f (.slice a5 L1.length c5)) mk ad N cap a5 c5 L1 := by
  have ho : Bx w' go tT oc := h.o.kp hk (h.o.apart h.b h1)
  have hl : Vec w' B1 e m ad N cap (rep N mk) := h.l.kpo hk (fun b hb hb' => h.l.apart h.b h2 b hb hb')
  have each : ∀ y, Reads1 Sh w B e m y → Reads1 Sh w'' B e m y := fun y hy => by
    have := hy.vec.kpo hk (fun b hb hb' => hy.vec.apart h.b h2 b hb hb')
    exact ⟨hy.len, this.updo hu (fun b hb e1 => ho.apart this h3 (by rw [hb]; simp [e1])), hy.few, hy.shape⟩
  have e1 : (L ++ [x]).length = L.length + 1 := by simp
  refine ⟨L ++ [x], by rw [e1, hq], by rw [hu.size]; exact Nat.le_trans hB hk.size, by rw [e1]; exact hO, hl.updo hu (fun b hb e1 => ho.apart hl h3 (by rw [hb]; simp [e1])), ?_, fun y hy => ?_, ?_, h.mark, h.low, h.big, ?_, ?_⟩
  · rw [bcells_snoc, e1]
    exact hv.updo hu (fun b hb e1 => ho.apart hv h1 (by rw [hb]; simp [e1]))
  · rcases List.mem_append.1 hy with hy | hy
    · exact ⟨each y (h.each y hy).1, (h.each y hy).2⟩
    · simp at hy; subst hy; exact ⟨each _ hx, Or.inr hm⟩
  · simp [hf]
  · exact hu.below (hk.below h.old hB (fun k e => (h.b.typed k e).1)) h.low
  · exact (h.but.trans (But3.of_kp hk fun k e1 => by obtain ⟨_, cur, hc⟩ := h.b.typed k e1; exact ⟨cur, _, hc, Or.inr rfl⟩)).trans (But3.of_upd hu (Or.inl rfl))
theorem Su.six {Sh : List Value → Prop} {w0 w X w6 : World} {B B1 go tT e eb m f : Nat} {oc mk row : List Value} {ad : Option Addr} {N cap : Nat} {a4 : Option Addr} {c4 : Nat} {L : List Bk} (hk : Kp (a4.map (·.block)) row X w6) (h : Su Sh w0 w B B1 go tT e eb m f oc mk ad N cap a4 c4 L) (hb : Below w.heap.size w X) (hB : B ≤ w.heap.size) (h1 : eb ≠ tT) {x : Bk} (hx : Reads1 Sh w B e m x) :
    Reads1 Sh X B e m x ∧ B ≤ X.heap.size ∧ Su Sh w0 X B B1 go tT e eb m f oc mk ad N cap a4 c4 L ∧ w6.cell? ⟨go, f, none⟩ = some (.slice a4 L.length c4) ∧ w6.frozen? ⟨go, f, none⟩ = false := by
  have h2 := h.step hb hB
  have h3 := h2.o.kp hk (h2.o.apart h2.b h1)
  exact ⟨⟨hx.len, hx.vec.keep hb, hx.few, hx.shape⟩, Nat.le_trans hB hb.size, h2, by rw [h3.cell, h.at_], h3.frozen f⟩
theorem Su.start {Sh : List Value → Prop} {w w1 w3 : World} {B B1 go tT e eb m f : Nat} {oc0 oc mk xs : List Value} {ad : Option Addr} {N cap : Nat} {a4 : Option Addr} {c4 : Nat} {L : List Bk} (hO : Bx w go tT oc0) (hO1 : Bx w1 go tT oc) (hU : Upd go w w1) (hK : Books Sh w B e eb m a4 c4 L)
    (hfr : ∀ x, x ∈ L → ∀ b, x.ad = some b → b.block < B1) (hv : Vec w B1 e m ad N cap xs) (hu : Upo (ad.map (·.block)) w1 w3) (hv3 : Vec w3 B1 e m ad N cap (rep N mk)) (hf : oc[f]? = some (.slice a4 L.length c4)) (hm : mk.length = m)
    (hB : B ≤ go) (hB1 : B ≤ B1) (h1 : e ≠ tT) (h2 : eb ≠ tT) (h3 : e ≠ eb) : Su Sh w w3 B B1 go tT e eb m f oc mk ad N cap a4 c4 L := by
  have hz := hU.size
  have hlt : ∀ k, ad.map (·.block) = some k → B1 ≤ k ∧ k < w1.heap.size ∧ k ≠ go := by
    intro k hk
    obtain ⟨h4, cur, hc⟩ := hv.typed k hk
    refine ⟨h4, by rw [hz]; exact (Array.getElem?_eq_some_iff.1 hc).1, fun e1 => hO.apart hv h1 (by rw [hk, e1])⟩
  have tr : ∀ {B' e' m' : Nat} {ad' : Option Addr} {n' cap' : Nat} {xs' : List Value}, Vec w B' e' m' ad' n' cap' xs' → e' ≠ tT → (∀ b, ad' = some b → ad.map (·.block) ≠ some b.block) → Vec w3 B' e' m' ad' n' cap' xs' := by
    intro B' e' m' ad' n' cap' xs' h4 h5 h6
    exact (h4.updo hU (fun b hb e1 => hO.apart h4 h5 (by rw [hb]; simp [e1]))).upo hu h6
  refine ⟨hO1.upo hu (fun e1 => (hlt _ e1).2.2 rfl), hv3, tr hK.list h2 (fun b hb e1 => hK.list.apart hv (fun e => h3 e.symm) b hb e1), fun x hx => ⟨⟨(hK.each x hx).len, tr (hK.each x hx).vec h1 (fun b hb e1 => ?_), (hK.each x hx).few, (hK.each x hx).shape⟩, Or.inl (hfr x hx)⟩, hf, hm, hB, hB1, ?_, ?_⟩
  · have := hfr x hx b hb; have := (hlt _ e1).1; omega
  · exact hu.below (hU.below (Below.refl _ _) hB) (fun k hk => Nat.le_trans hB1 (hlt k hk).1)
  · refine (But3.of_upd hU (Or.inl rfl)).trans (But3.of_upo hu fun k hk => ?_)
    obtain ⟨_, cur, hc⟩ := hv.typed k hk
    refine ⟨cur, e, ?_, Or.inl rfl⟩
    rw [hU.block k (hlt k hk).2.2]; exact hc
end Go.Proofs.Ytdjpkgaicmklmaa

