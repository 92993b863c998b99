/- Texts of the proof, one behind the other; what each holds is said at its head. -/
import Derived.Test.YtdjpkgaicmklmabPartTorn2
import Derived.Test.YtdjpkgaicmklmabPartTorn1
import Derived.Test.YtdjpkgaicmklmabPartTorn0
import Derived.Lib.ConvBytes
import Derived.Deep.RegionLaw
import Derived.Laws.BitsAllLaws
import Derived.OwnWalk
/- Rows of strings of the call's own. -/
namespace Go.Proofs.Ytdjpkgaicmklmab
open Go.RowKit

/-- A row of strings. -/
abbrev srows (l : List (List UInt8)) : List (List Value) := l.map fun s => [Value.string (str s)]
theorem srows_flat (l : List (List UInt8)) : (srows l).flatten = strs l := strs_flat l
theorem srows_at {w : World} {g : Nat} {e : TypeId} {l : List (List UInt8)} (h : Own w g e 1 (srows l)) (k : Nat) (hk : k < l.length) : w.cell? ⟨g, k, none⟩ = some (.string (str (l.getD k []))) ∧ w.frozen? ⟨g, k, none⟩ = false := by
  constructor
  · have := h.cell k 0 (by simpa using hk) (by omega)
    rw [Nat.add_zero, Nat.mul_one] at this
    rw [this]
    simp [List.getD, hk]
  · simp [World.frozen?, h.block]
theorem srows_set {w : World} {g : Nat} {e : TypeId} {l : List (List UInt8)} (h : Own w g e 1 (srows l)) (k : Nat) (x : List UInt8) : Own (w.setCell ⟨g, k, none⟩ (.string (str x))) g e 1 (srows (l.set k x)) := by
  refine ⟨by intro r hr; obtain ⟨y, _, rfl⟩ := List.mem_map.1 hr; rfl, ?_⟩
  rw [heap_setCell_same w g k _ e _ h.block]
  congr 2
  rw [srows_flat, srows_flat, strs, strs, List.map_set]
  simp
theorem srows_lies {w : World} {g : Nat} {e : TypeId} {L l : List (List UInt8)} {ad : Option Addr} {N : Nat} (h : Own w g e 1 (srows L)) (had : ad = some ⟨g, 0, none⟩) (hN : N ≤ L.length) (hf : ∀ i, i < N → L.getD i [] = l.getD i []) : Lies w ad N 1 (fun i => [.string (str (l.getD i []))]) := by
  refine Or.inr ⟨g, 0, had, (Array.getElem?_eq_some_iff.1 h.block).1, fun i hi j v hj hv => ?_⟩
  obtain rfl : j = 0 := by omega
  rw [show 0 + i * 1 + 0 = i by omega, (srows_at h i (by omega)).1, hf i hi]
  simpa using hv
theorem srows_bx {w : World} {g : Nat} {e : TypeId} {l : List (List UInt8)} (h : Own w g e 1 (srows l)) : Bx w g e (strs l) := ⟨by have := h.block; rw [srows_flat] at this; exact this⟩
theorem bx_srows {w : World} {g : Nat} {e : TypeId} {l : List (List UInt8)} (h : Bx w g e (strs l)) : Own w g e 1 (srows l) :=
  ⟨by intro r hr; obtain ⟨y, _, rfl⟩ := List.mem_map.1 hr; rfl, by rw [srows_flat]; exact h.h⟩
theorem strs_at {l : List (List UInt8)} {k : Nat} (h : k < l.length) : (strs l)[k]? = some (.string (str (l.getD k []))) := by simp [strs, List.getD, h]
theorem strs_set (l : List (List UInt8)) (k : Nat) (x : List UInt8) : (strs l).set k (.string (str x)) = strs (l.set k x) := by rw [strs, strs, List.map_set]
theorem Vec.cell1 {w : World} {B e : Nat} {ad : Option Addr} {n cap : Nat} {xs : List Value} (h : Vec w B e 1 ad n cap xs) {P : Program} {t : TypeId}
    (ht : P.underlying t = some (.slice (P.elem t))) (hs : (P.info? (P.elem t)).map (·.size) = some 1) {i : Nat} (hi : i < n) (N : Int) (hN : N = (i : Int)) :
    ∃ g, ad = some ⟨g, 0, none⟩ ∧ B ≤ g ∧ g < w.heap.size ∧ (∀ w', (Instr.indexAt t (.slice ad n cap) (.int .i64 N)).run P w' = .ok (.pointer (some ⟨g, i, none⟩)) w') ∧
      w.cell? ⟨g, i, none⟩ = xs[i]? ∧ w.frozen? ⟨g, i, none⟩ = false ∧ (∀ u, Vec (w.setCell ⟨g, i, none⟩ u) B e 1 ad n cap (xs.set i u)) := by
  obtain ⟨g, rfl, hB, hl⟩ := h.form (by omega)
  refine ⟨g, rfl, hB, hl, fun w' => ?_, ?_, World.ownsRow.frozenAt h _, fun u => (World.ownsRow.stored h i u).1⟩
  · have := Own.idx (P := P) (t := t) (m := 1) (had := rfl) n cap ht hs hi N hN w' (g := g)
    rw [Nat.mul_one] at this; exact this
  · exact World.ownsRow.cellAt h i (by omega)
end Go.Proofs.Ytdjpkgaicmklmab

/- Bits turned over within 32 consecutive ones turn the sum: without the program. -/
namespace Go.Proofs.Ytdjpkgaicmklmab

theorem div1_inj {p x y : Nat} (hp : p % 2 = 1) (h : div1 p x = div1 p y) : x = y := by
  have par : ∀ z : Nat, ((2 * z) ^^^ (p + 4294967296)) % 2 = 1 := by
    intro z
    have := Nat.xor_mod_two_pow (a := 2 * z) (b := p + 4294967296) (n := 1)
    rw [Nat.pow_one] at this
    rw [this, show 2 * z % 2 = 0 by omega, show (p + 4294967296) % 2 = 1 by omega]
    rfl
  unfold div1 at h
  split at h <;> split at h
  · have h2 := congrArg (fun z => z ^^^ (p + 4294967296)) h
    simp only [Nat.xor_assoc, Nat.xor_self, Nat.xor_zero] at h2
    omega
  · have := par x; rw [h] at this; omega
  · have := par y; rw [← h] at this; omega
  · omega
theorem divN_inj {p : Nat} (hp : p % 2 = 1) : ∀ (k : Nat) {x y : Nat}, divN p k x = divN p k y → x = y
  | 0, _, _, h => h
  | k + 1, _, _, h => div1_inj hp (divN_inj hp k h)
theorem high_inj : ∀ (l m : List Bool), l.length = m.length → l.length ≤ 32 → high l = high m → l = m
  | [], [], _, _, _ => rfl
  | [], _ :: _, h, _, _ => by simp at h
  | _ :: _, [], h, _, _ => by simp at h
  | b :: l, c :: m, hl, h32, h => by
    have hb : b = c := by rw [← bit_high_top b l, ← bit_high_top c m, h]
    subst hb
    simp only [List.length_cons] at hl h32
    have e1 := high_even l 31 (by omega) (by omega)
    have e2 := high_even m 31 (by omega) (by omega)
    simp only [high] at h
    rw [high_inj l m (by omega) (by omega) (by omega)]
theorem crcB_short {p : Nat} (hp : p < 4294967296) (r : Nat) (hr : r < 4294967296) (e : List Bool) (he : e.length ≤ 32) : crcB p r e = divN p e.length (r ^^^ high e) := by
  have := divN_high p hp [] e r hr (by simpa using he)
  rw [List.append_nil] at this
  rw [this]; simp [high]
theorem cst_inj {p x y : Nat} {b : Bool} (hp : p < 4294967296) (ho : p % 2 = 1) (hx : x < 4294967296) (hy : y < 4294967296) (h : cst p x b = cst p y b) : x = y := by
  have ex := crcB_short hp x hx [b] (by simp)
  have ey := crcB_short hp y hy [b] (by simp)
  have : divN p 1 (x ^^^ high [b]) = divN p 1 (y ^^^ high [b]) := by
    rw [← List.length_singleton (a := b), ← ex, ← ey]; exact h
  have h2 := divN_inj ho 1 this
  have h3 := congrArg (fun z => z ^^^ high [b]) h2
  simpa [Nat.xor_assoc] using h3
theorem crcB_inj {p : Nat} (hp : p < 4294967296) (ho : p % 2 = 1) : ∀ (c : List Bool) {x y : Nat}, x < 4294967296 → y < 4294967296 → crcB p x c = crcB p y c → x = y
  | [], _, _, _, _, h => h
  | _ :: c, _, _, hx, hy, h => cst_inj hp ho hx hy (crcB_inj hp ho c (cst_lt hp) (cst_lt hp) h)
/-- Bits that part within 32 consecutive ones part the registers. -/
theorem burst {p : Nat} (hp : p < 4294967296) (ho : p % 2 = 1) (r : Nat) (hr : r < 4294967296) (a e e' c : List Bool) (hl : e.length = e'.length) (h32 : e.length ≤ 32) (h : crcB p r (a ++ e ++ c) = crcB p r (a ++ e' ++ c)) : e = e' := by
  have ha := crcB_lt hp a hr
  rw [crcB_append, crcB_append, crcB_append p r (a ++ e') c, crcB_append p r a e'] at h
  have h1 := crcB_inj hp ho c (crcB_lt hp e ha) (crcB_lt hp e' ha) h
  rw [crcB_short hp _ ha e h32, crcB_short hp _ ha e' (by omega), hl] at h1
  have h2 := divN_inj ho _ h1
  have h3 := congrArg (fun z => crcB p r a ^^^ z) h2
  simp only [← Nat.xor_assoc, Nat.xor_self, Nat.zero_xor] at h3
  exact high_inj e e' hl h32 h3

theorem high_append : ∀ (l m : List Bool), l.length + m.length ≤ 32 → high (l ++ m) = high l + high m / 2 ^ l.length
  | [], m, _ => by simp [high]
  | b :: l, m, h => by
    simp only [List.length_cons] at h
    have e := high_even l 31 (by omega) (by omega)
    simp only [List.cons_append, high, high_append l m (by omega), List.length_cons]
    rw [Nat.pow_succ, ← Nat.div_div_eq_div_mul]
    omega
theorem high_bytes (a b c d : UInt8) : high (allBits [a, b, c, d]) = a.toNat * 16777216 + b.toNat * 65536 + c.toNat * 256 + d.toNat := by
  have e : allBits [a, b, c, d] = bitsOf a ++ (bitsOf b ++ (bitsOf c ++ bitsOf d)) := by simp [allBits]
  rw [e, high_append _ _ (by simp [bitsOf]), high_append _ _ (by simp [bitsOf]), high_append _ _ (by simp [bitsOf])]
  rw [← byte_high, ← byte_high, ← byte_high, ← byte_high]
  simp only [show (bitsOf a).length = 8 from rfl, show (bitsOf b).length = 8 from rfl, show (bitsOf c).length = 8 from rfl]
  omega
theorem bytN (n : Int) (h0 : 0 ≤ n) (h1 : n < 256) : ((byt n).toNat : Int) = n := by
  simp [byt]; omega
theorem high_four (x : Nat) (h : x < 4294967296) : high (allBits (fourI x)) = x := by
  have a := bytN ((x : Int) / 16777216) (by omega) (by omega)
  have b := bytN ((x : Int) / 65536 % 256) (by omega) (by omega)
  have c := bytN ((x : Int) / 256 % 256) (by omega) (by omega)
  have d := bytN ((x : Int) % 256) (by omega) (by omega)
  unfold fourI
  rw [high_bytes]
  omega
/-- Bytes that end in their own sum leave all registers alike. -/
theorem resid {p : Nat} (hp : p < 4294967296) (s : List UInt8) : crcB p 4294967295 (allBits (s ++ fourI (crc p s))) = divN p 32 4294967295 := by
  have hr := crcB_lt hp (allBits s) (r := 4294967295) (by omega)
  have hc := crc_lt hp s
  rw [allBits_append, crcB_append, crcB_short hp _ hr _ (by rw [allBits_length]; simp [fourI]), high_four _ hc, allBits_length]
  simp only [crc, ← Nat.xor_assoc, Nat.xor_self, Nat.zero_xor]
  rfl
/-- Of two strings that end in their own sums and part within 32 consecutive bits alone both are the same. -/
theorem torn {p : Nat} (hp : p < 4294967296) (ho : p % 2 = 1) (s t : List UInt8) (a e e' c : List Bool) (hs : allBits (s ++ fourI (crc p s)) = a ++ e ++ c) (ht : allBits (t ++ fourI (crc p t)) = a ++ e' ++ c) (hl : e.length = e'.length) (h32 : e.length ≤ 32) : e = e' := by
  have h1 := resid hp s
  have h2 := resid hp t
  rw [hs] at h1
  rw [ht] at h2
  exact burst hp ho _ (by omega) a e e' c hl h32 (h1.trans h2.symm)
/-- Bits turned over within 32 consecutive ones turn the sum. -/
theorem crc_turn {p : Nat} (hp : p < 4294967296) (ho : p % 2 = 1) (s t : List UInt8) (a e e' c : List Bool) (hs : allBits s = a ++ e ++ c) (ht : allBits t = a ++ e' ++ c) (hl : e.length = e'.length) (h32 : e.length ≤ 32) (h : crc p s = crc p t) : e = e' := by
  unfold crc at h
  rw [hs, ht] at h
  have h2 := congrArg (fun z => z ^^^ 4294967295) h
  simp only [Nat.xor_assoc, Nat.xor_self, Nat.xor_zero] at h2
  exact burst hp ho _ (by omega) a e e' c hl h32 h2

/-- The register is linear in itself and in the bits. -/
theorem cst_lin (p r r' : Nat) (b b' : Bool) : cst p (r ^^^ r') (b != b') = cst p r b ^^^ cst p r' b' := by
  unfold cst
  rw [Nat.testBit_xor, xor_two_mul, xor_mod]
  generalize 2 * r % 4294967296 = u
  generalize 2 * r' % 4294967296 = v
  have e1 : (u ^^^ p) ^^^ (v ^^^ p) = u ^^^ v := by
    rw [Nat.xor_comm v p, ← Nat.xor_assoc, Nat.xor_assoc u p p, Nat.xor_self, Nat.xor_zero]
  have e2 : (u ^^^ p) ^^^ v = (u ^^^ v) ^^^ p := by rw [Nat.xor_assoc, Nat.xor_comm p v, ← Nat.xor_assoc]
  have e3 : u ^^^ (v ^^^ p) = (u ^^^ v) ^^^ p := by rw [Nat.xor_assoc]
  cases r.testBit 31 <;> cases r'.testBit 31 <;> cases b <;> cases b' <;> simp [e1, e2, e3]
theorem crcB_lin (p : Nat) : ∀ (l m : List Bool) (r r' : Nat), l.length = m.length → crcB p (r ^^^ r') (List.zipWith (· != ·) l m) = crcB p r l ^^^ crcB p r' m
  | [], [], _, _, _ => rfl
  | [], _ :: _, _, _, h => by simp at h
  | _ :: _, [], _, _, h => by simp at h
  | b :: l, c :: m, r, r', h => by
    simp only [List.zipWith_cons_cons, crcB, List.foldl_cons]
    rw [cst_lin]
    exact crcB_lin p l m _ _ (by simpa using h)
/-- What two strings' sums part by hangs on what the strings part by alone. -/
theorem crc_part (p : Nat) (s t : List UInt8) (h : s.length = t.length) : crc p s ^^^ crc p t = crcB p 0 (List.zipWith (· != ·) (allBits s) (allBits t)) := by
  have := crcB_lin p (allBits s) (allBits t) 4294967295 4294967295 (by rw [allBits_length, allBits_length, h])
  rw [Nat.xor_self] at this
  rw [this]
  unfold crc
  rw [Nat.xor_comm (crcB p 4294967295 (allBits t)) 4294967295, ← Nat.xor_assoc, Nat.xor_assoc (crcB p 4294967295 (allBits s)), Nat.xor_self, Nat.xor_zero]
theorem crcB_zeros (p : Nat) : ∀ n, crcB p 0 (List.replicate n false) = 0
  | 0 => rfl
  | n + 1 => by
    simp only [List.replicate_succ, crcB, List.foldl_cons]
    have : cst p 0 false = 0 := by simp [cst]
    rw [this]; exact crcB_zeros p n
/-- What two frames part by whose records part in the last byte, a against b. -/
def d40 : List Bool := bitsOf 3 ++ allBits (fourI (crcB pSum 0 (bitsOf 3)))
theorem strange_seal : crcB pSeal 0 d40 ≠ 0 := by decide +kernel
theorem strange_sum : crcB pSum 0 (d40 ++ allBits (fourI (crcB pSeal 0 d40))) ≠ 0 := by decide +kernel
end Go.Proofs.Ytdjpkgaicmklmab

/- Volumes: Split and Join without the program. -/
namespace Go.Proofs.Ytdjpkgaicmklmab
open Go.RowKit

/-- The head and the bytes of a volume, ahead of its own sum. -/
def volH (i n : Int) (s : Nat) (part : List UInt8) : List UInt8 := [86, 79, 76, 49, byt i, byt n] ++ fourI s ++ part
def volB (i n : Int) (s : Nat) (part : List UInt8) : List UInt8 := volH i n s part ++ fourI (crc pSum (volH i n s part))
/-- How many volumes of m bytes each. -/
def cntB (m k : Nat) : Nat := if k ≤ m then 1 else (k + m - 1) / m
def partB (m i : Nat) (b : List UInt8) : List UInt8 := (b.drop (i * m)).take m
def volsB (m : Nat) (b : List UInt8) : List (List UInt8) :=
  (List.range (cntB m b.length)).map fun (i : Nat) => volB (i : Int) (cntB m b.length) (crc pSum b) (partB m i b)

def numV (v : List UInt8) : Nat := (v.getD 4 0).toNat
def cntV (v : List UInt8) : Nat := (v.getD 5 0).toNat
def idV (v : List UInt8) : List UInt8 := (v.drop 5).take 5
def sumV (v : List UInt8) : List UInt8 := (v.drop 6).take 4
def bodyV (v : List UInt8) : List UInt8 := (v.drop 10).take (v.length - 14)
def volOk (v : List UInt8) : Bool := decide (14 ≤ v.length) && v.take 4 == [86, 79, 76, 49] && decide (numV v < cntV v) && fourI (crc pSum (v.take (v.length - 4))) == v.drop (v.length - 4)

def firstOf (f : Nat → Bool) (n : Nat) : Option Nat := (List.range n).find? f
theorem firstOf_some {f : Nat → Bool} {n i : Nat} : firstOf f n = some i ↔ f i = true ∧ i < n ∧ ∀ j, j < i → f j = false := by
  unfold firstOf; rw [List.find?_range_eq_some]; simp
theorem firstOf_none {f : Nat → Bool} {n : Nat} : firstOf f n = none ↔ ∀ i, i < n → f i = false := by
  unfold firstOf; rw [List.find?_eq_none]; simp

def atV (l : List (List UInt8)) (n : Nat) : Nat := l.findIdx (fun v => numV v == n)
def bad1 (l : List (List UInt8)) (i : Nat) : Bool := !volOk (l.getD i [])
def bad2 (l : List (List UInt8)) (i : Nat) : Bool := idV (l.getD i []) != idV (l.getD 0 [])
def bad3 (l : List (List UInt8)) (i : Nat) : Bool := (l.take i).any fun v => numV v == numV (l.getD i [])
def allV (l : List (List UInt8)) (k : Nat) : List UInt8 := (List.range k).flatMap fun n => bodyV (l.getD (atV l n) [])
structure Jn where
  b : List UInt8
  err : Int
  at_ : Nat
def joinRd (l : List (List UInt8)) : Jn :=
  match firstOf (bad1 l) l.length with
  | some i => ⟨[], 13, i⟩
  | none => match firstOf (bad2 l) l.length with
    | some i => ⟨[], 14, i⟩
    | none => match firstOf (bad3 l) l.length with
      | some i => ⟨[], 15, i⟩
      | none => if l.length = 0 ∨ l.length ≠ cntV (l.getD 0 []) then ⟨[], 16, 0⟩
        else if fourI (crc pSum (allV l l.length)) ≠ sumV (l.getD 0 []) then ⟨[], 8, 0⟩ else ⟨allV l l.length, 0, 0⟩

/-- Numbers below n, none twice, are at most n; n of them are all. -/
theorem below_length : ∀ (n : Nat) (l : List Nat), l.Nodup → (∀ x ∈ l, x < n) → l.length ≤ n
  | 0, [], _, _ => Nat.le_refl 0
  | 0, x :: _, _, h => absurd (h x (by simp)) (by omega)
  | n + 1, l, hd, h => by
    have := below_length n (l.erase n) (hd.erase n) (fun x hx => by
      rw [hd.mem_erase_iff] at hx; have := h x hx.2; omega)
    rw [List.length_erase] at this; split at this <;> omega
theorem below_all {n : Nat} {l : List Nat} (hd : l.Nodup) (h : ∀ x ∈ l, x < n) (hl : l.length = n) {k : Nat} (hk : k < n) : k ∈ l := by
  by_cases hm : k ∈ l
  · exact hm
  · have := below_length n (k :: l) (List.nodup_cons.mpr ⟨hm, hd⟩) (by intro x hx; rcases List.mem_cons.mp hx with rfl | hx; exact hk; exact h x hx)
    simp at this; omega

theorem bad3_none {l : List (List UInt8)} (h : ∀ i, i < l.length → bad3 l i = false) : (l.map numV).Nodup := by
  rw [List.nodup_iff_pairwise_ne, List.pairwise_iff_getElem]
  intro i j hi hj hij he
  simp only [List.length_map] at hi hj
  have := h j hj
  simp only [bad3, List.any_eq_false, beq_iff_eq] at this
  simp only [List.getElem_map] at he
  refine this l[i] ?_ ?_
  · rw [List.mem_take_iff_getElem]; exact ⟨i, by omega, rfl⟩
  · rw [he, List.getD_eq_getElem?_getD, List.getElem?_eq_getElem hj]; rfl
theorem nodup_bad3 {l : List (List UInt8)} (h : (l.map numV).Nodup) (i : Nat) (hi : i < l.length) : bad3 l i = false := by
  rw [List.nodup_iff_pairwise_ne, List.pairwise_iff_getElem] at h
  simp only [bad3, List.any_eq_false, beq_iff_eq]
  intro v hv he
  rw [List.mem_take_iff_getElem] at hv
  obtain ⟨j, hj, rfl⟩ := hv
  refine h j i (by simp; omega) (by simpa using hi) (by omega) ?_
  simp only [List.getElem_map]
  rw [he, List.getD_eq_getElem?_getD, List.getElem?_eq_getElem hi]; rfl

/-- Behind the first three searches each number below the count is there. -/
theorem at_lt {l : List (List UInt8)} (h1 : ∀ i, i < l.length → bad1 l i = false) (h2 : ∀ i, i < l.length → bad2 l i = false) (h3 : ∀ i, i < l.length → bad3 l i = false)
    (hl : l.length = cntV (l.getD 0 [])) {n : Nat} (hn : n < l.length) : atV l n < l.length := by
  have hc : ∀ i, i < l.length → cntV (l.getD i []) = cntV (l.getD 0 []) := by
    intro i hi
    have a := h2 i hi
    simp only [bad2, bne_eq_false_iff_eq] at a
    have hz : ∀ v : List UInt8, cntV v = ((idV v).getD 0 0).toNat := by intro v; unfold cntV idV; simp [List.getElem?_drop]
    rw [hz, hz, a]
  have hm : n ∈ l.map numV := by
    refine below_all (n := l.length) (bad3_none h3) ?_ (by simp) hn
    intro x hx
    rw [List.mem_map] at hx
    obtain ⟨v, hv, rfl⟩ := hx
    obtain ⟨i, hi, rfl⟩ := List.mem_iff_getElem.mp hv
    have a := h1 i hi
    have b := hc i hi
    simp only [bad1, Bool.not_eq_false', List.getD_eq_getElem?_getD, List.getElem?_eq_getElem hi, Option.getD_some] at a
    simp only [List.getD_eq_getElem?_getD, List.getElem?_eq_getElem hi, Option.getD_some] at b hl
    simp only [volOk, Bool.and_eq_true, decide_eq_true_eq] at a
    omega
  unfold atV
  rw [List.findIdx_lt_length]
  rw [List.mem_map] at hm
  obtain ⟨v, hv, he⟩ := hm
  exact ⟨v, hv, by simp [he]⟩
end Go.Proofs.Ytdjpkgaicmklmab

/- Volumes: what Join makes of the volumes of some bytes, without the program. -/
namespace Go.Proofs.Ytdjpkgaicmklmab
open Go.RowKit

theorem fourI_len (s : Int) : (fourI s).length = 4 := rfl
theorem fourI_inj {s t : Nat} (hs : s < 4294967296) (ht : t < 4294967296) (h : fourI s = fourI t) : s = t := by
  rw [← high_four s hs, ← high_four t ht, h]
theorem pSum_lt : pSum < 4294967296 := by decide
theorem pSum_odd : pSum % 2 = 1 := by decide

theorem volH_len (i n : Int) (s : Nat) (p : List UInt8) : (volH i n s p).length = p.length + 10 := by
  simp [volH, fourI]
theorem volB_len (i n : Int) (s : Nat) (p : List UInt8) : (volB i n s p).length = p.length + 14 := by
  simp [volB, volH_len, fourI_len]
theorem byt_nat (i : Nat) (h : i < 256) : (byt i).toNat = i := by
  have := bytN i (by omega) (by omega); omega
theorem volB_num (i n : Nat) (s : Nat) (p : List UInt8) (h : i < 256) : numV (volB i n s p) = i := by
  simp [numV, volB, volH, byt_nat i h]
theorem volB_cnt (i n : Nat) (s : Nat) (p : List UInt8) (h : n < 256) : cntV (volB i n s p) = n := by
  simp [cntV, volB, volH, byt_nat n h]
theorem volB_id (i n : Int) (s : Nat) (p : List UInt8) : idV (volB i n s p) = byt n :: fourI s := by
  simp [idV, volB, volH, fourI]
theorem volB_sum (i n : Int) (s : Nat) (p : List UInt8) : sumV (volB i n s p) = fourI s := by
  simp [sumV, volB, volH, fourI]
theorem volB_body (i n : Int) (s : Nat) (p : List UInt8) : bodyV (volB i n s p) = p := by
  unfold bodyV; rw [volB_len]; simp [volB, volH, fourI]
theorem volB_ok (i n : Nat) (s : Nat) (p : List UInt8) (h : i < n) (hn : n < 256) : volOk (volB i n s p) = true := by
  have e : (volB i n s p).length - 4 = (volH i n s p).length := by rw [volB_len, volH_len]; omega
  unfold volOk
  rw [volB_num i n s p (by omega), volB_cnt i n s p hn, e]
  have a : (volB i n s p).take (volH i n s p).length = volH i n s p := by simp [volB]
  have b : (volB i n s p).drop (volH i n s p).length = fourI (crc pSum (volH i n s p)) := by simp [volB]
  rw [a, b, volB_len]
  simp [h, volB, volH]

theorem cnt_pos (m k : Nat) (hm : 0 < m) : 0 < cntB m k := by
  unfold cntB; split
  · omega
  · exact Nat.div_pos (by omega) hm
theorem cnt_ge (m k : Nat) (hm : 0 < m) : k ≤ cntB m k * m := by
  unfold cntB; split
  · omega
  · have := Nat.div_add_mod (k + m - 1) m; have := Nat.mod_lt (k + m - 1) hm; rw [Nat.mul_comm]; omega
theorem cnt_least (m k : Nat) (hm : 0 < m) : 1 < cntB m k → (cntB m k - 1) * m < k := by
  unfold cntB; split
  · omega
  · intro _
    have := Nat.div_add_mod (k + m - 1) m
    rw [Nat.sub_mul, Nat.mul_comm]; omega
theorem cnt_small (m k : Nat) (hm : 26 ≤ m) (hk : k ≤ 6000) : cntB m k < 256 := by
  by_cases h : 1 < cntB m k
  · have := cnt_least m k (by omega) h
    have : (cntB m k - 1) * 26 ≤ (cntB m k - 1) * m := Nat.mul_le_mul_left _ hm
    omega
  · omega

theorem parts_take (m : Nat) (b : List UInt8) : ∀ k, ((List.range k).flatMap fun i => partB m i b) = b.take (k * m)
  | 0 => by simp
  | k + 1 => by
    rw [List.range_succ, List.flatMap_append, parts_take m b k]
    simp only [List.flatMap_cons, List.flatMap_nil, List.append_nil, partB]
    rw [Nat.add_mul, Nat.one_mul, List.take_add]
theorem parts_all (m : Nat) (b : List UInt8) (hm : 0 < m) : ((List.range (cntB m b.length)).flatMap fun i => partB m i b) = b := by
  rw [parts_take, List.take_of_length_le (cnt_ge m b.length hm)]

theorem vols_len (m : Nat) (b : List UInt8) : (volsB m b).length = cntB m b.length := by simp [volsB]
theorem vols_get (m : Nat) (b : List UInt8) (i : Nat) (h : i < cntB m b.length) : (volsB m b).getD i [] = volB i (cntB m b.length) (crc pSum b) (partB m i b) := by
  simp [volsB, h]
theorem vols_mem {m : Nat} {b v : List UInt8} (h : v ∈ volsB m b) : ∃ i, i < cntB m b.length ∧ v = volB (i : Nat) (cntB m b.length) (crc pSum b) (partB m i b) := by
  simp only [volsB, List.mem_map, List.mem_range] at h
  obtain ⟨i, hi, rfl⟩ := h; exact ⟨i, hi, rfl⟩
theorem vols_nums (m : Nat) (b : List UInt8) (hs : cntB m b.length < 256) : (volsB m b).map numV = List.range (cntB m b.length) := by
  unfold volsB; rw [List.map_map]
  conv => rhs; rw [← List.map_id (List.range _)]
  apply List.map_congr_left; intro i hi
  simp only [List.mem_range] at hi
  simp only [Function.comp_apply, id_eq]
  exact volB_num i _ _ _ (by omega)

theorem volAt_mem {l : List (List UInt8)} {i : Nat} (h : i < l.length) : l.getD i [] ∈ l := by
  rw [List.getD_eq_getElem?_getD, List.getElem?_eq_getElem h]; exact List.getElem_mem h

/-- What lists of volumes of some bytes have in common. -/
structure Of (m : Nat) (b : List UInt8) (l : List (List UInt8)) : Prop where
  all : ∀ v ∈ l, v ∈ volsB m b
  hm : 26 ≤ m
  hb : b.length ≤ 6000
theorem Of.bad1 {m : Nat} {b : List UInt8} {l : List (List UInt8)} (h : Of m b l) (i : Nat) (hi : i < l.length) : bad1 l i = false := by
  obtain ⟨k, hk, e⟩ := vols_mem (h.all _ (volAt_mem hi))
  unfold Ytdjpkgaicmklmab.bad1; rw [e, volB_ok k _ _ _ hk (cnt_small m _ h.hm h.hb)]; rfl
theorem Of.id {m : Nat} {b : List UInt8} {l : List (List UInt8)} (h : Of m b l) (i : Nat) (hi : i < l.length) : idV (l.getD i []) = byt (cntB m b.length : Nat) :: fourI (crc pSum b) := by
  obtain ⟨k, hk, e⟩ := vols_mem (h.all _ (volAt_mem hi))
  rw [e, volB_id]
theorem Of.bad2 {m : Nat} {b : List UInt8} {l : List (List UInt8)} (h : Of m b l) (i : Nat) (hi : i < l.length) : bad2 l i = false := by
  unfold Ytdjpkgaicmklmab.bad2; rw [h.id i hi, h.id 0 (by omega)]; simp
theorem Of.cnt {m : Nat} {b : List UInt8} {l : List (List UInt8)} (h : Of m b l) (i : Nat) (hi : i < l.length) : cntV (l.getD i []) = cntB m b.length := by
  obtain ⟨k, hk, e⟩ := vols_mem (h.all _ (volAt_mem hi))
  rw [e, volB_cnt k _ _ _ (cnt_small m _ h.hm h.hb)]
theorem Of.sum {m : Nat} {b : List UInt8} {l : List (List UInt8)} (h : Of m b l) (i : Nat) (hi : i < l.length) : sumV (l.getD i []) = fourI (crc pSum b) := by
  obtain ⟨k, hk, e⟩ := vols_mem (h.all _ (volAt_mem hi))
  rw [e, volB_sum]

/-- The volumes of some bytes, in any order, make these bytes again. -/
theorem join_perm {m : Nat} {b : List UInt8} {l : List (List UInt8)} (hm : 26 ≤ m) (hb : b.length ≤ 6000) (hp : l.Perm (volsB m b)) : joinRd l = ⟨b, 0, 0⟩ := by
  have hs := cnt_small m _ hm hb
  have h : Of m b l := ⟨fun v hv => hp.mem_iff.mp hv, hm, hb⟩
  have hl : l.length = cntB m b.length := by rw [hp.length_eq, vols_len]
  have h0 : 0 < l.length := by rw [hl]; exact cnt_pos m _ (by omega)
  have hn : (l.map numV).Nodup := (hp.map numV).nodup_iff.mpr (by rw [vols_nums m b hs]; exact List.nodup_range)
  have h1 := h.bad1
  have h2 := h.bad2
  have h3 := nodup_bad3 hn
  have hat : ∀ n, n < l.length → bodyV (l.getD (atV l n) []) = partB m n b := by
    intro n hn'
    have ha := at_lt h1 h2 h3 (by rw [h.cnt 0 h0, hl]) hn'
    obtain ⟨k, hk, e⟩ := vols_mem (h.all _ (volAt_mem ha))
    have hq : numV (l.getD (atV l n) []) = n := by
      have := List.findIdx_getElem (w := ha) (p := fun v => numV v == n)
      rw [List.getD_eq_getElem?_getD, List.getElem?_eq_getElem ha]
      have e2 := of_decide_eq_true (p := numV (l[l.findIdx (fun v => numV v == n)]'ha) = n) (by simpa using this)
      exact e2
    rw [e, volB_num k _ _ _ (by omega)] at hq
    rw [e, volB_body, hq]
  have hA : allV l l.length = b := by
    have : allV l l.length = (List.range l.length).flatMap fun i => partB m i b := by
      unfold allV
      rw [List.flatMap_def, List.flatMap_def]
      congr 1
      apply List.map_congr_left; intro n hn'; exact hat n (List.mem_range.mp hn')
    rw [this, hl, parts_all m b (by omega)]
  unfold joinRd
  rw [firstOf_none.mpr h1, firstOf_none.mpr h2, firstOf_none.mpr h3]
  simp only
  rw [if_neg (by rw [h.cnt 0 h0]; omega), hA, h.sum 0 h0, if_neg (by simp)]

/-- Without one of them they are refused. -/
theorem join_less {m : Nat} {b : List UInt8} {l : List (List UInt8)} (hm : 26 ≤ m) (hb : b.length ≤ 6000) (hp : l.Sublist (volsB m b)) (hl : l.length ≠ cntB m b.length) : joinRd l = ⟨[], 16, 0⟩ := by
  have hs := cnt_small m _ hm hb
  have h : Of m b l := ⟨fun v hv => hp.subset hv, hm, hb⟩
  have hn : (l.map numV).Nodup := List.Nodup.sublist (hp.map numV) (by rw [vols_nums m b hs]; exact List.nodup_range)
  unfold joinRd
  rw [firstOf_none.mpr h.bad1, firstOf_none.mpr h.bad2, firstOf_none.mpr (nodup_bad3 hn)]
  simp only
  rw [if_pos]
  by_cases h0 : l.length = 0
  · exact Or.inl h0
  · right; rw [h.cnt 0 (by omega)]; exact hl

/-- With one twice they are refused, at the second one. -/
theorem join_more {m : Nat} {b v : List UInt8} (hm : 26 ≤ m) (hb : b.length ≤ 6000) (hv : v ∈ volsB m b) : joinRd (volsB m b ++ [v]) = ⟨[], 15, cntB m b.length⟩ := by
  have hs := cnt_small m _ hm hb
  have h : Of m b (volsB m b ++ [v]) := ⟨fun u hu => by rcases List.mem_append.mp hu with hu | hu; exact hu; rw [List.mem_singleton.mp hu]; exact hv, hm, hb⟩
  have hn : ((volsB m b).map numV).Nodup := by rw [vols_nums m b hs]; exact List.nodup_range
  unfold joinRd
  rw [firstOf_none.mpr h.bad1, firstOf_none.mpr h.bad2, (firstOf_some (i := cntB m b.length)).mpr]
  refine ⟨?_, by simp [vols_len], ?_⟩
  · simp only [Ytdjpkgaicmklmab.bad3, ← vols_len, List.take_left', List.any_eq_true, beq_iff_eq]
    exact ⟨v, hv, by simp⟩
  · intro j hj
    have hj' : j < (volsB m b).length := by rw [vols_len]; exact hj
    have := nodup_bad3 hn j hj'
    rw [← this]
    unfold Ytdjpkgaicmklmab.bad3
    rw [List.take_append_of_le_length (by omega), List.getD_eq_getElem?_getD, List.getElem?_append_left hj', ← List.getD_eq_getElem?_getD]

/-- One of them that is no volume any more is told. -/
theorem join_torn {m : Nat} {b v : List UInt8} {i : Nat} (hm : 26 ≤ m) (hb : b.length ≤ 6000) (hi : i < cntB m b.length) (hv : volOk v = false) : joinRd ((volsB m b).set i v) = ⟨[], 13, i⟩ := by
  have h : Of m b (volsB m b) := ⟨fun _ h => h, hm, hb⟩
  unfold joinRd
  rw [(firstOf_some (i := i)).mpr]
  refine ⟨?_, by simp [vols_len, hi], ?_⟩
  · simp [Ytdjpkgaicmklmab.bad1, vols_len, hi, hv]
  · intro j hj
    rw [← h.bad1 j (by rw [vols_len]; omega)]
    simp only [Ytdjpkgaicmklmab.bad1, List.getD_eq_getElem?_getD]
    rw [List.getElem?_set_ne (by omega)]

/-- One of bytes with another sum among them is told; in the first place the one behind it is. -/
theorem join_mixed {m : Nat} {b c : List UInt8} {i : Nat} (hm : 26 ≤ m) (hb : b.length ≤ 6000) (hc : c.length = b.length) (hs : crc pSum b ≠ crc pSum c) (h2 : 1 < cntB m b.length) (hi : i < cntB m b.length) :
    joinRd ((volsB m b).set i ((volsB m c).getD i [])) = ⟨[], 14, if i = 0 then 1 else i⟩ := by
  have hk := cnt_small m _ hm hb
  have hne : fourI (crc pSum b) ≠ fourI (crc pSum c) := fun e => hs (fourI_inj (crc_lt pSum_lt b) (crc_lt pSum_lt c) e)
  have h : Of m b (volsB m b) := ⟨fun _ h => h, hm, hb⟩
  have hcv := vols_get m c i (by rw [hc]; exact hi)
  rw [hc] at hcv
  have hlen : ((volsB m b).set i ((volsB m c).getD i [])).length = cntB m b.length := by simp [vols_len]
  have g0 : ((volsB m b).set i ((volsB m c).getD i [])).getD i [] = volB i (cntB m b.length) (crc pSum c) (partB m i c) := by
    rw [hcv]; simp [vols_len, hi]
  have g1 : ∀ j, j ≠ i → ((volsB m b).set i ((volsB m c).getD i [])).getD j [] = (volsB m b).getD j [] := by
    intro j hj; simp only [List.getD_eq_getElem?_getD]; rw [List.getElem?_set_ne (by omega)]
  have hid : ∀ j, j < cntB m b.length → j ≠ i → idV (((volsB m b).set i ((volsB m c).getD i [])).getD j []) = byt (cntB m b.length : Nat) :: fourI (crc pSum b) := by
    intro j hj hji; rw [g1 j hji, h.id j (by rw [vols_len]; exact hj)]
  have hidi : idV (((volsB m b).set i ((volsB m c).getD i [])).getD i []) = byt (cntB m b.length : Nat) :: fourI (crc pSum c) := by
    rw [g0, volB_id]
  have n1 : ∀ j, j < ((volsB m b).set i ((volsB m c).getD i [])).length → Ytdjpkgaicmklmab.bad1 ((volsB m b).set i ((volsB m c).getD i [])) j = false := by
    intro j hj
    rw [hlen] at hj
    unfold Ytdjpkgaicmklmab.bad1
    by_cases hji : j = i
    · rw [hji, g0, volB_ok i _ _ _ hi hk]; rfl
    · rw [g1 j hji]; exact h.bad1 j (by rw [vols_len]; exact hj)
  unfold joinRd
  rw [firstOf_none.mpr n1, (firstOf_some (i := if i = 0 then 1 else i)).mpr]
  rw [hlen]
  by_cases h0 : i = 0
  · rw [if_pos h0]
    refine ⟨?_, h2, ?_⟩
    · unfold Ytdjpkgaicmklmab.bad2; rw [hid 1 h2 (by omega)]
      have := hidi; rw [h0] at this; rw [h0, this]; simp [hne]
    · intro j hj; unfold Ytdjpkgaicmklmab.bad2; rw [show j = 0 by omega]; simp
  · rw [if_neg h0]
    refine ⟨?_, hi, ?_⟩
    · unfold Ytdjpkgaicmklmab.bad2; rw [hidi, hid 0 (by omega) (fun e => h0 e.symm)]; simp [hne.symm]
    · intro j hj; unfold Ytdjpkgaicmklmab.bad2; rw [hid j (by omega) (by omega), hid 0 (by omega) (fun e => h0 e.symm)]; simp

/-- Some bits turned over within 32 consecutive ones: no volume any more. -/
theorem vol_torn {i n : Nat} {s : Nat} {p v : List UInt8} (a e e' c : List Bool) (hs : allBits (volB i n s p) = a ++ e ++ c) (ht : allBits v = a ++ e' ++ c)
    (hl : e.length = e'.length) (h32 : e.length ≤ 32) (hne : e ≠ e') : volOk v = false := by
  cases hv : volOk v with
  | false => rfl
  | true =>
    exfalso
    simp only [volOk, Bool.and_eq_true, decide_eq_true_eq, beq_iff_eq] at hv
    obtain ⟨⟨⟨h14, _⟩, _⟩, hsum⟩ := hv
    have hv2 : v = v.take (v.length - 4) ++ fourI (crc pSum (v.take (v.length - 4))) := by
      rw [hsum, List.take_append_drop]
    rw [hv2] at ht
    exact hne (torn pSum_lt pSum_odd _ _ a e e' c hs ht hl h32)
end Go.Proofs.Ytdjpkgaicmklmab

/- A list in another order (shuffled): without the program. -/
namespace Go.Proofs.Ytdjpkgaicmklmab
open Go.RowKit

def swapL (l : List (List UInt8)) (a b : Nat) : List (List UInt8) := (l.set a (l.getD b [])).set b (l.getD a [])
theorem swap_len (l : List (List UInt8)) (a b : Nat) : (swapL l a b).length = l.length := by simp [swapL]
theorem swap_perm (l : List (List UInt8)) (a b : Nat) (ha : a < l.length) (hb : b < l.length) : (swapL l a b).Perm l := by
  have ea : l.getD a [] = l[a] := by simp [ha]
  have eb : l.getD b [] = l[b] := by simp [hb]
  have pa : ∀ x, l[a] = x → 0 < l.count x := fun x h => List.count_pos_iff.mpr (h ▸ List.getElem_mem ha)
  rw [List.perm_iff_count]
  intro x
  unfold swapL
  rw [ea, eb, List.count_set (by simpa using hb), List.count_set ha]
  have hg : (l.set a l[b])[b]'(by simpa using hb) = l[b] := by
    rw [List.getElem_set]; split
    · rfl
    · rfl
  rw [hg]
  have := pa x
  by_cases h1 : l[a] = x
  · by_cases h2 : l[b] = x
    · simp [h1, h2]; have := this h1; omega
    · simp [h1, h2]; have := this h1; omega
  · by_cases h2 : l[b] = x
    · simp [h1, h2]
    · simp [h1, h2]
/-- As 'shuffled' does it: the i-th turn changes a chosen place (below the length) with place i mod length. -/
def shufL (f : Nat → Nat) (l : List (List UInt8)) : Nat → List (List UInt8)
  | 0 => l
  | k + 1 => swapL (shufL f l k) (f k) (k % l.length)
theorem shuf_len (f : Nat → Nat) (l : List (List UInt8)) : ∀ k, (shufL f l k).length = l.length
  | 0 => rfl
  | k + 1 => by simp only [shufL]; rw [swap_len, shuf_len f l k]
theorem shuf_perm (f : Nat → Nat) (l : List (List UInt8)) (hf : ∀ k, f k < l.length) : ∀ k, (shufL f l k).Perm l
  | 0 => List.Perm.refl _
  | k + 1 => by
    have h0 : 0 < l.length := Nat.lt_of_le_of_lt (Nat.zero_le _) (hf 0)
    exact (swap_perm _ _ _ (by rw [shuf_len]; exact hf k) (by rw [shuf_len]; exact Nat.mod_lt _ h0)).trans (shuf_perm f l hf k)
end Go.Proofs.Ytdjpkgaicmklmab

/- parcelkeep's volumes and shuffled, walked. -/
namespace Go.Proofs.Ytdjpkgaicmklmab
open Go.RowKit

/-- How long the volumes are. -/
def volN (size : Int) : Int := if 40 ≤ size ∧ size ≤ 4000 then size else 40 + pickI size 60
theorem volN_range (size : Int) : 40 ≤ volN size ∧ volN size ≤ 4000 := by
  unfold volN
  split
  · assumption
  · have := pickI_lt size 60 (by omega); omega

set_option maxRecDepth 100000 in
set_option maxHeartbeats 4000000 in
theorem volumes_any (size : Int) (w : World) (hs : I64 size) :
    Calls Try.prog 12 #[.int .i64 size] w fun e w' => e = .returned (.int .i64 (volN size)) ∧ w' = w := by
  obtain ⟨p1, p2⟩ := pickI_lt size 60 (by omega)
  have HS : Hid (I64 size) := hs
  clear hs
  by_cases h : 40 ≤ size ∧ size ≤ 4000
  · have E : Hid (volN size = size) := by show _ = _; unfold volN; rw [if_pos h]
    obtain ⟨h1, h2⟩ := h
    go_enter Try.func12, Try.ntmps12
    go_wp2_with fail
    go_ret
    exact ⟨by rw [E.out]; rfl, rfl⟩
  · have E : Hid (volN size = 40 + pickI size 60) := by show _ = _; unfold volN; rw [if_neg h]
    by_cases h1 : 40 ≤ size
    · have h2 : ¬ size ≤ 4000 := fun h2 => h ⟨h1, h2⟩
      clear h
      go_enter Try.func12, Try.ntmps12
      go_wp2_with fail
      refine (pick_any size 60 _ HS.out (by omega) (by omega)).mono ?_
      rintro e w' ⟨rfl, hw⟩
      subst hw
      generalize pickI size 60 = p at *
      go_wp2_with fail
      go_ret
      exact ⟨by rw [E.out]; rfl, rfl⟩
    · clear h
      go_enter Try.func12, Try.ntmps12
      go_wp2_with fail
      refine (pick_any size 60 _ HS.out (by omega) (by omega)).mono ?_
      rintro e w' ⟨rfl, hw⟩
      subst hw
      generalize pickI size 60 = p at *
      go_wp2_with fail
      go_ret
      exact ⟨by rw [E.out]; rfl, rfl⟩

theorem range_srows (l : List (List UInt8)) (N : Nat) (hN : N = l.length) : (List.range N).map (fun i => [Value.string (str (l.getD i []))]) ++ (List.replicate N [Value.string ⟨#[]⟩]).drop N = srows l := by
  subst hN
  rw [List.drop_of_length_le (by simp), List.append_nil]
  apply List.ext_getElem?
  intro i
  by_cases hi : i < l.length
  · simp [hi]
  · simp [hi]

/-- What shuffled makes of a list, by raw numbers. -/
def shufR (f : Nat → Int) (l : List (List UInt8)) (k : Nat) : List (List UInt8) := if l.length = 0 then l else shufL (fun i => (pickI (f i) l.length).toNat) l k
theorem shufR_perm (f : Nat → Int) (l : List (List UInt8)) (k : Nat) : (shufR f l k).Perm l := by
  unfold shufR
  split
  · exact List.Perm.refl _
  · exact shuf_perm _ _ (fun i => by have := pickI_lt (f i) l.length (by omega); omega) k

set_option maxRecDepth 100000 in
set_option maxHeartbeats 4000000 in
theorem shuffled_any (l : List (List UInt8)) (ad0 : Option Addr) (N cap0 : Nat) (n : Nat) (f : Nat → Int) (am : Option Addr) (cm : Nat) (w : World) (hL : Lies w ad0 N 1 (fun i => [.string (str (l.getD i []))])) (hN : N = l.length) (hb : N ≤ 1099511627776) (hM : Lies w am n 1 (iCells f)) (hn : n ≤ 140737488355328) (hI : ∀ i, i < n → I64 (f i)) :
    Calls Try.prog 14 #[.slice ad0 N cap0, .slice am n cm] w fun e w' => ∃ g ad, e = .returned (.slice ad N N) ∧ ad = some ⟨g, 0, none⟩ ∧ Own w' g 9 1 (srows (shufR f l n)) ∧ Below w.heap.size w w' := by
  have HN : Hid (N = l.length) := hN
  have HC := range_srows l N hN
  have HCO : Hid ((List.range N).map (fun i => [Value.string (str (l.getD i []))]) ++ (List.replicate N [Value.string ⟨#[]⟩]).drop N = srows l) := HC
  have HM : Hid (Lies w am n 1 (iCells f)) := hM
  have HI : Hid (∀ i, i < n → I64 (f i)) := hI
  clear hN HC hM hI
  go_enter Try.func14, Try.ntmps14
  go_wp2_with (first
    | (at_make; refine wpList_make_ones (by rfl) _ _ 33 (by rfl) 9 (.string ⟨#[]⟩) 16 Try.underlying33 (by kernel_rfl) rfl N _ ?_ (by rfl) (by rfl) ?_ ?_ ?_; (omega); (omega); (omega); intro g ad w1 he hg hl1 o1 hb1)
    | (refine wpList_copy_rows (by rfl) _ _ 33 33 (by rfl) 9 1 Try.underlying33 (by kernel_rfl) g ad he N _ N _ _ (by rfl) (by rfl) (fun i => [.string (str (l.getD i []))]) _ o1 ?_ ?_ (hL.below hb1) ?_ ?_ ?_; (simp); (omega); (intro i _; rfl); (intro i _ v hv; simp at hv; subst hv; rfl); intro w2 o2 u2))
  rw [HCO.out] at o2
  have hb2 := u2.below hb1 hg
  clear o1 hb1 u2 hl1
  have hx2 := srows_bx o2
  clear o2
  by_cases h0 : N = 0
  · have HR : Hid (shufR f l n = l) := by show _ = _; unfold shufR; rw [if_pos (by rw [← HN.out]; exact h0)]
    have HX2 : Hid (Bx w2 g 9 (strs l)) := hx2
    have hN0 : ¬ (0 < (N : Int)) := by omega
    clear h0 hx2
    by_cases hn0 : 0 < n
    · go_loopw [6, 7, 8, 9] (fun u _ _ _ wr => u = .int .i64 0 ∧ wr = w2) (fun _ _ _ _ _ => 0)
      case atStart => exact ⟨rfl, rfl⟩
      case round =>
        obtain ⟨rfl, hw⟩ := hrel
        subst hw
        go_wp2_with fail
        go_ret
        exact ⟨g, ad, rfl, he.out, by rw [HR.out]; exact bx_srows HX2.out, hb2⟩
    · go_loopw [6, 7, 8, 9] (fun u _ _ _ wr => u = .int .i64 0 ∧ wr = w2) (fun _ _ _ _ _ => 0)
      case atStart => exact ⟨rfl, rfl⟩
      case round =>
        obtain ⟨rfl, hw⟩ := hrel
        subst hw
        go_wp2_with fail
        go_ret
        exact ⟨g, ad, rfl, he.out, by rw [HR.out]; exact bx_srows HX2.out, hb2⟩
  · have HR : Hid (shufR f l n = shufL (fun i => (pickI (f i) l.length).toNat) l n) := by show _ = _; unfold shufR; rw [if_neg (by rw [← HN.out]; exact h0)]
    have hN0 : 0 < N := by omega
    go_loopw [6, 7, 8, 9] (fun u _ _ _ wr => ∃ i : Nat, i ≤ n ∧ u = .int .i64 i ∧ Bx wr g 9 (strs (shufL (fun i => (pickI (f i) l.length).toNat) l i)) ∧ Below w.heap.size w wr) (fun u _ _ _ _ => n - (intOf u).toNat)
    case atStart => exact ⟨0, by omega, rfl, hx2, hb2⟩
    case round =>
      obtain ⟨i, hi, rfl, ho, hbw⟩ := hrel
      by_cases hlt : i < n
      · obtain ⟨b, o, hbl, hix, hc⟩ := (HM.out.below hbw).at cm (P := Try.prog) (t := 23) (by kernel_rfl) (by kernel_rfl) hlt
        have c0 : wr.cell? ⟨b, o, none⟩ = some (.int .i64 (f i)) := hc 0 _ (by omega) rfl
        have HIi := HI.out i hlt
        have HII : Hid (I64 (f i)) := HIi
        obtain ⟨p1, p2⟩ := pickI_lt (f i) (N : Int) (by omega)
        obtain ⟨a, ha⟩ : ∃ a : Nat, pickI (f i) (N : Int) = (a : Int) := ⟨(pickI (f i) (N : Int)).toNat, by omega⟩
        have haN : a < N := by omega
        obtain ⟨q, hq⟩ : ∃ q, q = i % N := ⟨_, rfl⟩
        have hqN : q < N := by rw [hq]; exact Nat.mod_lt _ hN0
        have hmod : (i : Int) % (N : Int) = (q : Int) := by rw [hq]; simp
        have htm : Int.tmod (i : Int) (N : Int) = (q : Int) := by rw [hq]; exact Int.ofNat_tmod i N
        have HA : Hid (pickI (f i) (N : Int) = (a : Int)) := ha
        have HL1 : Hid ((shufL (fun i => (pickI (f i) l.length).toNat) l i).length = N) := by show _ = _; rw [shuf_len, HN.out]
        have HS : Hid (shufL (fun i => (pickI (f i) l.length).toNat) l (i + 1) = swapL (shufL (fun i => (pickI (f i) l.length).toNat) l i) a q) := by
          show _ = _
          simp only [shufL]
          rw [← HN.out, ha, hq]; rfl
        clear hc HIi p1 p2 ha hq
        generalize shufL (fun i => (pickI (f i) l.length).toNat) l i = S at *
        go_wp2_with fail
        refine (pick_any (f i) (N : Int) _ HII.out (by omega) (by omega)).mono ?_
        rintro e w' ⟨rfl, hw⟩
        subst hw
        rw [HA.out]
        have x1 := fun w' => Own.idx he (P := Try.prog) (t := 33) (m := 1) N N (by kernel_rfl) (by kernel_rfl) (k := a) haN (a : Int) rfl w'
        have x2 := fun w' => Own.idx he (P := Try.prog) (t := 33) (m := 1) N N (by kernel_rfl) (by kernel_rfl) (k := q) hqN (q : Int) rfl w'
        simp only [Nat.mul_one] at x1 x2
        have ca := (ho.cell a).trans (strs_at (by rw [HL1.out]; exact haN))
        have cq := (ho.cell q).trans (strs_at (by rw [HL1.out]; exact hqN))
        have hlS : (strs S).length = N := by simp [strs]; exact HL1.out
        clear c0 hix
        have HSW : Hid (swapL S a q = (S.set a (S.getD q [])).set q (S.getD a [])) := rfl
        generalize S.getD a [] = va at *
        generalize S.getD q [] = vq at *
        go_wp2_with (first
          | (refine wpList_bput (by rfl) _ _ 9 (by rfl) g 9 a (by rfl) _ (.string (str vq)) (by rfl) ho (by kernel_rfl) (by omega) (by rfl) (by rfl) ?_; intro w5 ho5 hu5; clear ca cq)
          | (refine wpList_bput (by rfl) _ _ 9 (by rfl) g 9 q (by rfl) _ (.string (str va)) (by rfl) ho5 (by kernel_rfl) (by rw [List.length_set]; omega) (by rfl) (by rfl) ?_; intro w6 ho6 hu6))
        rw [strs_set, strs_set] at ho6
        go_roundw
        case rel => exact ⟨i + 1, by omega, by go_num, by rw [HS.out, HSW.out]; exact ho6, hu6.below (hu5.below hbw hg) hg⟩
        case measure => simp [intOf]; omega
      · have hin : i = n := by omega
        subst hin
        go_wp2_with fail
        go_ret
        exact ⟨g, ad, rfl, he.out, by rw [HR.out]; exact bx_srows ho, hbw⟩
end Go.Proofs.Ytdjpkgaicmklmab

/- Lists that came out and that their owner writes over with a mark: append of marks, stores, and what stays. -/
namespace Go.Proofs.Ytdjpkgaicmklmab
open Go.RowKit

/-- n rows of one mark. -/
def rep (n : Nat) (mk : List Value) : List Value := (List.replicate n mk).flatten
theorem rep_length (n : Nat) (mk : List Value) : (rep n mk).length = n * mk.length := by simp [rep]
theorem rep_add (n c : Nat) (mk : List Value) : rep (n + c) mk = rep n mk ++ rep c mk := by simp [rep, ← List.replicate_append_replicate]
theorem rep_one (mk : List Value) : rep 1 mk = mk := by simp [rep]
theorem rep_zero (mk : List Value) : rep 0 mk = [] := rfl
theorem rep_at (mk : List Value) : ∀ (n j : Nat), j < n * mk.length → (rep n mk)[j]? = mk[j % mk.length]?
  | 0, j, h => by simp at h
  | n + 1, j, h => by
    have e : rep (n + 1) mk = mk ++ rep n mk := by simp [rep, List.replicate_succ]
    rw [e]
    by_cases hj : j < mk.length
    · rw [List.getElem?_append_left hj, Nat.mod_eq_of_lt hj]
    · rw [List.getElem?_append_right (by omega), rep_at mk n (j - mk.length) (by rw [Nat.add_mul] at h; omega)]
      congr 1
      conv => rhs; rw [show j = (j - mk.length) + mk.length by omega]
      rw [Nat.add_mod_right]
theorem rep_eq {mk xs : List Value} {n : Nat} (hl : xs.length = n * mk.length) (h : ∀ j, j < n * mk.length → xs[j]? = mk[j % mk.length]?) : xs = rep n mk := by
  apply List.ext_getElem?
  intro j
  by_cases hj : j < n * mk.length
  · rw [h j hj, rep_at mk n j hj]
  · rw [List.getElem?_eq_none (by omega), List.getElem?_eq_none (by rw [rep_length]; omega)]

/-- Nothing but block g is changed of what there was; in it what was marked is so still. -/
structure Kp (g : Option Nat) (mk : List Value) (w w' : World) : Prop where
  os : w'.os = w.os
  tape : w'.tape = w.tape
  output : w'.output = w.output
  size : w.heap.size ≤ w'.heap.size
  block : ∀ k, k < w.heap.size → g ≠ some k → w'.heap[k]? = w.heap[k]?
  mark : ∀ k cur e, g = some k → w.heap[k]? = some (.cells cur e) → ∃ cur', w'.heap[k]? = some (.cells cur' e) ∧ cur'.size = cur.size ∧ ∀ j, cur[j]? = mk[j % mk.length]? → cur'[j]? = mk[j % mk.length]?

theorem Kp.of_below {g : Option Nat} {mk : List Value} {w w' : World} (h : Below w.heap.size w w') : Kp g mk w w' :=
  ⟨h.os, h.tape, h.output, h.size, fun k hk _ => h.block k hk, fun k cur e _ hc => ⟨cur, by rw [h.block k (Array.getElem?_eq_some_iff.1 hc).1]; exact hc, rfl, fun _ h => h⟩⟩
theorem Kp.below {g : Option Nat} {mk : List Value} {B : Nat} {w0 w w' : World} (h : Kp g mk w w') (hb : Below B w0 w) (hB : B ≤ w.heap.size) (hg : ∀ k, g = some k → B ≤ k) : Below B w0 w' :=
  ⟨h.os.trans hb.os, h.tape.trans hb.tape, h.output.trans hb.output, Nat.le_trans hb.size h.size, fun k hk => (h.block k (by omega) (fun e => by have := hg k e; omega)).trans (hb.block k hk)⟩
theorem Bx.kp {w w' : World} {k e : Nat} {cs mk : List Value} {g : Option Nat} (b : Bx w k e cs) (h : Kp g mk w w') (hg : g ≠ some k) : Bx w' k e cs := ⟨by rw [h.block k b.lt hg]; exact b.h⟩
theorem Vec.kpo {w w' : World} {B e m : Nat} {ad : Option Addr} {n cap : Nat} {xs mk : List Value} {g : Option Nat} (h : Vec w B e m ad n cap xs) (hk : Kp g mk w w') (hg : ∀ b, ad = some b → g ≠ some b.block) : Vec w' B e m ad n cap xs := by
  refine ⟨h.1, ?_⟩
  rcases h.2 with h2 | ⟨k, c, cur, hv, hB, hc, r⟩
  · exact Or.inl h2
  · refine Or.inr ⟨k, c, cur, hv, hB, ?_, r⟩
    simp at hv
    rw [hk.block k (Array.getElem?_eq_some_iff.1 hc).1 (hg _ hv.1)]; exact hc
theorem Vec.kp {w w' : World} {B e m : Nat} {ad : Option Addr} {n cap : Nat} {mk mk' : List Value} {g : Option Nat} (h : Vec w B e m ad n cap (rep n mk)) (hm : mk.length = m) (hk : Kp g mk' w w') (hg : ∀ b, ad = some b → g = some b.block → mk = mk') : Vec w' B e m ad n cap (rep n mk) := by
  refine ⟨h.1, ?_⟩
  rcases h.2 with h2 | ⟨k, c, cur, hv, hB, hc, h1, h3, h4, h5⟩
  · exact Or.inl h2
  · have hv' := hv
    simp at hv'
    by_cases hgk : g = some k
    · obtain rfl := hg _ hv'.1 hgk
      obtain ⟨cur', hc', hs, hmk⟩ := hk.mark k cur e hgk hc
      refine Or.inr ⟨k, c, cur', hv, hB, hc', h1, h3, by rw [hs, h4], ?_⟩
      subst hm
      refine rep_eq ?_ ?_
      · simp only [List.length_take, Array.length_toList, hs, h4]
        exact Nat.min_eq_left (Nat.mul_le_mul_right _ h1)
      · intro j hj
        rw [List.getElem?_take_of_lt hj, Array.getElem?_toList]
        apply hmk
        have := rep_at mk n j hj
        rw [← h5, List.getElem?_take_of_lt hj, Array.getElem?_toList] at this
        exact this
    · refine Or.inr ⟨k, c, cur, hv, hB, ?_, h1, h3, h4, h5⟩
      rw [hk.block k (Array.getElem?_eq_some_iff.1 hc).1 hgk]; exact hc

/-- Blocks of two types are two blocks. -/
theorem Vec.apart {w : World} {B B' e e' m m' : Nat} {ad ad' : Option Addr} {n n' cap cap' : Nat} {xs xs' : List Value} (h : Vec w B e m ad n cap xs) (h' : Vec w B' e' m' ad' n' cap' xs') (he : e ≠ e') : ∀ b, ad = some b → ad'.map (·.block) ≠ some b.block := by
  intro b hb hb'
  rcases h.2 with ⟨h2, _⟩ | ⟨k, c, cur, hv, hB, hc, _⟩
  · simp at h2; rw [h2.1] at hb; cases hb
  · rcases h'.2 with ⟨h2, _⟩ | ⟨k', c', cur', hv', hB', hc', _⟩
    · simp at h2; rw [h2.1] at hb'; cases hb'
    · simp at hv hv'
      rw [hv.1] at hb; cases hb
      rw [hv'.1] at hb'; simp at hb'
      subst hb'
      rw [hc] at hc'
      simp at hc'
      exact he hc'.2
theorem Bx.apart {w : World} {B e e' m k : Nat} {ad : Option Addr} {n cap : Nat} {xs cs : List Value} (b : Bx w k e' cs) (h : Vec w B e m ad n cap xs) (he : e ≠ e') : ad.map (·.block) ≠ some k := by
  intro hb
  rcases h.2 with ⟨h2, _⟩ | ⟨k', c, cur, hv, hB, hc, _⟩
  · simp at h2; rw [h2.1] at hb; cases hb
  · simp at hv
    rw [hv.1] at hb; simp at hb
    subst hb
    have := b.h
    rw [hc] at this
    simp at this
    exact he this.2
theorem Bx.frozen {w : World} {g e : Nat} {cs : List Value} (b : Bx w g e cs) (k : Nat) : w.frozen? ⟨g, k, none⟩ = false := by
  simp [World.frozen?, b.h]
theorem Bx.setCell {w : World} {g e : Nat} {cs : List Value} (b : Bx w g e cs) (k : Nat) (v : Value) : Bx (w.setCell ⟨g, k, none⟩ v) g e (cs.set k v) := by
  refine ⟨?_⟩
  rw [heap_setCell_same w g k cs.toArray e v b.h]
  simp

section
variable {P : Program} {w : World} {ops : Array Oper} {rest : List Oper} {o : Oper} {a : Act} {Q : Exit → Act → World → Prop}

theorem run_append_marks (B : Nat) (t ty e : TypeId) (i : TypeInfo) (z : Value) (size bytes : Nat) (ht : P.underlying t = some (.slice e)) (hi : P.info? e = some i) (hz : i.zero = some z)
    (hsize : i.size = size) (hby : i.bytes = bytes) (hzs : z.cells.size = size) (_hsz : 0 < size)
    (ad : Option Addr) (n cap : Nat) (xs : List Value) (hown : Vec w B e size ad n cap xs)
    (a : Addr) (m c : Nat) (mk : List Value) (hl : mk.length = size) (hnews : ∀ j u, (rep m mk)[j]? = some u → w.cell? (a.add j) = some u) (h1 : ∀ u ∈ mk, u.oneCell' = true) (hm : 0 < m)
    (h63 : n + m ≤ maxLen) (hbytes : (n + m) * bytes ≤ 140737488355328) (hbase : B ≤ w.heap.size) :
    ∃ ad' cap' w', (Builtin.append_ #[t, t] ty #[.slice ad n cap, .slice (some a) m c]).run P w = .ok (.slice ad' (n + m) cap') w' ∧ Vec w' B e size ad' (n + m) cap' (xs ++ rep m mk) ∧ Kp (ad.map (·.block)) mk w w' := by
  subst hsize
  subst hby
  have hsmall : n + m ≤ 9223372036854775807 := by simp only [maxLen] at h63; omega
  have hln : (rep m mk).length = m * i.size := by rw [rep_length, hl]
  have h1' : ∀ u ∈ rep m mk, u.oneCell' = true := by
    intro u hu
    simp only [rep, List.mem_flatten, List.mem_replicate] at hu
    obtain ⟨r, ⟨_, rfl⟩, hu⟩ := hu
    exact h1 u hu
  have hlen : (xs ++ rep m mk).length = (n + m) * i.size := by rw [List.length_append, hown.1, hln, Nat.add_mul]
  have grown : ∀ (old : Nat), old < n + m →
      Vec (w.drew.alloc (.cells (xs.toArray ++ (rep m mk).toArray ++ Builtin.zeroCells z.cells (grownCap w (n + m) old e - (n + m))) e)) B e i.size (some ⟨w.heap.size, 0, none⟩) (n + m) (grownCap w (n + m) old e) (xs ++ rep m mk) ∧
      Below w.heap.size w (w.drew.alloc (.cells (xs.toArray ++ (rep m mk).toArray ++ Builtin.zeroCells z.cells (grownCap w (n + m) old e - (n + m))) e)) := by
    intro old ho
    have hge := grownCap_ge w (n + m) old e
    have hcm : grownCap w (n + m) old e ≤ maxLen := grownCap_le_maxLen w (n + m) old e h63
    refine ⟨⟨hlen, .inr ⟨w.heap.size, _, _, rfl, hbase, heap_alloc_new w.drew _, hge, hcm, ?_, ?_⟩⟩, (Below.refl _ w).drew.alloc (by simp) _⟩
    · simp only [Array.size_append, List.size_toArray, size_zeroCells, hzs, hown.1, hln, ← Nat.add_mul]
      congr 1
      omega
    · simp only [Array.toList_append, List.append_assoc]
      rw [← List.append_assoc, ← hlen]
      exact List.take_left
  rcases hown.2 with ⟨hv, rfl⟩ | ⟨g, cap0, cur, hv, hbg, hg, hnc, hcm, hcs, htake⟩
  · simp at hv
    obtain ⟨rfl, rfl⟩ := hv
    have hx : xs = [] := List.eq_nil_of_length_eq_zero (by have := hown.1; omega)
    subst hx
    have hr := run_append_nil (P := P) w t ty e i z ht hi hz a m c (rep m mk) hln hnews (by omega) (by omega) (by have hb := hbytes; simp only [Nat.zero_add] at hb; omega)
    have hgr := grown 0 (by omega)
    simp only [Nat.zero_add, List.nil_append, Array.empty_append] at hgr ⊢
    exact ⟨_, _, _, hr, hgr.1, Kp.of_below hgr.2⟩
  · simp at hv
    obtain ⟨rfl, rfl⟩ := hv
    by_cases hroom : n + m ≤ cap
    · have hfit : n * i.size + (rep m mk).length ≤ cur.size := by rw [hln, hcs, ← Nat.add_mul]; exact Nat.mul_le_mul_right _ hroom
      have hr := run_append_room (P := P) w t ty e i ht hi g n cap cur hg a m c (rep m mk) hln hnews h1' hroom hfit
      refine ⟨_, _, _, hr, ⟨hlen, .inr ⟨g, cap, _, rfl, hbg, setRow_heap w g cur _ e _ hg, hroom, hcm, ?_, ?_⟩⟩, ⟨rfl, rfl, rfl, by simp, fun k _ hk => setRow_other w g k _ (fun e => hk (by simp [e])), ?_⟩⟩
      · simp only [List.size_toArray, List.length_append, List.length_take, List.length_drop, Array.length_toList]
        omega
      · rw [htake, ← hlen]
        exact List.take_left
      · intro k cur1 e1 hk hc1
        simp at hk
        subst hk
        rw [hg] at hc1
        simp at hc1
        obtain ⟨rfl, rfl⟩ := hc1
        refine ⟨_, setRow_heap w g cur _ e _ hg, ?_, ?_⟩
        · simp only [List.size_toArray, List.length_append, List.length_take, List.length_drop, Array.length_toList]
          omega
        · intro j hj
          simp only [List.getElem?_toArray]
          by_cases h1 : j < n * i.size
          · rw [List.append_assoc, List.getElem?_append_left (by simp; omega), List.getElem?_take_of_lt h1, Array.getElem?_toList]; exact hj
          · by_cases h2 : j < n * i.size + (rep m mk).length
            · rw [List.getElem?_append_left (by simp; omega), List.getElem?_append_right (by simp; omega)]
              have e1 : (cur.toList.take (n * i.size)).length = n * i.size := by simp; omega
              rw [e1, rep_at mk m (j - n * i.size) (by rw [hl]; omega), hl]
              congr 1
              conv => rhs; rw [show j = (j - n * i.size) + n * i.size by omega]
              rw [Nat.add_mul_mod_self_right]
            · rw [List.getElem?_append_right (by simp; omega)]
              have e1 : (cur.toList.take (n * i.size) ++ rep m mk).length = n * i.size + (rep m mk).length := by simp; omega
              rw [e1, List.getElem?_drop, Array.getElem?_toList, show n * i.size + (rep m mk).length + (j - (n * i.size + (rep m mk).length)) = j by omega]
              exact hj
    · have holds : ∀ j u, xs[j]? = some u → w.cell? ((⟨g, 0, none⟩ : Addr).add j) = some u := World.ownsRow.cells (g := g) hown rfl
      have hr := run_append_grow (P := P) w t ty e i z ht hi hz ⟨g, 0, none⟩ n cap xs hown.1 holds a m c (rep m mk) hln hnews (by omega) (by omega) (growslice_fits (by omega) hbytes)
      have hgr := grown cap (by omega)
      exact ⟨_, _, _, hr, hgr.1, Kp.of_below hgr.2⟩

/-- 'a := append(l, m, ..)'. -/
theorem wpList_pushk (hgd : o.guard = none) (s x : Operand) (t : TypeId) (ho : o.op = .call { callee := .builtin .append, args := #[s, x], argTypes := #[t, t] })
    (B e m bytes : Nat) (z : Value) (ht : P.underlying t = some (.slice e)) (hinfo : (P.info? e).map (fun i => (i.zero, i.size, i.bytes)) = some (some z, m, bytes)) (hzs : z.cells.size = m) (hm : 0 < m)
    (ad : Option Addr) (n cap : Nat) (xs : List Value) (hs : a.eval s = .slice ad n cap) (hown : Vec w B e m ad n cap xs)
    (ad1 : Addr) (k c : Nat) (mk : List Value) (hx : a.eval x = .slice (some ad1) k c) (hl : mk.length = m) (hnews : ∀ j u, (rep k mk)[j]? = some u → w.cell? (ad1.add j) = some u) (h1 : ∀ u, u ∈ mk → u.oneCell' = true) (hk : 0 < k)
    (hbytes : (n + k) * bytes ≤ 140737488355328) (hn : n + k ≤ 9223372036854775807) (hB : B ≤ w.heap.size)
    (h : ∀ ad' cap' w', Vec w' B e m ad' (n + k) cap' (xs ++ rep k mk) → Kp (ad.map (·.block)) mk w w' → wpList P ops Q rest (a.put o.dst (.slice ad' (n + k) cap')) w') : wpList P ops Q (o :: rest) a w := by
  obtain ⟨i, hi, hzz⟩ := Option.map_eq_some_iff.1 hinfo
  simp only [Prod.mk.injEq] at hzz
  obtain ⟨hz, hsz, hby⟩ := hzz
  obtain ⟨ad', cap', w', hr, h2, h3⟩ := run_append_marks (P := P) (w := w) B t o.type e i z m bytes ht hi hz hsz hby hzs hm ad n cap xs hown ad1 k c mk hl hnews h1 hk (by unfold maxLen; omega) hbytes hB
  refine wpList_plain hgd fun K hK => ?_
  unfold Oper.wp execOp
  simp only [ho, resolve, invoke, builtin, Sem.run_bind, Sem.run_pure, Result.andThen_ok, List.map_toArray, List.map_cons, List.map_nil, hs, hx, hr]
  exact hK _ _ (h ad' cap' w' h2 h3)
/-- The same within a region that draws its order. -/
theorem step_pushk {K : Act → World → Prop} {E : Prop} (hgd : o.guard = none) (s x : Operand) (t : TypeId) (ho : o.op = .call { callee := .builtin .append, args := #[s, x], argTypes := #[t, t] })
    (B e m bytes : Nat) (z : Value) (ht : P.underlying t = some (.slice e)) (hinfo : (P.info? e).map (fun i => (i.zero, i.size, i.bytes)) = some (some z, m, bytes)) (hzs : z.cells.size = m) (hm : 0 < m)
    (ad : Option Addr) (n cap : Nat) (xs : List Value) (hs : a.eval s = .slice ad n cap) (hown : Vec w B e m ad n cap xs)
    (ad1 : Addr) (c : Nat) (mk : List Value) (hx : a.eval x = .slice (some ad1) 1 c) (hl : mk.length = m) (hnews : ∀ j u, mk[j]? = some u → w.cell? (ad1.add j) = some u) (h1 : ∀ u, u ∈ mk → u.oneCell' = true)
    (hbytes : (n + 1) * bytes ≤ 140737488355328) (hn : n + 1 ≤ 9223372036854775807) (hB : B ≤ w.heap.size)
    (h : ∀ ad' cap' w', Vec w' B e m ad' (n + 1) cap' (xs ++ mk) → Kp (ad.map (·.block)) mk w w' → K (a.put o.dst (.slice ad' (n + 1) cap')) w') :
    if Region.wanted o (yielded ops a.tmps) = true then Oper.wp P o a w K Q else E := by
  have hw : Region.wanted o (yielded ops a.tmps) = true := by simp [Region.wanted, hgd]
  rw [if_pos hw]
  obtain ⟨i, hi, hzz⟩ := Option.map_eq_some_iff.1 hinfo
  simp only [Prod.mk.injEq] at hzz
  obtain ⟨hz, hsz, hby⟩ := hzz
  obtain ⟨ad', cap', w', hr, h2, h3⟩ := run_append_marks (P := P) (w := w) B t o.type e i z m bytes ht hi hz hsz hby hzs hm ad n cap xs hown ad1 1 c mk hl (by rw [rep_one]; exact hnews) h1 (by omega) (by unfold maxLen; omega) hbytes hB
  rw [rep_one] at h2
  unfold Oper.wp execOp
  simp only [ho, resolve, invoke, builtin, Sem.run_bind, Sem.run_pure, Result.andThen_ok, List.map_toArray, List.map_cons, List.map_nil, hs, hx, hr]
  exact h ad' cap' w' h2 h3

/-- 'l[i] = m'. -/
theorem wpList_vstore (hgd : o.guard = none) (p v : Operand) (t : TypeId) (ho : o.op = .store t p v) (B e m : Nat) (hs : (P.info? t).map (·.size) = some m) (ad : Option Addr) (n cap : Nat) (mk ys : List Value) (i g : Nat) (hg : Hid (ad = some ⟨g, 0, none⟩))
    (hown : Vec w B e m ad n cap (rep i mk ++ ys)) (hin : i < n) (hl : mk.length = m) (h1 : ∀ u, u ∈ mk → u.oneCell' = true) (hp : a.eval p = .pointer (some ⟨g, i * m, none⟩)) (hv : a.eval v = .agg mk.toArray)
    (h : ∀ w', Vec w' B e m ad n cap (rep (i + 1) mk ++ ys.drop m) → Upd g w w' → wpList P ops Q rest (a.put o.dst undef) w') : wpList P ops Q (o :: rest) a w := by
  subst hl
  have hg' := hg.out
  subst hg'
  rcases hown.2 with ⟨h2, _⟩ | ⟨k, c, cur, hvv, hB, hc, r1, r2, r3, r4⟩
  · simp at h2
  · simp at hvv
    obtain ⟨rfl, rfl⟩ := hvv
    have hlen := hown.1
    rw [List.length_append, rep_length] at hlen
    have hmul : (i + 1) * mk.length ≤ n * mk.length := Nat.mul_le_mul_right _ hin
    have hmul2 : n * mk.length ≤ cap * mk.length := Nat.mul_le_mul_right _ r1
    rw [Nat.add_mul, Nat.one_mul] at hmul
    have hfit : i * mk.length + 0 + mk.length ≤ cur.size := by rw [r3]; omega
    have hst := run_storeCells_at P g (i * mk.length) e mk 0 cur w hc hfit h1
    refine wpList_plain hgd fun K hK => ?_
    cases hq : P.info? t with
    | none => simp [hq] at hs
    | some inf =>
      have hi' : inf.size = mk.length := by simpa [hq] using hs
      unfold Oper.wp
      simp [execOp, ho, hp, hv, Instr.storeAt, Instr.sureAddr, storeVar, sizeOf, typeInfo, hq, hi', Value.cells, hst, Result.andThen]
      refine hK _ _ (h _ ⟨?_, .inr ⟨g, cap, _, rfl, hB, setRow_heap w g cur _ e _ hc, r1, r2, ?_, ?_⟩⟩ (Upd.setRow _ _ _))
      · rw [List.length_append, rep_length, List.length_drop, Nat.add_mul]; omega
      · simp only [List.size_toArray, List.length_append, List.length_take, List.length_drop, Array.length_toList]; omega
      · have hcur : cur.toList = rep i mk ++ ys ++ cur.toList.drop (n * mk.length) := by rw [← r4, List.take_append_drop]
        have e1 : cur.toList.take (i * mk.length) = rep i mk := by
          rw [hcur, List.append_assoc, List.take_append_of_le_length (by rw [rep_length]; omega), List.take_of_length_le (by rw [rep_length]; omega)]
        have e2 : cur.toList.drop (i * mk.length + mk.length) = ys.drop mk.length ++ cur.toList.drop (n * mk.length) := by
          conv => lhs; rw [hcur]
          rw [List.append_assoc, List.drop_append, rep_length, List.drop_of_length_le (by rw [rep_length]; omega), List.nil_append, List.drop_append, show i * mk.length + mk.length - i * mk.length = mk.length by omega, show mk.length - ys.length = 0 by omega, List.drop_zero]
        rw [e1, e2]
        have e3 : rep i mk ++ (mk ++ (ys.drop mk.length ++ cur.toList.drop (n * mk.length))) = (rep (i + 1) mk ++ ys.drop mk.length) ++ cur.toList.drop (n * mk.length) := by rw [rep_add, rep_one]; simp
        rw [e3]
        refine List.take_left' ?_
        rw [List.length_append, rep_length, List.length_drop, Nat.add_mul]; omega
end
end Go.Proofs.Ytdjpkgaicmklmab

/- Bits of bytes turned over: without the program. -/
namespace Go.Proofs.Ytdjpkgaicmklmab
open Go.RowKit

theorem allBits_get : ∀ (l : List UInt8) (i : Nat), (allBits l)[i]? = (l[i / 8]?).map fun x => x.toNat.testBit (7 - i % 8)
  | [], i => by simp [allBits]
  | x :: l, i => by
    rw [show allBits (x :: l) = bitsOf x ++ allBits l from by rw [show x :: l = [x] ++ l from rfl, allBits_append, allBits_one]]
    by_cases h : i < 8
    · rw [List.getElem?_append_left (by simpa [bitsOf] using h), show i / 8 = 0 by omega]
      have : i = 0 ∨ i = 1 ∨ i = 2 ∨ i = 3 ∨ i = 4 ∨ i = 5 ∨ i = 6 ∨ i = 7 := by omega
      rcases this with rfl | rfl | rfl | rfl | rfl | rfl | rfl | rfl <;> rfl
    · rw [List.getElem?_append_right (by simp [bitsOf]; omega), show i - (bitsOf x).length = i - 8 by simp [bitsOf], allBits_get l (i - 8)]
      rw [show i / 8 = (i - 8) / 8 + 1 by omega, List.getElem?_cons_succ, show (i - 8) % 8 = i % 8 by omega]
theorem bits_byte {x y : UInt8} (h : bitsOf x = bitsOf y) : x = y := by
  simp only [bitsOf, List.cons.injEq, and_true] at h
  obtain ⟨h7, h6, h5, h4, h3, h2, h1, h0⟩ := h
  apply UInt8.toNat_inj.mp
  apply Nat.eq_of_testBit_eq
  intro i
  by_cases hi : i < 8
  · have : i = 0 ∨ i = 1 ∨ i = 2 ∨ i = 3 ∨ i = 4 ∨ i = 5 ∨ i = 6 ∨ i = 7 := by omega
    rcases this with rfl | rfl | rfl | rfl | rfl | rfl | rfl | rfl <;> assumption
  · have hx := x.toNat_lt
    have hy := y.toNat_lt
    have hp : 2 ^ 8 ≤ 2 ^ i := Nat.pow_le_pow_right (by omega) (by omega)
    rw [Nat.testBit_lt_two_pow (by omega), Nat.testBit_lt_two_pow (by omega)]
theorem allBits_inj : ∀ {s t : List UInt8}, allBits s = allBits t → s = t
  | [], [], _ => rfl
  | [], _ :: _, h => by have := congrArg List.length h; rw [allBits_length, allBits_length] at this; simp at this
  | _ :: _, [], h => by have := congrArg List.length h; rw [allBits_length, allBits_length] at this; simp at this
  | x :: s, y :: t, h => by
    rw [show x :: s = [x] ++ s from rfl, show y :: t = [y] ++ t from rfl, allBits_append, allBits_append, allBits_one, allBits_one] at h
    have := List.append_inj h (by simp [bitsOf])
    rw [bits_byte this.1, allBits_inj this.2]

/-- A bit turned over. -/
def flipB (x : UInt8) (r : Nat) : UInt8 := x ^^^ UInt8.ofNat (2 ^ (7 - r))
def flipAt (l : List UInt8) (i : Nat) : List UInt8 := l.set (i / 8) (flipB (l.getD (i / 8) 0) (i % 8))
/-- The first k of the bits that are asked for, from bit a on. -/
def turnB (bit : Nat → Bool) (a : Nat) (s : List UInt8) : Nat → List UInt8
  | 0 => s
  | k + 1 => if bit k = true ∧ (a + k) / 8 < s.length then flipAt (turnB bit a s k) (a + k) else turnB bit a s k
theorem turn_len (bit : Nat → Bool) (a : Nat) (s : List UInt8) : ∀ k, (turnB bit a s k).length = s.length
  | 0 => rfl
  | k + 1 => by
    simp only [turnB]; split
    · simp [flipAt, turn_len bit a s k]
    · exact turn_len bit a s k

theorem flip_bit (x : UInt8) (r q : Nat) (hr : r < 8) (hq : q < 8) : (flipB x r).toNat.testBit (7 - q) = (x.toNat.testBit (7 - q) != decide (q = r)) := by
  unfold flipB
  rw [UInt8.toNat_xor, Nat.testBit_xor]
  have e : (UInt8.ofNat (2 ^ (7 - r))).toNat = 2 ^ (7 - r) := by
    rw [UInt8.toNat_ofNat']
    apply Nat.mod_eq_of_lt
    calc 2 ^ (7 - r) ≤ 2 ^ 7 := Nat.pow_le_pow_right (by omega) (by omega)
      _ < 2 ^ 8 := by decide
  rw [e, Nat.testBit_two_pow]
  congr 1
  exact decide_eq_decide.mpr (by omega)
/-- Turning over one bit leaves the others. -/
theorem flip_bits (l : List UInt8) (i j : Nat) (hi : i / 8 < l.length) : (allBits (flipAt l i))[j]? = ((allBits l)[j]?).map fun x => x != decide (j = i) := by
  rw [allBits_get, allBits_get]
  unfold flipAt
  by_cases hj : j / 8 = i / 8
  · rw [hj, List.getElem?_set_self hi, List.getElem?_eq_getElem hi]
    simp only [Option.map_some, List.getD_eq_getElem?_getD, List.getElem?_eq_getElem hi, Option.getD_some]
    rw [flip_bit _ _ _ (by omega) (by omega)]
    congr 2
    exact decide_eq_decide.mpr (by omega)
  · rw [List.getElem?_set_ne (by omega)]
    have : j ≠ i := fun e => hj (by rw [e])
    simp only [Option.map_map]
    congr 1
    funext x
    simp [this]
theorem turn_bits (bit : Nat → Bool) (a : Nat) (s : List UInt8) (j : Nat) : ∀ k, (allBits (turnB bit a s k))[j]? = ((allBits s)[j]?).map fun x => x != (decide (a ≤ j ∧ j < a + k) && bit (j - a))
  | 0 => by
    have : decide (a ≤ j ∧ j < a + 0) = false := decide_eq_false (by omega)
    rw [this]; simp [turnB]
  | k + 1 => by
    simp only [turnB]
    by_cases hb : bit k = true ∧ (a + k) / 8 < s.length
    · rw [if_pos hb, flip_bits _ _ _ (by rw [turn_len]; exact hb.2), turn_bits bit a s j k, Option.map_map]
      congr 1
      funext x
      simp only [Function.comp_apply]
      by_cases hj : j = a + k
      · rw [hj, show a + k - a = k by omega, hb.1]; simp
      · rw [decide_eq_false hj, show decide (a ≤ j ∧ j < a + (k + 1)) = decide (a ≤ j ∧ j < a + k) from decide_eq_decide.mpr (by omega)]; simp
    · rw [if_neg hb, turn_bits bit a s j k]
      by_cases hj : j = a + k
      · by_cases hb1 : bit k = true
        · have : s.length ≤ (a + k) / 8 := by
            rcases Nat.lt_or_ge ((a + k) / 8) s.length with h | h
            · exact absurd ⟨hb1, h⟩ hb
            · exact h
          rw [List.getElem?_eq_none (by rw [allBits_length]; omega)]; rfl
        · congr 1; funext x
          rw [hj, show a + k - a = k by omega, eq_false_of_ne_true hb1]; simp
      · rw [show decide (a ≤ j ∧ j < a + (k + 1)) = decide (a ≤ j ∧ j < a + k) from decide_eq_decide.mpr (by omega)]
/-- All of it that is turned lies within k bits. -/
theorem turn_parts (bit : Nat → Bool) (a : Nat) (s : List UInt8) (k : Nat) :
    ∃ x e e' c, allBits s = x ++ e ++ c ∧ allBits (turnB bit a s k) = x ++ e' ++ c ∧ e.length = e'.length ∧ e.length ≤ k := by
  have split3 : ∀ l : List Bool, l = l.take a ++ (l.drop a).take k ++ l.drop (a + k) := by
    intro l; rw [List.append_assoc, ← List.drop_drop, List.take_append_drop, List.take_append_drop]
  have hlen : (allBits (turnB bit a s k)).length = (allBits s).length := by rw [allBits_length, allBits_length, turn_len]
  refine ⟨(allBits s).take a, ((allBits s).drop a).take k, ((allBits (turnB bit a s k)).drop a).take k, (allBits s).drop (a + k), split3 _, ?_, by simp [hlen], by simp; omega⟩
  conv => lhs; rw [split3 (allBits (turnB bit a s k))]
  congr 1
  · congr 1
    apply List.ext_getElem?; intro j
    by_cases hj : j < a
    · rw [List.getElem?_take_of_lt hj, List.getElem?_take_of_lt hj, turn_bits, show decide (a ≤ j ∧ j < a + k) = false from decide_eq_false (by omega)]; simp
    · rw [List.getElem?_eq_none (by simp; omega), List.getElem?_eq_none (by simp; omega)]
  · apply List.ext_getElem?; intro j
    rw [List.getElem?_drop, List.getElem?_drop, turn_bits, show decide (a ≤ a + k + j ∧ a + k + j < a + k) = false from decide_eq_false (by omega)]; simp
/-- One bit that is turned over within the bytes: they are others. -/
theorem turn_one (bit : Nat → Bool) (a : Nat) (s : List UInt8) (k i : Nat) (hi : i < k) (hb : bit i = true) (ha : a + i < 8 * s.length) : turnB bit a s k ≠ s := by
  intro h
  have e := turn_bits bit a s (a + i) k
  rw [h, List.getElem?_eq_getElem (by rw [allBits_length]; exact ha), show decide (a ≤ a + i ∧ a + i < a + k) = true from decide_eq_true (by omega), show a + i - a = i by omega, hb] at e
  simp at e

/-- The sum of bytes in which bits within 32 are turned is another. -/
theorem crc_turned {p : Nat} (hp : p < 4294967296) (ho : p % 2 = 1) (bit : Nat → Bool) (a : Nat) (s : List UInt8) (h : turnB bit a s 32 ≠ s) : crc p (turnB bit a s 32) ≠ crc p s := by
  obtain ⟨x, e, e', c, h1, h2, h3, h4⟩ := turn_parts bit a s 32
  intro hc
  have := crc_turn hp ho _ _ x e e' c h1 h2 h3 h4 hc.symm
  rw [this] at h1
  exact h (allBits_inj (h2.trans h1.symm))
/-- What ends in its own sum, with such bits turned, does not. -/
theorem seal_turned {p : Nat} (hp : p < 4294967296) (ho : p % 2 = 1) (bit : Nat → Bool) (a : Nat) (s t : List UInt8) (h : turnB bit a (s ++ fourI (crc p s)) 32 = t ++ fourI (crc p t)) : turnB bit a (s ++ fourI (crc p s)) 32 = s ++ fourI (crc p s) := by
  obtain ⟨x, e, e', c, h1, h2, h3, h4⟩ := turn_parts bit a (s ++ fourI (crc p s)) 32
  have := torn hp ho s t x e e' c h1 (by rw [← h]; exact h2) h3 h4
  rw [this] at h1
  exact allBits_inj (h2.trans h1.symm)
theorem vol_turned {i n : Nat} {s : Nat} {p : List UInt8} (bit : Nat → Bool) (a : Nat) (h : turnB bit a (volB i n s p) 32 ≠ volB i n s p) : volOk (turnB bit a (volB i n s p) 32) = false := by
  obtain ⟨x, e, e', c, h1, h2, h3, h4⟩ := turn_parts bit a (volB i n s p) 32
  refine vol_torn x e e' c h1 h2 h3 h4 ?_
  intro he
  rw [he] at h1
  exact h (allBits_inj (h2.trans h1.symm))
end Go.Proofs.Ytdjpkgaicmklmab

/- parcelkeep's turned, walked. -/
namespace Go.Proofs.Ytdjpkgaicmklmab
open Go.RowKit

/-- Bytes that were made of a string: the row bears a mark behind its end. -/
structure By (w : World) (g e : Nat) (s : List UInt8) (sp : Nat) : Prop where
  h : w.heap[g]? = some (.cells (u8s s ++ List.replicate sp (Value.int .u8 0)).toArray e (s.length + sp, s.length + sp + 1))
theorem By.lt {w : World} {g e : Nat} {s : List UInt8} {sp : Nat} (b : By w g e s sp) : g < w.heap.size := (Array.getElem?_eq_some_iff.1 b.h).1
theorem By.cell {w : World} {g e : Nat} {s : List UInt8} {sp : Nat} (b : By w g e s sp) (k : Nat) (hk : k < s.length) : w.cell? ⟨g, k, none⟩ = some (.int .u8 ((s.getD k 0).toNat : Int)) := by
  simp [World.cell?, b.h, List.getElem?_append, hk]
theorem By.frozen {w : World} {g e : Nat} {s : List UInt8} {sp : Nat} (b : By w g e s sp) (k : Nat) (hk : k < s.length) : w.frozen? ⟨g, k, none⟩ = false := by
  simp [World.frozen?, b.h]; omega
theorem By.drew {w : World} {g e : Nat} {s : List UInt8} {sp : Nat} (b : By w g e s sp) : By w.drew g e s sp := ⟨b.h⟩
theorem By.set {w : World} {g e : Nat} {s : List UInt8} {sp : Nat} (b : By w g e s sp) (k : Nat) (hk : k < s.length) (x : UInt8) : By (w.setCell ⟨g, k, none⟩ (.int .u8 (x.toNat : Int))) g e (s.set k x) sp := by
  have hl := b.lt
  have e1 : u8s (s.set k x) ++ List.replicate sp (Value.int .u8 0) = (u8s s ++ List.replicate sp (Value.int .u8 0)).set k (.int .u8 (x.toNat : Int)) := by
    rw [List.set_append_left _ _ (by simpa using hk), u8s, u8s, List.map_set]
  refine ⟨?_⟩
  rw [e1, List.length_set]
  have h2 := b.h
  simp only [World.setCell]
  rw [Array.getElem?_modify, if_pos rfl, h2]
  simp
theorem By.str {w : World} {g e : Nat} {s : List UInt8} {sp : Nat} (b : By w g e s sp) : ∀ j v, ((s.map fun x => (x.toNat : Int)).map (Value.int .u8))[j]? = some v → w.cell? ((⟨g, 0, none⟩ : Addr).add j) = some v := by
  intro j v hv
  have hj : j < s.length := by have := (List.getElem?_eq_some_iff.1 hv).1; simpa using this
  rw [addr_add, Nat.zero_add, b.cell j hj, ← hv]
  simp [List.getD, hj]

section
variable {P : Program} {w : World} {ops : Array Oper} {rest : List Oper} {o : Oper} {a : Act} {Q : Exit → Act → World → Prop}
/-- '[]byte(s)'. -/
theorem wpList_toBytes (hgd : o.guard = none) (src dst e : TypeId) (x : Operand) (ho : o.op = .convert src dst x) (hs : P.underlying src = some .string) (hd : P.underlying dst = some (.slice e)) (he : P.underlying e = some (.int .u8)) (s : List UInt8) (hx : a.eval x = .string (str s))
    (h : ∀ g ad cap sp w', Hid (ad = some ⟨g, 0, none⟩) → w.heap.size ≤ g → By w' g e s sp → Below w.heap.size w w' → wpList P ops Q rest (a.put o.dst (.slice ad s.length cap)) w') : wpList P ops Q (o :: rest) a w := by
  refine wpList_plain hgd fun K hK => ?_
  have hrun := Lib.run_convert_string_bytes (P := P) w src dst e (str s) hs hd he
  rw [str_size] at hrun
  unfold Oper.wp
  simp [execOp, ho, hx, hrun, Result.andThen]
  refine hK _ _ (h w.heap.size _ _ (grownCap w s.length 0 e - s.length) _ rfl (Nat.le_refl _) ⟨?_⟩ ?_)
  · have := Lib.bytesWorld_at_new w e (str s)
    have e2 : Lib.bytesCells w e (str s) = (u8s s ++ List.replicate (grownCap w s.length 0 e - s.length) (Value.int .u8 0)).toArray := by
      unfold Lib.bytesCells
      rw [str_size]
      simp [str, u8s]
    rw [e2] at this
    rw [this]
    simp only [List.size_toArray, List.length_append, List.length_map, List.length_replicate]
  · refine ⟨?_, ?_, ?_, by rw [Lib.bytesWorld_size]; omega, fun k hk => Lib.bytesWorld_at_old w e (str s) k hk⟩
    · simp only [Lib.bytesWorld, World.freeze]; rfl
    · simp only [Lib.bytesWorld, World.freeze]; rfl
    · simp only [Lib.bytesWorld, World.freeze]; rfl
end

theorem wrap_i64 (i : Int) (h : -9223372036854775808 ≤ i) (h2 : i ≤ 9223372036854775807) : IntKind.i64.wrap i = i := by
  have e : (2 : Int) ^ IntKind.i64.bits = 18446744073709551616 := by decide
  have s : IntKind.i64.signed = true := rfl
  have e2 : (2 : Int) ^ (IntKind.i64.bits - 1) = 9223372036854775808 := by decide
  simp [IntKind.wrap, e, e2, s]; omega
theorem flip_val (x : UInt8) (r : Nat) (hr : r < 8) : bits .xor .u8 (x.toNat : Int) (IntKind.u8.wrap (2 ^ (7 - r))) = ((flipB x r).toNat : Int) := by
  have hp : 2 ^ (7 - r) < 256 := by
    have : 2 ^ (7 - r) ≤ 2 ^ 7 := Nat.pow_le_pow_right (by omega) (by omega)
    omega
  have e1 : IntKind.u8.wrap ((2 : Int) ^ (7 - r)) = ((2 ^ (7 - r) : Nat) : Int) := by
    rw [show ((2 : Int) ^ (7 - r)) = ((2 ^ (7 - r) : Nat) : Int) by simp]
    exact wrap_u8 _ hp
  have hx := x.toNat_lt
  rw [e1, u8_xor_nat _ _ (by omega) hp]
  unfold flipB
  rw [UInt8.toNat_xor]
  have e : (UInt8.ofNat (2 ^ (7 - r))).toNat = 2 ^ (7 - r) := by
    rw [UInt8.toNat_ofNat']; exact Nat.mod_eq_of_lt hp
  rw [e]
/-- The bits that a mask has. -/
def bitM (mask : Int) (k : Nat) : Bool := bits .and .i64 (mask / 2 ^ (31 - k)) 1 == 1

set_option maxRecDepth 100000 in
set_option maxHeartbeats 4000000 in
theorem turned_any (s : List UInt8) (a : Nat) (mask : Int) (w : World) (hs : s.length ≤ 1099511627776) (ha : a < 8 * s.length) :
    Calls Try.prog 18 #[.string (str s), .int .i64 (a : Int), .int .i64 mask] w fun e w' => e = .returned (.string (str (turnB (bitM mask) a s 32))) ∧ Below w.heap.size w w' := by
  have HS : Hid (s.length ≤ 1099511627776) := hs
  go_enter Try.func18, Try.ntmps18
  go_wp2_with (refine wpList_toBytes (by rfl) 9 75 5 _ (by rfl) Try.underlying9 Try.underlying75 Try.underlying5 s (by rfl) ?_; intro g ad cap sp w1 he hg hy hb1)
  go_loopw [8, 9] (fun u _ wr => ∃ (k : Nat), k ≤ 32 ∧ u = .int .i64 k ∧ By wr g 5 (turnB (bitM mask) a s k) sp ∧ Below w.heap.size w wr) (fun u _ _ => 32 - (intOf u).toNat)
  case atStart => exact ⟨0, by omega, rfl, hy, hb1⟩
  case round =>
    clear hy hb1
    obtain ⟨k, hk, rfl, hy, hbw⟩ := hrel
    have HL : Hid ((turnB (bitM mask) a s k).length = s.length) := turn_len _ _ _ _
    by_cases hlt : k < 32
    · have hex : ((31 : Int) - (k : Int)).toNat = 31 - k := by omega
      have hq : ((a : Int) + (k : Int)) / 8 = (((a + k) / 8 : Nat) : Int) := by omega
      have hqt : Int.tdiv ((a : Int) + (k : Int)) 8 = (((a + k) / 8 : Nat) : Int) := by rw [Int.tdiv_eq_ediv_of_nonneg (by omega)]; exact hq
      have hr : ((a : Int) + (k : Int)) % 8 = (((a + k) % 8 : Nat) : Int) := by omega
      have hrt : Int.tmod ((a : Int) + (k : Int)) 8 = (((a + k) % 8 : Nat) : Int) := by rw [Int.tmod_eq_emod_of_nonneg (by omega)]; exact hr
      have HT : Hid (turnB (bitM mask) a s (k + 1) = if bitM mask k = true ∧ (a + k) / 8 < s.length then flipAt (turnB (bitM mask) a s k) (a + k) else turnB (bitM mask) a s k) := rfl
      cases hbit : bitM mask k with
      | false =>
        have hbb : (bits .and .i64 (mask / 2 ^ (31 - k)) 1 == 1) = false := hbit
        go_wp2_with fail
        go_roundw
        case rel => exact ⟨k + 1, by omega, by go_num, by rw [HT.out, hbit, if_neg (by simp)]; exact hy, hbw⟩
        case measure => simp [intOf]; omega
      | true =>
        have hbb : (bits .and .i64 (mask / 2 ^ (31 - k)) 1 == 1) = true := hbit
        by_cases hin : (a + k) / 8 < s.length
        · have HF : Hid (turnB (bitM mask) a s (k + 1) = flipAt (turnB (bitM mask) a s k) (a + k)) := by show _ = _; rw [HT.out, if_pos ⟨hbit, hin⟩]
          have x1 := fun w' => Own.idx he (P := Try.prog) (t := 75) (m := 1) s.length cap (by kernel_rfl) (by kernel_rfl) (k := (a + k) / 8) hin (((a + k) / 8 : Nat) : Int) rfl w'
          simp only [Nat.mul_one] at x1
          have c0 := hy.cell ((a + k) / 8) (by rw [HL.out]; exact hin)
          have f0 := hy.frozen ((a + k) / 8) (by rw [HL.out]; exact hin)
          have HY : Hid (∀ x, By (wr.drew.setCell ⟨g, (a + k) / 8, none⟩ (.int .u8 (x.toNat : Int))) g 5 ((turnB (bitM mask) a s k).set ((a + k) / 8) x) sp) := fun x => hy.drew.set _ (by rw [HL.out]; exact hin) x
          have HFL : Hid (flipAt (turnB (bitM mask) a s k) (a + k) = (turnB (bitM mask) a s k).set ((a + k) / 8) (flipB ((turnB (bitM mask) a s k).getD ((a + k) / 8) 0) ((a + k) % 8))) := rfl
          have hmr : (a + k) % 8 < 8 := Nat.mod_lt _ (by omega)
          generalize (turnB (bitM mask) a s k).getD ((a + k) / 8) 0 = x0 at *
          obtain ⟨q, hqq⟩ : ∃ q, q = (a + k) / 8 := ⟨_, rfl⟩
          obtain ⟨r, hrr⟩ : ∃ r, r = (a + k) % 8 := ⟨_, rfl⟩
          rw [← hqq] at hq hqt hin x1 c0 f0
          rw [← hrr] at hr hrt hmr
          have HQ : Hid (q = (a + k) / 8) := hqq
          have HR : Hid (r = (a + k) % 8) := hrr
          have hwq : IntKind.i64.wrap (q : Int) = (q : Int) := wrap_i64 _ (by omega) (by omega)
          have hw7 : IntKind.i64.wrap (7 - (r : Int)) = ((7 - r : Nat) : Int) := by rw [wrap_i64 _ (by omega) (by omega)]; omega
          clear hqq hrr hy HT hbit
          go_wp2_with fail
          go_region_law (fail)
          have HY2 : Hid (By (wr.setCell ⟨g, q, none⟩ (.int .u8 (bits .xor .u8 (x0.toNat : Int) (IntKind.u8.wrap (2 ^ (7 - r)))))).drew g 5 (turnB (bitM mask) a s (k + 1)) sp) := by
            show By _ _ _ _ _
            rw [HF.out, HFL.out, flip_val x0 r hmr, ← HQ.out, ← HR.out]
            have := HY.out (flipB x0 r)
            rw [← HQ.out] at this
            exact ⟨this.h⟩
          have HB2 : Hid (Below w.heap.size w (wr.setCell ⟨g, q, none⟩ (.int .u8 (bits .xor .u8 (x0.toNat : Int) (IntKind.u8.wrap (2 ^ (7 - r)))))).drew) := ((Upd.refl g wr).setCell ⟨g, q, none⟩ rfl _).drew.below hbw hg
          clear HY HF HFL
          generalize (wr.setCell ⟨g, q, none⟩ (.int .u8 (bits .xor .u8 (x0.toNat : Int) (IntKind.u8.wrap (2 ^ (7 - r)))))).drew = W2 at *
          go_wp2_with fail
          go_roundw
          case rel => exact ⟨k + 1, by omega, by go_num, HY2.out, HB2.out⟩
          case measure => simp [intOf]; omega
        · obtain ⟨q, hqq⟩ : ∃ q, q = (a + k) / 8 := ⟨_, rfl⟩
          rw [← hqq] at hq hqt
          have hin2 : ¬ (q : Int) < (s.length : Int) := by omega
          have hwq : IntKind.i64.wrap (q : Int) = (q : Int) := wrap_i64 _ (by omega) (by omega)
          have HIN : Hid (¬ (a + k) / 8 < s.length) := hin
          clear hqq hin
          go_wp2_with fail
          go_roundw
          case rel => exact ⟨k + 1, by omega, by go_num, by rw [HT.out, if_neg (fun h => HIN.out h.2)]; exact hy, hbw⟩
          case measure => simp [intOf]; omega
    · obtain rfl : k = 32 := by omega
      have HTL : Hid ((turnB (bitM mask) a s 32).length = s.length) := HL.out
      have hss : ((turnB (bitM mask) a s 32).map fun b => (b.toNat : Int)).length = s.length := by simp; exact HTL.out
      have had := he.out
      go_wp2_with (refine wpList_toString (by rfl) 75 9 5 _ (by rfl) Try.underlying75 Try.underlying5 Try.underlying9 ⟨g, 0, none⟩ s.length cap (by rw [← had]; rfl) ((turnB (bitM mask) a s 32).map fun b => (b.toNat : Int)) hss hy.str ?_; rw [bytes_ints])
      go_ret
      exact ⟨rfl, hbw⟩
end Go.Proofs.Ytdjpkgaicmklmab

/- Numbers read back: plain functions, and the reference's number, numbers, four, walked. -/
namespace Go.Proofs.Ytdjpkgaicmklmab
open Go.RowKit

/-- Bytes are added up till the first below 128. -/
def rdAcc : Nat → Nat → Int → List UInt8 → Option (Int × Nat)
  | 0, _, _, _ => none
  | _ + 1, _, _, [] => none
  | k + 1, i, v, c :: s => if c.toNat < 128 then some (v + ((c.toNat % 128 : Nat) : Int) * 128 ^ i, i + 1) else rdAcc k (i + 1) (v + ((c.toNat % 128 : Nat) : Int) * 128 ^ i) s
/-- The number with which bytes begin, and how many bytes it has. -/
def numRd (s : List UInt8) : Option (Int × Nat) := match rdAcc 9 0 0 s with
  | some (v, n) => if numB v = s.take n then some (v, n) else none
  | none => none
def rdV (x : Option (Int × Nat)) : Value := match x with
  | some (v, n) => .tuple #[.int .i64 v, .int .i64 (n : Nat)]
  | none => .tuple #[.int .i64 0, .int .i64 0]

theorem str_extract (s : List UInt8) (a b : Nat) : (str s).extract a b = str ((s.drop a).take (b - a)) := by
  have : ((str s).extract a b).data = (str ((s.drop a).take (b - a))).data := by
    rw [ByteArray.data_extract]; simp [str]
  cases h : (str s).extract a b
  rw [h] at this
  simp only [str] at this ⊢
  rw [this]
theorem str_at (s : List UInt8) (k : Nat) (h : k < (str s).size) (h2 : k < s.length) : (str s)[k]'h = s[k] := rfl
theorem str_beq (a b : List UInt8) : ((str a).toList == (str b).toList) = (a == b) := by rw [str_toList, str_toList]

theorem pow128 (i : Nat) (h : i ≤ 8) : (128 : Int) ^ i ≤ 72057594037927936 ∧ 0 < (128 : Int) ^ i := by
  have : i = 0 ∨ i = 1 ∨ i = 2 ∨ i = 3 ∨ i = 4 ∨ i = 5 ∨ i = 6 ∨ i = 7 ∨ i = 8 := by omega
  rcases this with rfl | rfl | rfl | rfl | rfl | rfl | rfl | rfl | rfl <;> decide

theorem rdAcc_le : ∀ (k i : Nat) (v : Int) (s : List UInt8) {v' : Int} {n : Nat}, rdAcc k i v s = some (v', n) → i < n ∧ n ≤ i + s.length
  | 0, _, _, _, _, _, h => by simp [rdAcc] at h
  | _ + 1, _, _, [], _, _, h => by simp [rdAcc] at h
  | k + 1, i, v, c :: s, v', n, h => by
    simp only [rdAcc] at h
    split at h
    · simp at h; simp; omega
    · have := rdAcc_le k (i + 1) _ s h; simp; omega
theorem rdAcc_num : ∀ (k i : Nat) (v : Int) (s : List UInt8) {v' : Int} {n : Nat}, rdAcc k i v s = some (v', n) → 0 ≤ v → v < 128 ^ i → i + k ≤ 9 → 0 ≤ v' ∧ v' < 128 ^ 9
  | 0, _, _, _, _, _, h, _, _, _ => by simp [rdAcc] at h
  | _ + 1, _, _, [], _, _, h, _, _, _ => by simp [rdAcc] at h
  | k + 1, i, v, c :: s, v', n, h, h0, h1, hk => by
    have hp := pow128 i (by omega)
    have m0 : 0 ≤ ((c.toNat % 128 : Nat) : Int) * 128 ^ i := Int.mul_nonneg (by omega) (by omega)
    have m1 : ((c.toNat % 128 : Nat) : Int) * 128 ^ i ≤ 127 * 128 ^ i := Int.mul_le_mul_of_nonneg_right (by omega) (by omega)
    simp only [rdAcc] at h
    split at h
    · simp at h
      obtain ⟨rfl, -⟩ := h
      simp only [Int.natCast_emod] at m0 m1
      have e9 : (128 : Int) ^ 9 = 9223372036854775808 := by decide
      rw [e9]
      have e : ((128 : Nat) : Int) = 128 := rfl
      simp only [e] at m0 m1
      generalize (128 : Int) ^ i = q at *
      omega
    · refine rdAcc_num k (i + 1) _ s h (by omega) ?_ (by omega)
      rw [Int.pow_succ]; omega
theorem numRd_le {s : List UInt8} {v : Int} {n : Nat} (h : numRd s = some (v, n)) : 0 < n ∧ n ≤ s.length ∧ Num v ∧ numB v = s.take n := by
  unfold numRd at h
  split at h
  · rename_i v' n' hr
    split at h
    · simp at h
      obtain ⟨rfl, rfl⟩ := h
      rename_i hq
      have h1 := rdAcc_le 9 0 0 s hr
      have h2 := rdAcc_num 9 0 0 s hr (by omega) (by decide) (by omega)
      have e9 : (128 : Int) ^ 9 = 9223372036854775808 := by decide
      rw [e9] at h2
      exact ⟨by omega, by omega, ⟨by omega, by omega⟩, hq⟩
    · cases h
  · cases h

/-- The k numbers with which bytes begin, and what is behind them. -/
def numsRd : Nat → List UInt8 → Option (List Int × List UInt8)
  | 0, s => some ([], s)
  | k + 1, s => match numRd s with
    | none => none
    | some (v, n) => match numsRd k (s.drop n) with
      | none => none
      | some (l, r) => some (v :: l, r)
def pre (a : List Int) (x : Option (List Int × List UInt8)) : Option (List Int × List UInt8) := x.map fun p => (a ++ p.1, p.2)
theorem numsRd_length : ∀ (k : Nat) (s : List UInt8) {l : List Int} {r : List UInt8}, numsRd k s = some (l, r) → l.length = k ∧ r.length ≤ s.length
  | 0, s, l, r, h => by simp [numsRd] at h; obtain ⟨rfl, rfl⟩ := h; simp
  | k + 1, s, l, r, h => by
    simp only [numsRd] at h
    split at h
    · cases h
    · split at h
      · cases h
      · rename_i hh
        simp at h
        obtain ⟨rfl, rfl⟩ := h
        have := numsRd_length k _ hh
        simp at this ⊢
        omega
theorem pre_some (a : List Int) (l : List Int) (r : List UInt8) : pre a (some (l, r)) = some (a ++ l, r) := rfl
theorem numsRd_step {a : List Int} {k : Nat} {s : List UInt8} {v : Int} {n : Nat} (h : numRd s = some (v, n)) : pre a (numsRd (k + 1) s) = pre (a ++ [v]) (numsRd k (s.drop n)) := by
  simp only [numsRd, h]
  cases numsRd k (s.drop n) with
  | none => rfl
  | some p => obtain ⟨l, r⟩ := p; simp [pre]
theorem numsRd_none {a : List Int} {k : Nat} {s : List UInt8} (h : numRd s = none) : pre a (numsRd (k + 1) s) = none := by
  simp only [numsRd, h]; rfl

/-- What numbers answers. -/
def NumsAns (s : List UInt8) (k : Nat) (w : World) (e : Ending) (w' : World) : Prop :=
  match numsRd k s with
  | none => e = .returned (.tuple #[.slice none 0 0, .string ⟨#[]⟩, .bool false])
  | some (l, r) => ∃ ad cap, e = .returned (.tuple #[.slice ad k cap, .string (str r), .bool true]) ∧ Vec w' w.heap.size 3 1 ad k cap (l.map (Value.int .i64))

end Go.Proofs.Ytdjpkgaicmklmab

/- The program's Split and what it calls, walked. -/
namespace Go.Proofs.Ytdjpkgaicmklmab
open Go.RowKit
attribute [local go_sem] str_size str_append mk_append_str str_append_mk

def strLen : Value → Nat
  | .string s => s.size
  | _ => 0
theorem cnt_is {m k i : Nat} (hm : 0 < m) (h1 : i = 0 ∨ i * m < k) (h2 : k ≤ (i + 1) * m) : cntB m k = i + 1 := by
  unfold cntB
  rw [Nat.add_mul] at h2
  by_cases hk : k ≤ m
  · rw [if_pos hk]
    rcases h1 with rfl | h1
    · rfl
    · rcases Nat.eq_zero_or_pos i with rfl | hi
      · rfl
      · have := Nat.mul_le_mul_right m hi; omega
  · rw [if_neg hk]
    have e1 : (i + 1) * m = i * m + m := by rw [Nat.add_mul, Nat.one_mul]
    have e2 : (i + 1 + 1) * m = i * m + m + m := by rw [Nat.add_mul, e1, Nat.one_mul]
    exact Nat.div_eq_of_lt_le (by rw [e1]; rcases h1 with rfl | h1 <;> omega) (by rw [e2]; omega)
theorem part_last {m i : Nat} {b : List UInt8} (h : b.length ≤ (i + 1) * m) : partB m i b = b.drop (i * m) := by
  unfold partB; rw [Nat.add_mul] at h; exact List.take_of_length_le (by simp; omega)

/-- The parts. -/
def partsB (m : Nat) (b : List UInt8) : List (List UInt8) := (List.range (cntB m b.length)).map fun i => partB m i b

set_option maxRecDepth 100000 in
set_option maxHeartbeats 4000000 in
theorem partsOf_any (b : List UInt8) (m : Nat) (w : World) (hb : b.length ≤ 6000) (hm : 26 ≤ m) (hm2 : m ≤ 4000) :
    Calls Try.prog 52 #[.string (str b), .int .i64 (m : Int)] w fun e w' => ∃ ad cap N, e = .returned (.slice ad N cap) ∧ N = cntB m b.length ∧ Vec w' w.heap.size 9 1 ad N cap (strs (partsB m b)) ∧ Below w.heap.size w w' := by
  have HB : Hid (b.length ≤ 6000) := hb
  have hV0 : Hid (Vec (w.alloc (.cells #[] 9)) w.heap.size 9 1 (some ⟨w.heap.size, 0, none⟩) 0 0 (strs [])) := Vec.lit w w.heap.size 9 1 0 [] (Nat.le_refl _) (by omega) rfl
  go_enter Try.func52, Try.ntmps52
  go_wp2_with fail
  go_loopw [0, 5] (fun u v wr => ∃ (i : Nat) (ad : Option Addr) (cap : Nat) (t : List UInt8), u = .string (str t) ∧ v = .slice ad i cap ∧ t = b.drop (i * m) ∧ (i = 0 ∨ i * m < b.length) ∧ i ≤ 6000 ∧ t.length ≤ 6000 ∧ Vec wr w.heap.size 9 1 ad i cap (strs ((List.range i).map fun k => partB m k b)) ∧ Below w.heap.size w wr) (fun u _ _ => strLen u)
  case atStart => exact ⟨0, _, _, b, rfl, rfl, by simp, Or.inl rfl, by omega, hb, hV0.out, (Below.refl _ _).alloc (Nat.le_refl _) _⟩
  case round =>
    obtain ⟨i, ad, cap, t, rfl, rfl, ht, hi, hi2, htl, hv, hbw⟩ := hrel
    have HT : Hid (t = b.drop (i * m)) := ht
    have HI : Hid (i = 0 ∨ i * m < b.length) := hi
    have hl : t.length = b.length - i * m := by rw [ht]; simp
    have HL : Hid (t.length = b.length - i * m) := hl
    have hz := hbw.size
    clear ht hi hl hb
    by_cases hlt : m < t.length
    · have hx1 : (str t).extract 0 m = str (partB m i b) := by rw [str_extract, HT.out]; simp [partB]
      have hx2 : (str t).extract m t.length = str (t.drop m) := by rw [str_extract, List.take_of_length_le (by simp)]
      have him : (i + 1) * m < b.length := by rw [Nat.add_mul]; have := HL.out; omega
      have hi3 : i + 1 ≤ 6000 := by
        have := Nat.le_mul_of_pos_right (i + 1) (show 0 < m by omega)
        have := HB.out; omega
      have HM : Hid ((i + 1) * m < b.length) := him
      clear him
      go_wp2_with (at_builtin; refine wpList_push (by rfl) _ _ 33 (by rfl) w.heap.size 9 1 16 (.string ⟨#[]⟩) Try.underlying33 (by kernel_rfl) rfl (by decide) ad i cap _ (by rfl) (hv.keep ((Below.refl _ _).alloc (Nat.le_refl _) _)) _ _ [.string (str (partB m i b))] (by rfl) rfl ?_ ?_ ?_ ?_ ?_ ?_; exact new_cells _ _ _; (simp [Value.oneCell']); (omega); (omega); (simp; omega); intro ad' cap' w' hv' hb' hs')
      have hb2 : Below w.heap.size w w' := (hbw.alloc hz _).trans hb'
      go_roundw
      case rel => exact ⟨i + 1, ad', cap', t.drop m, rfl, rfl, by rw [HT.out, List.drop_drop, Nat.add_mul]; congr 1; omega, Or.inr HM.out, hi3, by simp; omega, by rw [List.range_succ, List.map_append, strs, List.map_append]; exact hv', hb2⟩
      case measure => simp [strLen, str_size]; omega
    · have hle : b.length ≤ (i + 1) * m := by rw [Nat.add_mul]; have := HL.out; omega
      have HC : Hid (cntB m b.length = i + 1) := cnt_is (by omega) HI.out hle
      have HP : Hid (t = partB m i b) := by show _ = _; rw [part_last hle]; exact HT.out
      clear hle
      go_wp2_with (at_builtin; refine wpList_push (by rfl) _ _ 33 (by rfl) w.heap.size 9 1 16 (.string ⟨#[]⟩) Try.underlying33 (by kernel_rfl) rfl (by decide) ad i cap _ (by rfl) (hv.keep ((Below.refl _ _).alloc (Nat.le_refl _) _)) _ _ [.string (str t)] (by rfl) rfl ?_ ?_ ?_ ?_ ?_ ?_; exact new_cells _ _ _; (simp [Value.oneCell']); (omega); (omega); (simp; omega); intro ad' cap' w' hv' hb' hs')
      go_ret
      exact ⟨ad', cap', i + 1, rfl, HC.out.symm, by unfold partsB; rw [HC.out, List.range_succ, List.map_append, strs, List.map_append]; rw [HP.out] at hv'; exact hv', (hbw.alloc hz _).trans hb'⟩

/-- A volume's struct. -/
abbrev volS (i n : Int) (s p : List UInt8) : List Value := [.int .u8 i, .int .u8 n, .string (str s), .string (str p)]

set_option maxRecDepth 100000 in
set_option maxHeartbeats 4000000 in
theorem bytesOf_any (i n : Int) (C : Nat) (p : List UInt8) (w : World) (hp : p.length ≤ 8796093022000) :
    Calls Try.prog 53 #[.agg (volS i n (fourI C) p).toArray] w fun e w' => e = .returned (.string (str (volB i n C p))) ∧ Below w.heap.size w w' := by
  have E : Hid (86 :: 79 :: 76 :: 49 :: byt i :: byt n :: (fourI C ++ p) ++ fourI (crc pSum (86 :: 79 :: 76 :: 49 :: byt i :: byt n :: (fourI C ++ p))) = volB i n C p) := by show _ = _; unfold volB volH; simp
  have l4 : (fourI (C : Int)).length ≤ 4 := Nat.le_refl _
  generalize fourI (C : Int) = s at *
  have hb0 : Below w.heap.size w (w.alloc (.cells (volS i n s p).toArray 87)) := (Below.refl _ _).alloc (Nat.le_refl _) _
  have hb1 : Below w.heap.size w ((w.alloc (.cells (volS i n s p).toArray 87)).alloc (.cells #[.int .u8 i, .int .u8 n] 5)) := hb0.alloc hb0.size _
  have hBx := (Bx.new w 87 (volS i n s p).toArray).alloc (.cells #[.int .u8 i, .int .u8 n] 5)
  have c2 := hBx.cell 2
  have c3 := hBx.cell 3
  clear hBx hb0
  dsimp only [List.getElem?_cons_zero, List.getElem?_cons_succ] at c2 c3
  go_enter Try.func53, Try.ntmps53
  go_wp2_with (refine wpList_toString (by rfl) 75 9 5 _ (by rfl) Try.underlying75 Try.underlying5 Try.underlying9 _ _ _ (by rfl) [i, n] rfl ?_ ?_; exact new_cells2 _ _ _ _)
  generalize ((w.alloc (.cells (volS i n s p).toArray 87)).alloc (.cells #[.int .u8 i, .int .u8 n] 5)) = w1 at *
  clear c2 c3
  refine (sum_any (86 :: 79 :: 76 :: 49 :: byt i :: byt n :: (s ++ p)) _ (by simp; omega)).mono ?_
  rintro e w2 ⟨rfl, rfl⟩
  obtain ⟨c1, c2⟩ := crc_le pSum (by decide) (86 :: 79 :: 76 :: 49 :: byt i :: byt n :: (s ++ p))
  generalize crc pSum (86 :: 79 :: 76 :: 49 :: byt i :: byt n :: (s ++ p)) = C2 at *
  go_wp2_with fail
  refine (fourBytes_any _ _ c1 c2).mono ?_
  rintro e w3 ⟨rfl, hb3⟩
  have l5 : (fourI (C2 : Int)).length ≤ 4 := Nat.le_refl _
  generalize fourI (C2 : Int) = t at *
  go_wp2_with fail
  go_ret
  exact ⟨ret_str (by rw [← E.out]; simp), hb1.trans (hb3.mono hb1.size)⟩

/-- What Split answers. -/
def splitOk (b : List UInt8) (size : Int) : Prop := 40 ≤ size ∧ size ≤ 4000 ∧ b.length ≤ 6000
instance (b : List UInt8) (size : Int) : Decidable (splitOk b size) := by unfold splitOk; infer_instance
def splitL (b : List UInt8) (size : Int) : List (List UInt8) := if splitOk b size then volsB (size - 14).toNat b else []
def splitE (b : List UInt8) (size : Int) : Int := if splitOk b size then 0 else 12
theorem vols_take (m : Nat) (b : List UInt8) (i : Nat) (h : i < cntB m b.length) : (volsB m b).take (i + 1) = (volsB m b).take i ++ [volB i (cntB m b.length) (crc pSum b) (partB m i b)] := by
  rw [List.take_succ_eq_append_getElem (by rw [vols_len]; exact h)]
  congr 2
  have := vols_get m b i h
  rw [List.getD_eq_getElem?_getD, List.getElem?_eq_getElem (by rw [vols_len]; exact h)] at this
  exact this

set_option maxRecDepth 100000 in
set_option maxHeartbeats 4000000 in
theorem vsplit_any (b : List UInt8) (size : Int) (w : World) (hb : b.length ≤ 9223372036854775807) :
    Calls Try.prog 33 #[.string (str b), .int .i64 size] w fun e w' => ∃ ad cap N, e = .returned (.tuple #[.slice ad N cap, .int .i64 (splitE b size)]) ∧ N = (splitL b size).length ∧ Vec w' w.heap.size 9 1 ad N cap (strs (splitL b size)) ∧ Below w.heap.size w w' := by
  by_cases hok : splitOk b size
  · have HE : Hid (splitE b size = 0) := by show _ = _; simp [splitE, hok]
    obtain ⟨m, hm⟩ : ∃ m : Nat, size = (m : Int) + 14 := ⟨(size - 14).toNat, by have := hok.1; omega⟩
    have HL : Hid (splitL b size = volsB m b) := by show _ = _; unfold splitL; rw [if_pos hok, hm]; congr 1; omega
    obtain ⟨h1, h2, h3⟩ := hok
    subst hm
    have hm1 : 26 ≤ m := by omega
    have hm2 : m ≤ 4000 := by omega
    have hsub : ((m : Int) + 14 - 14) = (m : Int) := by omega
    have HM : Hid (26 ≤ m) := hm1
    have H3 : Hid (b.length ≤ 6000) := h3
    have hc := cnt_small m b.length hm1 h3
    have hc0 := cnt_pos m b.length (by omega)
    go_enter Try.func33, Try.ntmps33
    go_wp2_with fail
    refine (sum_any b _ (by omega)).mono ?_
    rintro e w1 ⟨rfl, hw1⟩
    have hb1 : Below w.heap.size w w1 := by rw [hw1]; exact Below.refl _ _
    clear hw1
    obtain ⟨c1, c2⟩ := crc_le pSum (by decide) b
    go_wp2_with fail
    refine (fourBytes_any _ _ c1 c2).mono ?_
    rintro e w2 ⟨rfl, hb2⟩
    go_wp2_with fail
    refine (partsOf_any b m _ H3.out hm1 hm2).mono ?_
    rintro e w3 ⟨ad3, cap3, N3, rfl, hN3, hv3, hb3⟩
    have hbw := hb1.trans ((hb2.trans (hb3.mono hb2.size)).mono hb1.size)
    have HN3 : Hid (N3 = cntB m b.length) := hN3
    have hN256 : N3 < 256 := by omega
    have HV3 : Hid (Vec w3 w.heap.size 9 1 ad3 N3 cap3 (strs (partsB m b))) := hv3.mono (Nat.le_trans hb1.size hb2.size)
    have HBW : Hid (Below w.heap.size w w3) := hbw
    obtain ⟨C, hC⟩ : ∃ C, C = crc pSum b := ⟨_, rfl⟩
    rw [← hC]
    have HC : Hid (crc pSum b = C) := hC.symm
    clear hC
    clear hv3 hbw hb1 hb2 hb3 c1 c2 hN3 hc hc0
    go_wp2_with fail
    go_loopw [9, 10, 11] (fun v u _ wr => ∃ (i : Nat) (ad : Option Addr) (cap : Nat), i ≤ N3 ∧ u = .int .i64 i ∧ v = .slice ad i cap ∧ Vec wr w3.heap.size 9 1 ad i cap (strs ((volsB m b).take i)) ∧ Below w3.heap.size w3 wr) (fun _ u _ _ => N3 - (intOf u).toNat)
    case atStart => exact ⟨0, _, _, by omega, rfl, rfl, Vec.lit w3 w3.heap.size 9 1 0 [] (Nat.le_refl _) (by omega) rfl, (Below.refl _ _).alloc (Nat.le_refl _) _⟩
    case round =>
      obtain ⟨i, ad, cap, hi, rfl, rfl, hv, hbr⟩ := hrel
      by_cases hlt : i < N3
      · obtain ⟨bb, o, hbl, hix, hcell⟩ := ((strs_lies HV3.out (by rw [HN3.out]; simp [partsB])).below hbr).at cap3 (P := Try.prog) (t := 33) (by kernel_rfl) (by kernel_rfl) hlt
        have hc0 : wr.cell? ⟨bb, o, none⟩ = some (.string (str ((partsB m b).getD i []))) := hcell 0 _ (by omega) rfl
        have hpi : (partsB m b).getD i [] = partB m i b := by
          have : i < cntB m b.length := by rw [← HN3.out]; exact hlt
          simp [partsB, List.getD, this]
        rw [hpi] at hc0
        have hpl : (partB m i b).length ≤ 6000 := by unfold partB; have := H3.out; simp; omega
        have HT : Hid ((volsB m b).take (i + 1) = (volsB m b).take i ++ [volB i N3 C (partB m i b)]) := by
          have := vols_take m b i (by rw [← HN3.out]; exact hlt)
          rw [HC.out, ← HN3.out] at this; exact this
        clear hcell hpi
        generalize partB m i b = p at *
        go_wp2_with fail
        refine (bytesOf_any (i : Int) (N3 : Int) C p _ (by omega)).mono ?_
        rintro e w5 ⟨rfl, hb5⟩
        have hv5 := hv.keep hb5
        have hbr5 := hbr.trans (hb5.mono hbr.size)
        have hz5 := hbr5.size
        clear hv hbr hb5
        generalize hV : volB (i : Int) (N3 : Int) C p = V at *
        clear hV
        go_wp2_with (at_builtin; refine wpList_push (by rfl) _ _ 33 (by rfl) w3.heap.size 9 1 16 (.string ⟨#[]⟩) Try.underlying33 (by kernel_rfl) rfl (by decide) ad i cap _ (by rfl) (hv5.keep ((Below.refl _ _).alloc (Nat.le_refl _) _)) _ _ [.string (str V)] (by rfl) rfl ?_ ?_ ?_ ?_ ?_ ?_; exact new_cells _ _ _; (simp [Value.oneCell']); (omega); (omega); (simp; omega); intro ad' cap' w' hv' hb' hs')
        go_roundw
        case rel => exact ⟨i + 1, ad', cap', by omega, by go_num, rfl, by rw [HT.out, strs, List.map_append]; exact hv', (hbr5.alloc hz5 _).trans hb'⟩
        case measure => simp [intOf]; omega
      · have e1 : i = N3 := by omega
        subst e1
        have HT : Hid ((volsB m b).take i = volsB m b) := List.take_of_length_le (by rw [vols_len, ← HN3.out]; exact Nat.le_refl _)
        go_wp2_with fail
        go_ret2
        exact ⟨ad, cap, i, by rw [HE.out]; rfl, by rw [HL.out, vols_len]; exact HN3.out, by rw [HL.out, ← HT.out]; exact hv.mono HBW.out.size, HBW.out.trans (hbr.mono HBW.out.size)⟩
  · have HE : Hid (splitE b size = 12) := by show _ = _; simp [splitE, hok]
    have HL : Hid (splitL b size = []) := by show _ = _; simp [splitL, hok]
    have hz := str_size b
    by_cases h1 : size < 40
    · clear hok hz
      go_enter Try.func33, Try.ntmps33
      go_wp2_with fail
      go_ret2
      refine ⟨none, 0, 0, by rw [HE.out]; rfl, by rw [HL.out]; rfl, by rw [HL.out]; exact Vec.nil _ _ _ _, Below.refl _ _⟩
    · by_cases h2 : 4000 < size
      · clear hok hz
        go_enter Try.func33, Try.ntmps33
        go_wp2_with fail
        go_ret2
        refine ⟨none, 0, 0, by rw [HE.out]; rfl, by rw [HL.out]; rfl, by rw [HL.out]; exact Vec.nil _ _ _ _, Below.refl _ _⟩
      · have h3 : 6000 < b.length := by
          rcases Nat.lt_or_ge 6000 b.length with h | h
          · exact h
          · exact absurd ⟨by omega, by omega, h⟩ hok
        clear hok hz
        go_enter Try.func33, Try.ntmps33
        go_wp2_with fail
        go_ret2
        refine ⟨none, 0, 0, by rw [HE.out]; rfl, by rw [HL.out]; rfl, by rw [HL.out]; exact Vec.nil _ _ _ _, Below.refl _ _⟩

set_option maxRecDepth 100000 in
set_option maxHeartbeats 4000000 in
theorem psplit_any (b : List UInt8) (size : Int) (w : World) (hb : b.length ≤ 9223372036854775807) :
    Calls Try.prog 11 #[.string (str b), .int .i64 size] w fun e w' => ∃ ad cap N, e = .returned (.tuple #[.slice ad N cap, .int .i64 (splitE b size)]) ∧ N = (splitL b size).length ∧ Vec w' w.heap.size 9 1 ad N cap (strs (splitL b size)) ∧ Below w.heap.size w w' := by
  go_enter Try.func11, Try.ntmps11
  go_wp2_with fail
  refine (vsplit_any b size _ hb).mono ?_
  rintro e w' ⟨ad, cap, N, rfl, rfl, h⟩
  go_wp2_with fail
  go_ret2
  exact ⟨ad, cap, _, rfl, rfl, h⟩
end Go.Proofs.Ytdjpkgaicmklmab

/- The reference's Split, walked. -/
namespace Go.Proofs.Ytdjpkgaicmklmab
open Go.RowKit
attribute [local go_sem] str_size str_append mk_append_str str_append_mk

end Go.Proofs.Ytdjpkgaicmklmab

