/- Texts of the proof, one behind the other; what each holds is said at its head. -/
import Derived.Test.YtdjpkgaicmklmaaRows
import Derived.WalkKit
import Derived.WalkSpells
import Derived.WalkLawsBesides
import Derived.Deep.QuietTactic
import Derived.BigQuiet
import Derived.Laws.CopyOwn
import Derived.Deep.RegionHeld3
/- What lies in memory: rows of records, and the plain data that they read as; searches by a bound. -/
namespace Go.Proofs.Ytdjpkgaicmklmaa
open Go.RowKit

theorem ret_bool {a b : Bool} (h : a = b) : Ending.returned (.bool a) = .returned (.bool b) := by rw [h]
theorem ret_int {k : IntKind} {a b : Int} (h : a = b) : Ending.returned (.int k a) = .returned (.int k b) := by rw [h]

/-- Behind a call that makes memory alone all that was there reads as before. -/
theorem bcell {W w1 : World} (hb : Below W.heap.size W w1) : (∀ b o, b < W.heap.size → w1.cell? ⟨b, o, none⟩ = W.cell? ⟨b, o, none⟩) ∧ (∀ b o, b < W.heap.size → w1.frozen? ⟨b, o, none⟩ = W.frozen? ⟨b, o, none⟩) :=
  ⟨fun b o h => hb.cell (p := ⟨b, o, none⟩) h, fun b o h => hb.frozen (p := ⟨b, o, none⟩) h⟩

/-- Is there one below the bound? -/
def anyTo (p : Nat → Bool) : Nat → Bool
  | 0 => false
  | k + 1 => anyTo p k || p k

theorem anyTo_hit {p : Nat → Bool} {k : Nat} : ∀ {n : Nat}, k < n → p k = true → anyTo p n = true
  | 0, h, _ => by omega
  | n + 1, h, hp => by
    by_cases e : k = n
    · subst e; simp [anyTo, hp]
    · simp [anyTo, anyTo_hit (n := n) (by omega) hp]

theorem anyTo_iff {p : Nat → Bool} : ∀ {n : Nat}, anyTo p n = true ↔ ∃ k, k < n ∧ p k = true
  | 0 => by simp [anyTo]
  | n + 1 => by
    simp only [anyTo, Bool.or_eq_true, anyTo_iff (n := n)]
    constructor
    · rintro (⟨k, h, hp⟩ | h)
      · exact ⟨k, by omega, hp⟩
      · exact ⟨n, by omega, h⟩
    · rintro ⟨k, h, hp⟩
      by_cases e : k = n
      · subst e; exact Or.inr hp
      · exact Or.inl ⟨k, by omega, hp⟩

theorem anyTo_no {p : Nat → Bool} {k : Nat} (h : anyTo p k = false) (hp : p k = false) : anyTo p (k + 1) = false := by simp [anyTo, h, hp]

theorem anyTo_congr {p q : Nat → Bool} {n : Nat} (h : ∀ i, i < n → p i = q i) : anyTo p n = anyTo q n := by
  induction n with
  | zero => rfl
  | succ n ih => simp only [anyTo]; rw [ih (fun i hi => h i (by omega)), h n (by omega)]

/-- Clocks, cards, edits, as plain data. -/
structure Ck where
  site : Int
  count : Int
structure Cd where
  id : Int
  site : Int
  count : Int
  gone : Bool
  text : ByteArray
structure Ed where
  id : Int
  text : ByteArray

abbrev Ck.cells (x : Ck) : List Value := [.int .i64 x.site, .int .i64 x.count]
abbrev Cd.cells (x : Cd) : List Value := [.int .i64 x.id, .int .i64 x.site, .int .i64 x.count, .bool x.gone, .string x.text]
abbrev Ed.cells (x : Ed) : List Value := [.int .i64 x.id, .string x.text]

/-- At the address lie n elements of m cells each. -/
def Lies (w : World) (a : Option Addr) (n m : Nat) (f : Nat → List Value) : Prop :=
  n = 0 ∨ ∃ b off, a = some ⟨b, off, none⟩ ∧ b < w.heap.size ∧ ∀ i, i < n → ∀ j v, j < m → (f i)[j]? = some v → w.cell? ⟨b, off + i * m + j, none⟩ = some v

theorem Lies.below {w w' : World} {a : Option Addr} {n m : Nat} {f : Nat → List Value} (h : Lies w a n m f) (hb : Below w.heap.size w w') : Lies w' a n m f := by
  rcases h with h | ⟨b, off, ha, hlt, hc⟩
  · exact Or.inl h
  · refine Or.inr ⟨b, off, ha, Nat.lt_of_lt_of_le hlt hb.size, fun i hi j v hj hv => ?_⟩
    rw [hb.cell (p := ⟨b, off + i * m + j, none⟩) hlt]
    exact hc i hi j v hj hv

theorem Lies.at {w : World} {a : Option Addr} {n m : Nat} {f : Nat → List Value} (h : Lies w a n m f) {P : Program} {t : TypeId} (cap : Nat)
    (ht : P.underlying t = some (.slice (P.elem t))) (hs : (P.info? (P.elem t)).map (·.size) = some m) {k : Nat} (hk : k < n) :
    ∃ b o, b < w.heap.size ∧ (∀ w', (Instr.indexAt t (.slice a n cap) (.int .i64 (k : Int))).run P w' = .ok (.pointer (some ⟨b, o, none⟩)) w') ∧
      ∀ j v, j < m → (f k)[j]? = some v → w.cell? ⟨b, o + j, none⟩ = some v := by
  rcases h with h | ⟨b, off, rfl, hlt, hc⟩
  · omega
  · refine ⟨b, off + k * m, hlt, fun w' => ?_, fun j v hj hv => hc k hk j v hj hv⟩
    cases hq : P.info? (P.elem t) with
    | none => simp [hq] at hs
    | some i =>
      have hi : i.size = m := by simpa [hq] using hs
      rw [run_indexAt_slice w' t _ n cap .i64 (k : Int) ht, if_pos (by omega)]
      have hz : (sizeOf (P.elem t)).run P w' = .ok m w' := by simp [sizeOf, typeInfo, hq, hi]
      rw [hz]
      simp only [Result.andThen_ok, Addr.add, Int.toNat_natCast]
      by_cases h0 : k * m = 0
      · rw [if_pos h0, h0]; rfl
      · rw [if_neg h0]

theorem Lies.clock {w : World} {a : Option Addr} {n : Nat} {c : Nat → Ck} (h : Lies w a n 2 (fun i => (c i).cells)) (cap : Nat) {k : Nat} (hk : k < n) :
    ∃ b o, b < w.heap.size ∧ (∀ w', (Instr.indexAt 22 (.slice a n cap) (.int .i64 (k : Int))).run Try.prog w' = .ok (.pointer (some ⟨b, o, none⟩)) w') ∧
      w.cell? ⟨b, o, none⟩ = some (.int .i64 (c k).site) ∧ w.cell? ⟨b, o + 1, none⟩ = some (.int .i64 (c k).count) := by
  obtain ⟨b, o, hb, hi, hc⟩ := h.at cap (P := Try.prog) (t := 22) (by kernel_rfl) (by kernel_rfl) hk
  exact ⟨b, o, hb, hi, hc 0 _ (by omega) rfl, hc 1 _ (by omega) rfl⟩
theorem Lies.card {w : World} {a : Option Addr} {n : Nat} {c : Nat → Cd} (h : Lies w a n 5 (fun i => (c i).cells)) (cap : Nat) {k : Nat} (hk : k < n) :
    ∃ b o, b < w.heap.size ∧ (∀ w', (Instr.indexAt 23 (.slice a n cap) (.int .i64 (k : Int))).run Try.prog w' = .ok (.pointer (some ⟨b, o, none⟩)) w') ∧
      w.cell? ⟨b, o, none⟩ = some (.int .i64 (c k).id) ∧ w.cell? ⟨b, o + 1, none⟩ = some (.int .i64 (c k).site) ∧ w.cell? ⟨b, o + 2, none⟩ = some (.int .i64 (c k).count) ∧
      w.cell? ⟨b, o + 3, none⟩ = some (.bool (c k).gone) ∧ w.cell? ⟨b, o + 4, none⟩ = some (.string (c k).text) := by
  obtain ⟨b, o, hb, hi, hc⟩ := h.at cap (P := Try.prog) (t := 23) (by kernel_rfl) (by kernel_rfl) hk
  exact ⟨b, o, hb, hi, hc 0 _ (by omega) rfl, hc 1 _ (by omega) rfl, hc 2 _ (by omega) rfl, hc 3 _ (by omega) rfl, hc 4 _ (by omega) rfl⟩
theorem Lies.edit {w : World} {a : Option Addr} {n : Nat} {c : Nat → Ed} (h : Lies w a n 2 (fun i => (c i).cells)) (cap : Nat) {k : Nat} (hk : k < n) :
    ∃ b o, b < w.heap.size ∧ (∀ w', (Instr.indexAt 24 (.slice a n cap) (.int .i64 (k : Int))).run Try.prog w' = .ok (.pointer (some ⟨b, o, none⟩)) w') ∧
      w.cell? ⟨b, o, none⟩ = some (.int .i64 (c k).id) ∧ w.cell? ⟨b, o + 1, none⟩ = some (.string (c k).text) := by
  obtain ⟨b, o, hb, hi, hc⟩ := h.at cap (P := Try.prog) (t := 24) (by kernel_rfl) (by kernel_rfl) hk
  exact ⟨b, o, hb, hi, hc 0 _ (by omega) rfl, hc 1 _ (by omega) rfl⟩
end Go.Proofs.Ytdjpkgaicmklmaa

/- The program's own tests of a replica (package sound), walked. -/
namespace Go.Proofs.Ytdjpkgaicmklmaa
open Go.RowKit

/-- out of 1 .. m. -/
def outB (n m : Int) : Bool := decide (n < 1) || decide (m < n)

set_option maxHeartbeats 400000 in
theorem within_any (n lo hi : Int) (w : World) :
    Calls Try.prog 80 #[.int .i64 n, .int .i64 lo, .int .i64 hi] w fun e w' => e = .returned (.bool (decide (lo ≤ n) && decide (n ≤ hi))) ∧ w' = w := by
  go_enter Try.func80, Try.ntmps80
  go_wp2
  all_goals (go_ret; refine ⟨ret_bool ?_, rfl⟩; simp; try omega)

theorem within_out (n m : Int) (w : World) :
    Calls Try.prog 80 #[.int .i64 n, .int .i64 1, .int .i64 m] w fun e w' => e = .returned (.bool (!outB n m)) ∧ w' = w := by
  refine (within_any n 1 m w).mono ?_
  rintro e w' ⟨rfl, rfl⟩
  refine ⟨ret_bool ?_, rfl⟩
  unfold outB
  by_cases h1 : n < 1 <;> by_cases h2 : m < n <;> simp [h1, h2] <;> omega

set_option maxHeartbeats 400000 in
theorem outOfRange_any (n m : Int) (w : World) :
    Calls Try.prog 117 #[.int .i64 n, .int .i64 m] w fun e w' => e = .returned (.bool (outB n m)) ∧ w' = w := by
  go_enter Try.func117, Try.ntmps117
  go_wp2
  all_goals (go_ret; refine ⟨ret_bool ?_, rfl⟩; simp [outB]; try omega)

/-- a Site or a Count that may not be. -/
def scB (s c : Int) : Bool := outB s 200 || outB c 4611686018427387904

set_option maxHeartbeats 400000 in
theorem wrongSiteOrCount_any (s c : Int) (w : World) :
    Calls Try.prog 116 #[.int .i64 s, .int .i64 c] w fun e w' => e = .returned (.bool (scB s c)) ∧ w' = w := by
  cases h : outB s 200
  · go_enter Try.func116, Try.ntmps116
    go_wp2_with (go_at_call 117; refine (outOfRange_any _ _ _).mono ?_; rintro e w' ⟨rfl, rfl⟩)
    go_ret; exact ⟨ret_bool (by simp [scB, h]), rfl⟩
  · go_enter Try.func116, Try.ntmps116
    go_wp2_with (go_at_call 117; refine (outOfRange_any _ _ _).mono ?_; rintro e w' ⟨rfl, rfl⟩)
    go_ret; exact ⟨ret_bool (by simp [scB, h]), rfl⟩

/-- A replica's three rows. -/
structure Rep where
  n1 : Nat
  n2 : Nat
  n3 : Nat
  c : Nat → Ck
  d : Nat → Cd
  e : Nat → Ed

/-- A replica lies in the world: its rows' addresses. -/
structure Has (w : World) (R : Rep) (a1 a2 a3 : Option Addr) : Prop where
  l1 : Lies w a1 R.n1 2 (fun i => (R.c i).cells)
  l2 : Lies w a2 R.n2 5 (fun i => (R.d i).cells)
  l3 : Lies w a3 R.n3 2 (fun i => (R.e i).cells)
  b1 : R.n1 ≤ 140737488355328
  b2 : R.n2 ≤ 140737488355328
  b3 : R.n3 ≤ 140737488355328
  y1 : 16 * R.n1 ≤ 140737488355328
  y2 : 48 * R.n2 ≤ 140737488355328
  y3 : 24 * R.n3 ≤ 140737488355328

theorem Has.below {w w' : World} {R : Rep} {a1 a2 a3 : Option Addr} (h : Has w R a1 a2 a3) (hb : Below w.heap.size w w') : Has w' R a1 a2 a3 :=
  ⟨h.l1.below hb, h.l2.below hb, h.l3.below hb, h.b1, h.b2, h.b3, h.y1, h.y2, h.y3⟩

abbrev repV (R : Rep) (a1 a2 a3 : Option Addr) (k1 k2 k3 : Nat) : Value := .agg #[.slice a1 R.n1 k1, .slice a2 R.n2 k2, .slice a3 R.n3 k3]

def Rep.num1 (R : Rep) (i : Nat) : Bool := scB (R.c i).site (R.c i).count
def Rep.num2 (R : Rep) (i : Nat) : Bool := scB (R.d i).site (R.d i).count || outB (R.d i).id 4611686018427387904
def Rep.num3 (R : Rep) (i : Nat) : Bool := outB (R.e i).id 4611686018427387904
/-- ErrNumber. -/
def Rep.numB (R : Rep) : Bool := anyTo R.num1 R.n1 || (anyTo R.num2 R.n2 || anyTo R.num3 R.n3)

/-- The box of a struct parameter, behind whatever was laid or drawn since. -/
theorem box3 {w wr : World} {x y z : Value} {t : TypeId} (hb : Below (w.heap.size + 1) (w.alloc (.cells #[x, y, z] t)) wr) :
    wr.cell? ⟨w.heap.size, 0, none⟩ = some x ∧ wr.cell? ⟨w.heap.size, 1, none⟩ = some y ∧ wr.cell? ⟨w.heap.size, 2, none⟩ = some z := by
  refine ⟨?_, ?_, ?_⟩
  · rw [hb.cell (p := ⟨w.heap.size, 0, none⟩) (by simp), World.cell?_alloc_new]; rfl
  · rw [hb.cell (p := ⟨w.heap.size, 1, none⟩) (by simp), World.cell?_alloc_new]; rfl
  · rw [hb.cell (p := ⟨w.heap.size, 2, none⟩) (by simp), World.cell?_alloc_new]; rfl

theorem below_box {w wr : World} {o : Obj} (hb : Below (w.heap.size + 1) (w.alloc o) wr) : Below w.heap.size w wr :=
  ((Below.refl _ _).alloc (Nat.le_refl _) o).trans (hb.mono (by omega))

/-- What each loop over a replica's rows carries. -/
abbrev BoxR (w : World) (R : Rep) (a1 a2 a3 : Option Addr) (k1 k2 k3 : Nat) (wr : World) : Prop :=
  Below (w.heap.size + 1) (w.alloc (.cells #[.slice a1 R.n1 k1, .slice a2 R.n2 k2, .slice a3 R.n3 k3] 26)) wr

/-- a text that is too long. -/
def longB (t : ByteArray) : Bool := decide ((60 : Int) < (t.size : Int))
def Rep.txt2 (R : Rep) (i : Nat) : Bool := longB (R.d i).text || ((R.d i).gone && !(R.d i).text.toList.isEmpty)
def Rep.txt3 (R : Rep) (i : Nat) : Bool := longB (R.e i).text
/-- ErrText. -/
def Rep.txtB (R : Rep) : Bool := anyTo R.txt2 R.n2 || anyTo R.txt3 R.n3

def Rep.ris1 (R : Rep) (i : Nat) : Bool := decide ((R.c (i + 1)).site ≤ (R.c i).site)
def Rep.ris2 (R : Rep) (i : Nat) : Bool := decide ((R.d (i + 1)).id ≤ (R.d i).id)
/-- ErrRise. -/
def Rep.risB (R : Rep) : Bool := anyTo R.ris1 (R.n1 - 1) || anyTo R.ris2 (R.n2 - 1)

/-- The Count of a site's clock, of the first k; 0 if there is none. -/
def clockTo (c : Nat → Ck) (site : Int) : Nat → Option Int
  | 0 => none
  | k + 1 => match clockTo c site k with
    | some x => some x
    | none => if (c k).site = site then some (c k).count else none
def Rep.clk (R : Rep) (site : Int) : Int := (clockTo R.c site R.n1).getD 0
def Rep.unc (R : Rep) (i : Nat) : Bool := decide (R.clk (R.d i).site < (R.d i).count)
/-- ErrStamp. -/
def Rep.uncB (R : Rep) : Bool := anyTo R.unc R.n2
def stampB (x y : Cd) : Bool := x.site == y.site && x.count == y.count
def Rep.clash (R : Rep) (i : Nat) : Bool := anyTo (fun k => stampB (R.d i) (R.d k)) i
/-- ErrClash. -/
def Rep.clashB (R : Rep) : Bool := anyTo R.clash R.n2
/-- ErrMany. -/
def Rep.manyB (R : Rep) : Bool := decide (8 < R.n1) || (decide (40 < R.n2) || decide (16 < R.n3))
/-- P3. -/
def Rep.chk (R : Rep) : Int :=
  if R.manyB then 1 else if R.numB then 2 else if R.txtB then 3 else if R.risB then 4 else if R.uncB then 5 else if R.clashB then 6 else 0

theorem clockTo_hit {c : Nat → Ck} {site : Int} {k : Nat} : ∀ {n : Nat}, k < n → clockTo c site k = none → (c k).site = site → clockTo c site n = some (c k).count
  | 0, h, _, _ => by omega
  | n + 1, h, h0, hp => by
    by_cases e : k = n
    · subst e; simp [clockTo, h0, hp]
    · simp [clockTo, clockTo_hit (n := n) (by omega) h0 hp]
theorem clockTo_no {c : Nat → Ck} {site : Int} {k : Nat} (h : clockTo c site k = none) (hp : ¬ (c k).site = site) : clockTo c site (k + 1) = none := by simp [clockTo, h, hp]

end Go.Proofs.Ytdjpkgaicmklmaa

/- Rows that a call makes itself: make, copy and stores of whole records, as laws for the walk. -/
namespace Go.Proofs.Ytdjpkgaicmklmaa
open Go.RowKit

/-! ### Rows of records of one length, laid flat -/
def Even (m : Nat) (rows : List (List Value)) : Prop := ∀ r, r ∈ rows → r.length = m

theorem Even.nil (m : Nat) : Even m [] := by intro r h; cases h
theorem Even.cons {m : Nat} {r : List Value} {rows : List (List Value)} (h : Even m (r :: rows)) : r.length = m ∧ Even m rows :=
  ⟨h r (by simp), fun x hx => h x (by simp [hx])⟩
theorem Even.append {m : Nat} {a b : List (List Value)} (ha : Even m a) (hb : Even m b) : Even m (a ++ b) := by
  intro r h; rcases List.mem_append.1 h with h | h
  · exact ha r h
  · exact hb r h
theorem Even.drop {m : Nat} {a : List (List Value)} (ha : Even m a) (k : Nat) : Even m (a.drop k) := fun r h => ha r (List.mem_of_mem_drop h)
theorem Even.take {m : Nat} {a : List (List Value)} (ha : Even m a) (k : Nat) : Even m (a.take k) := fun r h => ha r (List.mem_of_mem_take h)
theorem Even.set {m : Nat} {a : List (List Value)} (ha : Even m a) (k : Nat) {v : List Value} (hv : v.length = m) : Even m (a.set k v) := by
  intro r h; rcases List.mem_or_eq_of_mem_set h with h | h
  · exact ha r h
  · subst h; exact hv
theorem Even.range {m : Nat} {f : Nat → List Value} (n : Nat) (hf : ∀ i, i < n → (f i).length = m) : Even m ((List.range n).map f) := by
  intro r h
  obtain ⟨i, hi, rfl⟩ := List.mem_map.1 h
  exact hf i (List.mem_range.1 hi)
theorem Even.replicate {m : Nat} {z : List Value} (n : Nat) (hz : z.length = m) : Even m (List.replicate n z) := by
  intro r h; rw [List.eq_of_mem_replicate h]; exact hz

theorem Even.length {m : Nat} : ∀ {rows : List (List Value)}, Even m rows → rows.flatten.length = rows.length * m
  | [], _ => by simp
  | r :: rows, h => by
    have := h.cons
    simp only [List.flatten_cons, List.length_append, List.length_cons, this.1, this.2.length]
    rw [Nat.add_mul]; omega

theorem Even.at {m : Nat} : ∀ {rows : List (List Value)}, Even m rows → ∀ (i j : Nat), j < m → i < rows.length → rows.flatten[i * m + j]? = (rows.getD i [])[j]?
  | [], _, i, j, _, hi => by simp at hi
  | r :: rows, h, 0, j, hj, _ => by
    have := h.cons
    simp only [List.flatten_cons]
    rw [List.getElem?_append_left (by omega)]
    simp
  | r :: rows, h, i + 1, j, hj, hi => by
    have := h.cons
    simp only [List.flatten_cons]
    rw [List.getElem?_append_right (by rw [this.1, Nat.add_mul]; omega)]
    have e : (i + 1) * m + j - r.length = i * m + j := by rw [this.1, Nat.add_mul]; omega
    rw [e, this.2.at i j hj (by simpa using hi)]
    simp

theorem Even.takeFlat {m : Nat} : ∀ {rows : List (List Value)}, Even m rows → ∀ k, rows.flatten.take (k * m) = (rows.take k).flatten
  | [], _, k => by simp
  | r :: rows, h, 0 => by simp
  | r :: rows, h, k + 1 => by
    have := h.cons
    simp only [List.flatten_cons, List.take_succ_cons]
    rw [List.take_append, this.1]
    have e : (k + 1) * m - m = k * m := by rw [Nat.add_mul]; omega
    rw [e, this.2.takeFlat k, List.take_of_length_le (by rw [this.1, Nat.add_mul]; omega)]

theorem Even.dropFlat {m : Nat} : ∀ {rows : List (List Value)}, Even m rows → ∀ k, rows.flatten.drop (k * m) = (rows.drop k).flatten
  | [], _, k => by simp
  | r :: rows, h, 0 => by simp
  | r :: rows, h, k + 1 => by
    have := h.cons
    simp only [List.flatten_cons, List.drop_succ_cons]
    rw [List.drop_append, this.1]
    have e : (k + 1) * m - m = k * m := by rw [Nat.add_mul]; omega
    rw [e, this.2.dropFlat k, List.drop_of_length_le (by rw [this.1, Nat.add_mul]; omega)]
    simp

/-- One-cell values. -/
def Ones (rows : List (List Value)) : Prop := ∀ r, r ∈ rows → ∀ v, v ∈ r → v.oneCell' = true
theorem Ones.append {a b : List (List Value)} (ha : Ones a) (hb : Ones b) : Ones (a ++ b) := by
  intro r h; rcases List.mem_append.1 h with h | h
  · exact ha r h
  · exact hb r h
theorem Ones.drop {a : List (List Value)} (ha : Ones a) (k : Nat) : Ones (a.drop k) := fun r h => ha r (List.mem_of_mem_drop h)
theorem Ones.set {a : List (List Value)} (ha : Ones a) (k : Nat) {v : List Value} (hv : ∀ x, x ∈ v → x.oneCell' = true) : Ones (a.set k v) := by
  intro r h; rcases List.mem_or_eq_of_mem_set h with h | h
  · exact ha r h
  · subst h; exact hv
theorem Ones.range {f : Nat → List Value} (n : Nat) (hf : ∀ i, i < n → ∀ v, v ∈ f i → v.oneCell' = true) : Ones ((List.range n).map f) := by
  intro r h
  obtain ⟨i, hi, rfl⟩ := List.mem_map.1 h
  exact hf i (List.mem_range.1 hi)

/-- Block g holds these rows and nothing else; nothing of it is frozen. -/
structure Own (w : World) (g e m : Nat) (rows : List (List Value)) : Prop where
  even : Even m rows
  block : w.heap[g]? = some (.cells rows.flatten.toArray e (0, 0))

theorem Own.lt {w : World} {g e m : Nat} {rows : List (List Value)} (h : Own w g e m rows) : g < w.heap.size := (Array.getElem?_eq_some_iff.1 h.block).1

theorem Own.cell {w : World} {g e m : Nat} {rows : List (List Value)} (h : Own w g e m rows) (i j : Nat) (hi : i < rows.length) (hj : j < m) :
    w.cell? ⟨g, i * m + j, none⟩ = (rows.getD i [])[j]? := by
  rw [← h.even.at i j hj hi]
  simp [World.cell?, h.block]

theorem Own.lies {w : World} {g e m : Nat} {rows : List (List Value)} (h : Own w g e m rows) (n : Nat) (f : Nat → List Value) (hn : n ≤ rows.length) (hf : ∀ i, i < n → rows.getD i [] = f i) :
    Lies w (some ⟨g, 0, none⟩) n m f := by
  refine Or.inr ⟨g, 0, rfl, h.lt, fun i hi j v hj hv => ?_⟩
  rw [show 0 + i * m + j = i * m + j by omega, h.cell i j (by omega) hj, hf i hi]
  exact hv

theorem Own.below {w w' : World} {B g e m : Nat} {rows : List (List Value)} (h : Own w g e m rows) (hb : Below B w w') (hg : g < B) : Own w' g e m rows :=
  ⟨h.even, by rw [hb.block g hg]; exact h.block⟩

/-- Block g alone has turned. -/
structure Upd (g : Nat) (w w' : World) : Prop where
  os : w'.os = w.os
  tape : w'.tape = w.tape
  output : w'.output = w.output
  size : w'.heap.size = w.heap.size
  block : ∀ k, k ≠ g → w'.heap[k]? = w.heap[k]?

theorem Upd.below {g B : Nat} {w0 w w' : World} (h : Upd g w w') (hb : Below B w0 w) (hg : B ≤ g) : Below B w0 w' :=
  hb.trans ⟨h.os, h.tape, h.output, by rw [h.size]; exact Nat.le_refl _, fun k hk => h.block k (by omega)⟩

theorem Own.upd {w w' : World} {g g' e m : Nat} {rows : List (List Value)} (h : Own w g e m rows) (hb : Upd g' w w') (hg : g ≠ g') : Own w' g e m rows :=
  ⟨h.even, by rw [hb.block g hg]; exact h.block⟩

theorem Upd.setRow (w : World) (g : Nat) (c : Array Value) : Upd g w (w.setRow g c) :=
  ⟨rfl, rfl, rfl, by simp [World.setRow], fun k hk => setRow_other w g k c hk⟩

theorem Upd.refl (g : Nat) (w : World) : Upd g w w := ⟨rfl, rfl, rfl, rfl, fun _ _ => rfl⟩
theorem Upd.trans {g : Nat} {a b c : World} (h : Upd g a b) (k : Upd g b c) : Upd g a c :=
  ⟨k.os.trans h.os, k.tape.trans h.tape, k.output.trans h.output, k.size.trans h.size, fun i hi => (k.block i hi).trans (h.block i hi)⟩
theorem Upd.drew {g : Nat} {a b : World} (h : Upd g a b) : Upd g a b.drew := h.trans ⟨rfl, rfl, rfl, rfl, fun _ _ => rfl⟩
theorem Upd.drewN {g : Nat} {a b : World} (h : Upd g a b) (n : Nat) : Upd g a (b.drewN n) := h.trans ⟨rfl, rfl, rfl, rfl, fun _ _ => rfl⟩
theorem Upd.setCell {g : Nat} {a b : World} (h : Upd g a b) (p : Addr) (hp : p.block = g) (v : Value) : Upd g a (b.setCell p v) :=
  h.trans ⟨rfl, rfl, rfl, by simp [World.setCell], fun k hk => Below.heap_setCell _ _ _ _ (by omega)⟩

theorem addr_add (b off j : Nat) : (⟨b, off, none⟩ : Addr).add j = ⟨b, off + j, none⟩ := by
  unfold Addr.add
  by_cases h : j = 0 <;> simp [h]

section
variable {P : Program} {w : World} {ops : Array Oper} {rest : List Oper} {o : Oper} {a : Act} {Q : Exit → Act → World → Prop}

theorem madeCells_flat (zs : List Value) (m n : Nat) (hm : zs.length = m) (h0 : 0 < m) : madeCells zs.toArray (n * m) = (List.replicate n zs).flatten.toArray := by
  have hE := Even.replicate (m := m) n hm
  apply Array.ext_getElem?
  intro k
  by_cases hk : k < n * m
  · have h1 : (madeCells zs.toArray (n * m))[k]? = some (zs.toArray[k % zs.toArray.size]!) := by
      simp [madeCells, hk]
    rw [h1]
    have hq : k / m < n := Nat.div_lt_of_lt_mul (by rw [Nat.mul_comm]; exact hk)
    have hr : k % m < m := Nat.mod_lt _ h0
    have hk2 : k = k / m * m + k % m := by rw [Nat.mul_comm]; exact (Nat.div_add_mod k m).symm
    have h2 : (List.replicate n zs).flatten[k]? = zs[k % m]? := by
      have := hE.at (k / m) (k % m) hr (by simpa using hq)
      rw [← hk2] at this
      rw [this]
      simp [List.getD, hq]
    simp only [List.getElem?_toArray, h2, List.size_toArray, hm]
    rw [List.getElem?_eq_getElem (by omega)]
    simp [hm, hr]
  · have h1 : (madeCells zs.toArray (n * m)).size ≤ k := by rw [size_madeCells]; omega
    rw [Array.getElem?_eq_none h1]
    rw [List.getElem?_toArray, List.getElem?_eq_none]
    rw [hE.length]; simp; omega

/-- 'make([]T, n)', T of m cells. -/
theorem wpList_make_rows (hg : o.guard = none) (l c : Operand) (t : TypeId) (hop : o.op = Op.makeSlice t l c) (e : TypeId) (zs : List Value) (m bytes : Nat)
    (ht : P.underlying t = some (.slice e)) (hinfo : (P.info? e).map (fun i => (i.zero, i.size, i.bytes)) = some (some (.agg zs.toArray), m, bytes)) (hm : zs.length = m) (h0 : 0 < m)
    (n : Nat) (N : Int) (hN : N = (n : Int)) (hl : a.eval l = .int .i64 N) (hc : a.eval c = .int .i64 N) (hbytes : bytes * n ≤ 281474976710656) (h63 : n ≤ 9223372036854775807)
    (h : ∀ g ad w', Hid (ad = some ⟨g, 0, none⟩) → w.heap.size ≤ g → g < w'.heap.size → Own w' g e m (List.replicate n zs) → Below w.heap.size w w' → wpList P ops Q rest (a.put o.dst (.slice ad n n)) w') :
    wpList P ops Q (o :: rest) a w := by
  subst hN
  obtain ⟨i, hi, hzz⟩ := Option.map_eq_some_iff.1 hinfo
  simp only [Prod.mk.injEq] at hzz
  obtain ⟨hz, hs, hb⟩ := hzz
  refine wpList_plain hg fun K hK => ?_
  have hb' : (i.bytes : Int) * (n : Int) ≤ 281474976710656 := by
    have h : ((i.bytes * n : Nat) : Int) ≤ 281474976710656 := by rw [hb]; omega
    rwa [Int.natCast_mul] at h
  have hr := run_make (P := P) w t e i (.agg zs.toArray) ht hi hz .i64 .i64 (n : Int) (n : Int) (by omega) (Int.le_refl _) hb' (by omega)
  simp only [Int.toNat_natCast, hs, Value.cells, madeCells_flat zs m n hm h0] at hr
  unfold Oper.wp
  simp [execOp, hop, hl, hc, hr, Result.andThen]
  refine hK _ _ (h w.heap.size _ _ rfl (Nat.le_refl _) (by simp) ⟨Even.replicate n hm, ?_⟩ ((Below.refl _ _).alloc (Nat.le_refl _) _))
  show (w.heap.push _)[w.heap.size]? = _
  rw [Array.getElem?_push_size]

theorem run_copy_rows (w : World) (dT sT ty e : TypeId) (g N cap n scap m : Nat) (src : Option Addr) (f : Nat → List Value) (rows : List (List Value))
    (hu : P.underlying dT = some (.slice e)) (hs : (P.info? e).map (·.size) = some m) (hown : Own w g e m rows) (hN : rows.length = N) (hn : n ≤ N) (hL : Lies w src n m f)
    (hf : ∀ i, i < n → (f i).length = m) (h1 : ∀ i, i < n → ∀ v, v ∈ f i → v.oneCell' = true) :
    ∃ w', (Builtin.copy_ #[dT, sT] ty #[.slice (some ⟨g, 0, none⟩) N cap, .slice src n scap]).run P w = .ok (goInt n) w' ∧
      Own w' g e m ((List.range n).map f ++ rows.drop n) ∧ Upd g w w' := by
  have hE : Even m ((List.range n).map f) := Even.range n hf
  have hEl : ((List.range n).map f).flatten.length = n * m := by rw [hE.length]; simp
  have hmin : Nat.min n N = n := Nat.min_eq_left hn
  cases hq : P.info? e with
  | none => simp [hq] at hs
  | some i =>
    have hi : i.size = m := by simpa [hq] using hs
    have hst := run_storeCells_at P g 0 e ((List.range n).map f).flatten 0 rows.flatten.toArray w hown.block (by
        simp only [List.size_toArray, hown.even.length, hEl, hN, Nat.zero_add]; exact Nat.mul_le_mul_right _ hn) (by
        intro v hv
        obtain ⟨r, hr, hv⟩ := List.mem_flatten.1 hv
        exact Ones.range n h1 r hr v hv)
    refine ⟨w.setRow g (((List.range n).map f ++ rows.drop n).flatten).toArray, ?_, ⟨hE.append (hown.even.drop n), setRow_heap w g _ _ e _ hown.block⟩, Upd.setRow _ _ _⟩
    have e1 : (0 + 0 + ((List.range n).map f).flatten.length) = n * m := by rw [hEl]; omega
    rw [e1, show (0 + 0 : Nat) = 0 from rfl] at hst
    simp only [List.take_zero, List.nil_append, hown.even.dropFlat n] at hst
    rw [← List.flatten_append] at hst
    have hload : (Builtin.firstCells m n (.slice src n scap)).run P w = .ok ((List.range n).map f).flatten.toArray w := by
      rcases hL with h0 | ⟨b, off, rfl, _, hc⟩
      · subst h0
        cases src with
        | none => simp [Builtin.firstCells]
        | some ad => simp [Builtin.firstCells, loadCells, loadCellsFrom]
      · simp only [Builtin.firstCells]
        rw [← hEl]
        refine run_loadCells_list w _ _ fun j v hj => ?_
        have hjl : j < n * m := by
          rcases Nat.lt_or_ge j (n * m) with h | h
          · exact h
          · rw [List.getElem?_eq_none (by omega)] at hj; cases hj
        have h0 : 0 < m := by rcases Nat.eq_zero_or_pos m with h | h; (subst h; simp at hjl); exact h
        have hk2 : j = j / m * m + j % m := by rw [Nat.mul_comm]; exact (Nat.div_add_mod j m).symm
        have hqn : j / m < n := Nat.div_lt_of_lt_mul (by rw [Nat.mul_comm]; exact hjl)
        have hr : j % m < m := Nat.mod_lt _ h0
        have hat := hE.at (j / m) (j % m) hr (by simpa using hqn)
        rw [← hk2, hj] at hat
        have hget : ((List.range n).map f).getD (j / m) [] = f (j / m) := by simp [List.getD, hqn]
        rw [hget] at hat
        have hcell := hc (j / m) hqn (j % m) v hr hat.symm
        rw [addr_add]
        rw [show off + j / m * m + j % m = off + j by omega] at hcell
        exact hcell
    simp [Builtin.copy_, run_underlying hu, Builtin.lenOf, sizeOf, typeInfo, hq, hi, hmin, hload]
    simpa using congrArg (fun r => r.andThen fun _ w' => Result.ok (goInt n) w') hst

/-- 'copy(dst, src)', dst a row of the call's own that begins at its block's head. -/
theorem wpList_copy_rows (hgd : o.guard = none) (d s : Operand) (dT sT : TypeId) (ho : o.op = .call { callee := .builtin .copy, args := #[d, s], argTypes := #[dT, sT] }) (e m : Nat)
    (hu : P.underlying dT = some (.slice e)) (hs : (P.info? e).map (·.size) = some m) (g : Nat) (ad : Option Addr) (hg : Hid (ad = some ⟨g, 0, none⟩)) (N cap n scap : Nat) (src : Option Addr)
    (hd : a.eval d = .slice ad N cap) (hsrc : a.eval s = .slice src n scap) (f : Nat → List Value) (rows : List (List Value)) (hown : Own w g e m rows) (hN : rows.length = N) (hn : n ≤ N) (hL : Lies w src n m f)
    (hf : ∀ i, i < n → (f i).length = m) (h1 : ∀ i, i < n → ∀ v, v ∈ f i → v.oneCell' = true)
    (h : ∀ w', Own w' g e m ((List.range n).map f ++ rows.drop n) → Upd g w w' → wpList P ops Q rest (a.put o.dst (goInt n)) w') : wpList P ops Q (o :: rest) a w := by
  have hg' := hg.out
  subst hg'
  obtain ⟨w', hrun, h2, h3⟩ := run_copy_rows (P := P) w dT sT o.type e g N cap n scap m src f rows hu hs hown hN hn hL hf h1
  refine wpList_plain hgd fun K hK => ?_
  unfold Oper.wp
  simp [execOp, ho, resolve, invoke, builtin, hd, hsrc, hrun, Result.andThen]
  exact hK _ _ (h w' h2 h3)

/-- 's[i] = T{..}' into a row of the call's own. -/
theorem wpList_store_rows (hgd : o.guard = none) (p v : Operand) (t : TypeId) (ho : o.op = .store t p v) (e m : Nat) (hs : (P.info? t).map (·.size) = some m) (g i : Nat) (ad : Addr) (had : ad = ⟨g, i * m, none⟩)
    (hp : a.eval p = .pointer (some ad)) (vs : List Value) (hv : a.eval v = .agg vs.toArray) (hm : vs.length = m) (h1 : ∀ x, x ∈ vs → x.oneCell' = true) (rows : List (List Value)) (hown : Own w g e m rows) (hi : i < rows.length)
    (h : ∀ w', Own w' g e m (rows.set i vs) → Upd g w w' → wpList P ops Q rest (a.put o.dst undef) w') : wpList P ops Q (o :: rest) a w := by
  subst had
  refine wpList_plain hgd fun K hK => ?_
  have hfit : i * m + 0 + vs.length ≤ rows.flatten.toArray.size := by
    simp only [List.size_toArray, hown.even.length, hm, Nat.add_zero]
    have : (i + 1) * m ≤ rows.length * m := Nat.mul_le_mul_right _ hi
    rw [Nat.add_mul] at this; omega
  have hst := run_storeCells_at P g (i * m) e vs 0 rows.flatten.toArray w hown.block hfit h1
  have e1 : i * m + 0 + vs.length = (i + 1) * m := by rw [hm, Nat.add_mul]; omega
  have hset : rows.set i vs = rows.take i ++ vs :: rows.drop (i + 1) := by
    rw [List.set_eq_take_append_cons_drop, if_pos hi]
  have e2 : rows.flatten.toArray.toList.take (i * m + 0) ++ vs ++ rows.flatten.toArray.toList.drop (i * m + 0 + vs.length) = (rows.set i vs).flatten := by
    rw [e1, Nat.add_zero, hset]
    simp only [hown.even.takeFlat i, hown.even.dropFlat (i + 1)]
    simp
  rw [e2] at hst
  cases hq : P.info? t with
  | none => simp [hq] at hs
  | some inf =>
    have hi' : inf.size = m := by simpa [hq] using hs
    unfold Oper.wp
    simp [execOp, ho, hp, hv, Instr.storeAt, Instr.sureAddr, storeVar, sizeOf, typeInfo, hq, hi', Value.cells, hm, hst, Result.andThen]
    exact hK _ _ (h _ ⟨hown.even.set i hm, setRow_heap w g _ _ e _ hown.block⟩ (Upd.setRow _ _ _))
end

theorem Own.idx {ad : Option Addr} {g : Nat} (had : Hid (ad = some ⟨g, 0, none⟩)) {P : Program} {t : TypeId} {m : Nat} (n cap : Nat)
    (ht : P.underlying t = some (.slice (P.elem t))) (hs : (P.info? (P.elem t)).map (·.size) = some m) {k : Nat} (hk : k < n) (N : Int) (hN : N = (k : Int)) (w' : World) :
    (Instr.indexAt t (.slice ad n cap) (.int .i64 N)).run P w' = .ok (.pointer (some ⟨g, k * m, none⟩)) w' := by
  subst hN
  rw [had.out]
  cases hq : P.info? (P.elem t) with
  | none => simp [hq] at hs
  | some i =>
    have hi : i.size = m := by simpa [hq] using hs
    rw [run_indexAt_slice w' t _ n cap .i64 (k : Int) ht, if_pos (by omega)]
    have hz : (sizeOf (P.elem t)).run P w' = .ok m w' := by simp [sizeOf, typeInfo, hq, hi]
    rw [hz]
    simp only [Result.andThen_ok, Int.toNat_natCast, addr_add, Nat.zero_add]
end Go.Proofs.Ytdjpkgaicmklmaa

/- parcellaw.handed: a copy of a replica with spare room, walked. -/
namespace Go.Proofs.Ytdjpkgaicmklmaa
open Go.RowKit

abbrev mk1 : List Value := [.int .i64 (-7), .int .i64 0]
abbrev mk2 : List Value := [.int .i64 (-7), .int .i64 0, .int .i64 0, .bool false, .string ⟨#[]⟩]
abbrev mk3 : List Value := [.int .i64 (-7), .string ⟨#[]⟩]
abbrev z1 : List Value := [.int .i64 0, .int .i64 0]
abbrev z2 : List Value := [.int .i64 0, .int .i64 0, .int .i64 0, .bool false, .string ⟨#[]⟩]
abbrev z3 : List Value := [.int .i64 0, .string ⟨#[]⟩]

/-- A copy of a replica, with two marks behind each row. -/
structure Handed (w : World) (R : Rep) (b1 b2 b3 : Option Addr) (g1 g2 g3 : Nat) : Prop where
  e1 : b1 = some ⟨g1, 0, none⟩
  e2 : b2 = some ⟨g2, 0, none⟩
  e3 : b3 = some ⟨g3, 0, none⟩
  o1 : Own w g1 67 2 ((List.range R.n1).map (fun i => (R.c i).cells) ++ [mk1, mk1])
  o2 : Own w g2 69 5 ((List.range R.n2).map (fun i => (R.d i).cells) ++ [mk2, mk2])
  o3 : Own w g3 71 2 ((List.range R.n3).map (fun i => (R.e i).cells) ++ [mk3, mk3])
  d12 : g1 < g2
  d23 : g2 < g3

/-- Two places behind a row, the first i of them marked. -/
def mrk (i : Nat) (m z : List Value) : List (List Value) := if i = 0 then [z, z] else if i = 1 then [m, z] else [m, m]
theorem mrk_start (n : Nat) (f : Nat → List Value) (m z : List Value) : (List.range n).map f ++ (List.replicate (n + 2) z).drop n = (List.range n).map f ++ mrk 0 m z := by
  congr 1
  rw [List.drop_replicate, show n + 2 - n = 2 by omega]; rfl
theorem mrk_length (n i : Nat) (f : Nat → List Value) (m z : List Value) : ((List.range n).map f ++ mrk i m z).length = n + 2 := by
  unfold mrk; split; (simp); split <;> simp
theorem mrk_step (n i : Nat) (f : Nat → List Value) (m z : List Value) (hi : i < 2) : ((List.range n).map f ++ mrk i m z).set (n + i) m = (List.range n).map f ++ mrk (i + 1) m z := by
  rw [List.set_append]
  simp only [List.length_map, List.length_range]
  rw [if_neg (by omega), show n + i - n = i by omega]
  congr 1
  rcases (by omega : i = 0 ∨ i = 1) with rfl | rfl <;> rfl
theorem mrk_end (m z : List Value) : mrk 2 m z = [m, m] := rfl

/-- The world behind the parameter's box and the result's cell. -/
abbrev W2 (w : World) (R : Rep) (a1 a2 a3 : Option Addr) (k1 k2 k3 : Nat) : World :=
  (w.alloc (.cells #[.slice a1 R.n1 k1, .slice a2 R.n2 k2, .slice a3 R.n3 k3] 26)).alloc (.cells #[.slice none 0 0, .slice none 0 0, .slice none 0 0] 26)
abbrev Box2 (w : World) (R : Rep) (a1 a2 a3 : Option Addr) (k1 k2 k3 : Nat) (wr : World) : Prop := Below (w.heap.size + 2) (W2 w R a1 a2 a3 k1 k2 k3) wr

theorem Box2.cells {w : World} {R : Rep} {a1 a2 a3 : Option Addr} {k1 k2 k3 : Nat} {wr : World} (hb : Box2 w R a1 a2 a3 k1 k2 k3 wr) :
    wr.cell? ⟨w.heap.size, 0, none⟩ = some (.slice a1 R.n1 k1) ∧ wr.cell? ⟨w.heap.size, 1, none⟩ = some (.slice a2 R.n2 k2) ∧ wr.cell? ⟨w.heap.size, 2, none⟩ = some (.slice a3 R.n3 k3) := by
  refine ⟨?_, ?_, ?_⟩
  · rw [hb.cell (p := ⟨w.heap.size, 0, none⟩) (by simp)]; simp
  · rw [hb.cell (p := ⟨w.heap.size, 1, none⟩) (by simp)]; simp
  · rw [hb.cell (p := ⟨w.heap.size, 2, none⟩) (by simp)]; simp
theorem Box2.size {w : World} {R : Rep} {a1 a2 a3 : Option Addr} {k1 k2 k3 : Nat} {wr : World} (hb : Box2 w R a1 a2 a3 k1 k2 k3 wr) : w.heap.size + 2 ≤ wr.heap.size := by
  have := Below.size hb; simpa using this
theorem Box2.res {w : World} {R : Rep} {a1 a2 a3 : Option Addr} {k1 k2 k3 : Nat} {wr : World} (hb : Box2 w R a1 a2 a3 k1 k2 k3 wr) :
    (wr.cell? ⟨w.heap.size + 1, 0, none⟩ = some (.slice none 0 0) ∧ wr.cell? ⟨w.heap.size + 1, 1, none⟩ = some (.slice none 0 0) ∧ wr.cell? ⟨w.heap.size + 1, 2, none⟩ = some (.slice none 0 0)) ∧
    (∀ j, wr.frozen? ⟨w.heap.size + 1, j, none⟩ = false) := by
  refine ⟨⟨?_, ?_, ?_⟩, fun j => ?_⟩
  · rw [hb.cell (p := ⟨w.heap.size + 1, 0, none⟩) (by simp)]; simp
  · rw [hb.cell (p := ⟨w.heap.size + 1, 1, none⟩) (by simp)]; simp
  · rw [hb.cell (p := ⟨w.heap.size + 1, 2, none⟩) (by simp)]; simp
  · rw [hb.frozen (p := ⟨w.heap.size + 1, j, none⟩) (by simp)]; simp
theorem Box2.old {w : World} {R : Rep} {a1 a2 a3 : Option Addr} {k1 k2 k3 : Nat} {wr : World} (hb : Box2 w R a1 a2 a3 k1 k2 k3 wr) : Below w.heap.size w wr :=
  (((Below.refl _ w).alloc (Nat.le_refl _) _).alloc (by simp) _).trans (hb.mono (by omega))
theorem Box2.step {w : World} {R : Rep} {a1 a2 a3 : Option Addr} {k1 k2 k3 : Nat} {wr w' : World} (hb : Box2 w R a1 a2 a3 k1 k2 k3 wr) (h : Below wr.heap.size wr w') : Box2 w R a1 a2 a3 k1 k2 k3 w' :=
  Below.trans hb (h.mono hb.size)

theorem set3 (wr : World) (b : Nat) (x y z u0 u1 u2 : Value) (h0 : wr.cell? ⟨b, 0, none⟩ = some u0) (h1 : wr.cell? ⟨b, 1, none⟩ = some u1) (h2 : wr.cell? ⟨b, 2, none⟩ = some u2) :
    ∃ X, X = (((wr.setCell ⟨b, 0, none⟩ x).setCell ⟨b, 1, none⟩ y).setCell ⟨b, 2, none⟩ z).drew ∧ X.cell? ⟨b, 0, none⟩ = some x ∧ X.cell? ⟨b, 1, none⟩ = some y ∧ X.cell? ⟨b, 2, none⟩ = some z ∧ Upd b wr X := by
  refine ⟨_, rfl, ?_, ?_, ?_, ((((Upd.refl b wr).setCell ⟨b, 0, none⟩ rfl x).setCell ⟨b, 1, none⟩ rfl y).setCell ⟨b, 2, none⟩ rfl z).drew⟩ <;> simp [go_sem, h0, h1, h2]
theorem cells_len1 (x : Ck) : x.cells.length = 2 := rfl
theorem ones1 (x : Ck) : ∀ v, v ∈ x.cells → v.oneCell' = true := by intro v h; simp at h; rcases h with rfl | rfl <;> rfl
theorem ones2 (x : Cd) : ∀ v, v ∈ x.cells → v.oneCell' = true := by intro v h; simp at h; rcases h with rfl | rfl | rfl | rfl | rfl <;> rfl
theorem ones3 (x : Ed) : ∀ v, v ∈ x.cells → v.oneCell' = true := by intro v h; simp at h; rcases h with rfl | rfl <;> rfl

set_option maxRecDepth 100000 in
set_option maxHeartbeats 4000000 in
theorem handed_any (R : Rep) (a1 a2 a3 : Option Addr) (k1 k2 k3 : Nat) (w : World) (hR : Has w R a1 a2 a3) :
    Calls Try.prog 14 #[repV R a1 a2 a3 k1 k2 k3] w fun e w' => ∃ b1 b2 b3 g1 g2 g3, e = .returned (repV R b1 b2 b3 (R.n1 + 2) (R.n2 + 2) (R.n3 + 2)) ∧ Handed w' R b1 b2 b3 g1 g2 g3 ∧ w.heap.size ≤ g1 ∧ Below w.heap.size w w' := by
  have b1 := hR.b1; have b2 := hR.b2; have b3 := hR.b3; have y1 := hR.y1; have y2 := hR.y2; have y3 := hR.y3
  go_enter Try.func14, Try.ntmps14
  go_wp2_with (first
    | (at_make; refine wpList_make_rows (by rfl) _ _ 22 (by rfl) 67 z1 2 16 Try.underlying22 (by kernel_rfl) rfl (by decide) (R.n1 + 2) _ ?_ (by rfl) (by rfl) ?_ ?_ ?_; (omega); (omega); (omega); intro g1 ad1 w1 e1 hg1 hl1 o1 hb1; have q1 : Box2 w R a1 a2 a3 k1 k2 k3 w1 := hb1.mono (by simp); clear hb1; obtain ⟨c11, c12, c13⟩ := q1.cells; have hL1 := (hR.below q1.old).l1; simp only [World.size_alloc] at hg1)
    | (at_make; refine wpList_make_rows (by rfl) _ _ 23 (by rfl) 69 z2 5 48 Try.underlying23 (by kernel_rfl) rfl (by decide) (R.n2 + 2) _ ?_ (by rfl) (by rfl) ?_ ?_ ?_; (omega); (omega); (omega); intro g2 ad2 w3 e2 hg2 hl3 o2 hb3; have q3 : Box2 w R a1 a2 a3 k1 k2 k3 w3 := q2.step hb3; have o13 := o1'.below hb3 hl2; obtain ⟨c31, c32, c33⟩ := q3.cells; have hL3 := (hR.below q3.old).l2; have hg12 : g1 < g2 := (by omega); clear q2 c21 c22 c23 hL2 o1' hb3 hl2 hg2)
    | (at_make; refine wpList_make_rows (by rfl) _ _ 24 (by rfl) 71 z3 2 24 Try.underlying24 (by kernel_rfl) rfl (by decide) (R.n3 + 2) _ ?_ (by rfl) (by rfl) ?_ ?_ ?_; (omega); (omega); (omega); intro g3 ad3 w5 e3 hg3 hl5 o3 hb5; have q5 : Box2 w R a1 a2 a3 k1 k2 k3 w5 := q4.step hb5; have o15 := o14.below hb5 (by omega); have o25 := o2'.below hb5 hl4; obtain ⟨c51, c52, c53⟩ := q5.cells; have hL5 := (hR.below q5.old).l3; have hg23 : g2 < g3 := (by omega); clear q4 c41 c42 c43 o14 o2' hb5 hl4 hg3)
    | (refine wpList_copy_rows (by rfl) _ _ 22 22 (by rfl) 67 2 Try.underlying22 (by kernel_rfl) g1 ad1 e1 (R.n1 + 2) _ R.n1 _ _ (by rfl) (by rfl) (fun i => (R.c i).cells) _ o1 ?_ ?_ hL1 ?_ ?_ ?_; (simp); (omega); (intro i _; rfl); (intro i _; exact ones1 _); intro w2 o1' u2; have q2 : Box2 w R a1 a2 a3 k1 k2 k3 w2 := u2.below q1 (by omega); obtain ⟨c21, c22, c23⟩ := q2.cells; have hl2 : g1 < w2.heap.size := o1'.lt; have hL2 := (hR.below q2.old).l2; clear q1 c11 c12 c13 hL1 o1 u2 hl1)
    | (refine wpList_copy_rows (by rfl) _ _ 23 23 (by rfl) 69 5 Try.underlying23 (by kernel_rfl) g2 ad2 e2 (R.n2 + 2) _ R.n2 _ _ (by rfl) (by rfl) (fun i => (R.d i).cells) _ o2 ?_ ?_ hL3 ?_ ?_ ?_; (simp); (omega); (intro i _; rfl); (intro i _; exact ones2 _); intro w4 o2' u4; have q4 : Box2 w R a1 a2 a3 k1 k2 k3 w4 := u4.below q3 (by omega); obtain ⟨c41, c42, c43⟩ := q4.cells; have hl4 : g2 < w4.heap.size := o2'.lt; have o14 := o13.upd u4 (by omega); clear q3 c31 c32 c33 hL3 o2 u4 o13 hl3)
    | (refine wpList_copy_rows (by rfl) _ _ 24 24 (by rfl) 71 2 Try.underlying24 (by kernel_rfl) g3 ad3 e3 (R.n3 + 2) _ R.n3 _ _ (by rfl) (by rfl) (fun i => (R.e i).cells) _ o3 ?_ ?_ hL5 ?_ ?_ ?_; (simp); (omega); (intro i _; rfl); (intro i _; exact ones3 _); intro w6 o3' u6; have q6 : Box2 w R a1 a2 a3 k1 k2 k3 w6 := u6.below q5 (by omega); have o16 := o15.upd u6 (by omega); have o26 := o25.upd u6 (by omega); clear q5 c51 c52 c53 hL5 o3 u6 o15 o25 hl5))
  rw [mrk_start _ _ mk1] at o16
  rw [mrk_start _ _ mk2] at o26
  rw [mrk_start _ _ mk3] at o3'
  go_loopw [6] (fun v wr => ∃ i : Nat, i ≤ 2 ∧ v = .int .i64 i ∧ Own wr g1 67 2 ((List.range R.n1).map (fun i => (R.c i).cells) ++ mrk i mk1 z1) ∧ Own wr g2 69 5 ((List.range R.n2).map (fun i => (R.d i).cells) ++ mrk i mk2 z2) ∧ Own wr g3 71 2 ((List.range R.n3).map (fun i => (R.e i).cells) ++ mrk i mk3 z3) ∧ Box2 w R a1 a2 a3 k1 k2 k3 wr) (fun v _ => 2 - (intOf v).toNat)
  case atStart => exact ⟨0, by omega, rfl, o16, o26, o3', q6⟩
  case round =>
    clear o16 o26 o3' q6
    obtain ⟨i, hi, rfl, o1, o2, o3, q⟩ := hrel
    obtain ⟨c1, c2, c3⟩ := q.cells
    by_cases hlt : i < 2
    · have x1 := fun w' => Own.idx e1 (P := Try.prog) (t := 22) (m := 2) (R.n1 + 2) (R.n1 + 2) (by kernel_rfl) (by kernel_rfl) (k := R.n1 + i) (by omega) ((R.n1 : Int) + (i : Int)) (by omega) w'
      have x2 := fun w' => Own.idx e2 (P := Try.prog) (t := 23) (m := 5) (R.n2 + 2) (R.n2 + 2) (by kernel_rfl) (by kernel_rfl) (k := R.n2 + i) (by omega) ((R.n2 : Int) + (i : Int)) (by omega) w'
      have x3 := fun w' => Own.idx e3 (P := Try.prog) (t := 24) (m := 2) (R.n3 + 2) (R.n3 + 2) (by kernel_rfl) (by kernel_rfl) (k := R.n3 + i) (by omega) ((R.n3 : Int) + (i : Int)) (by omega) w'
      go_wp2_with (first
        | (refine wpList_store_rows (by rfl) _ _ 67 (by rfl) 67 2 (by kernel_rfl) g1 (R.n1 + i) _ rfl (by rfl) mk1 (by rfl) rfl ?_ _ o1 ?_ ?_; (simp [Value.oneCell']); (rw [mrk_length]; omega); rw [mrk_step _ _ _ _ _ hlt]; intro wa oa ua; have ob := o2.upd ua (by omega); have oc := o3.upd ua (by omega); have qa : Box2 w R a1 a2 a3 k1 k2 k3 wa := ua.below q (by omega); obtain ⟨ca1, ca2, ca3⟩ := qa.cells; clear o1 o2 o3 q c1 c2 c3 ua)
        | (refine wpList_store_rows (by rfl) _ _ 69 (by rfl) 69 5 (by kernel_rfl) g2 (R.n2 + i) _ rfl (by rfl) mk2 (by rfl) rfl ?_ _ ob ?_ ?_; (simp [Value.oneCell']); (rw [mrk_length]; omega); rw [mrk_step _ _ _ _ _ hlt]; intro wb od ub; have oe := oa.upd ub (by omega); have of := oc.upd ub (by omega); have qb : Box2 w R a1 a2 a3 k1 k2 k3 wb := ub.below qa (by omega); obtain ⟨cb1, cb2, cb3⟩ := qb.cells; clear oa ob oc qa ca1 ca2 ca3 ub)
        | (refine wpList_store_rows (by rfl) _ _ 71 (by rfl) 71 2 (by kernel_rfl) g3 (R.n3 + i) _ rfl (by rfl) mk3 (by rfl) rfl ?_ _ of ?_ ?_; (simp [Value.oneCell']); (rw [mrk_length]; omega); rw [mrk_step _ _ _ _ _ hlt]; intro wc og uc; have oh := oe.upd uc (by omega); have oi := od.upd uc (by omega); have qc : Box2 w R a1 a2 a3 k1 k2 k3 wc := uc.below qb (by omega); clear od oe of qb cb1 cb2 cb3 uc))
      go_roundw
      case rel => exact ⟨i + 1, by omega, by go_num, oh, oi, og, qc⟩
      case measure => simp [intOf]; omega
    · obtain rfl : i = 2 := by omega
      rw [mrk_end] at o1 o2 o3
      obtain ⟨⟨r1, r2, r3⟩, rf⟩ := q.res
      have rf0 := rf 0; have rf1 := rf 1; have rf2 := rf 2
      have u1 : (0 : Int) ≤ (R.n1 : Int) := by omega
      have u2 : (R.n1 : Int) ≤ (R.n1 : Int) + 2 := by omega
      have u3 : (0 : Int) ≤ (R.n2 : Int) := by omega
      have u4 : (R.n2 : Int) ≤ (R.n2 : Int) + 2 := by omega
      have u5 : (0 : Int) ≤ (R.n3 : Int) := by omega
      have u6 : (R.n3 : Int) ≤ (R.n3 : Int) + 2 := by omega
      have hz := q.size
      go_wp2_with fail
      go_region_held3 (fun w' => w'.cell? ⟨w.heap.size, 0, none⟩ = some (.slice a1 R.n1 k1) ∧ w'.cell? ⟨w.heap.size, 1, none⟩ = some (.slice a2 R.n2 k2) ∧ w'.cell? ⟨w.heap.size, 2, none⟩ = some (.slice a3 R.n3 k3))
         (first | (go_keep; done))
         (fail)
      go_wp2_with fail
      obtain ⟨X, hX, x0, x1, x2, hu⟩ := set3 wr (w.heap.size + 1) (.slice ad1 R.n1 (R.n1 + 2)) (.slice ad2 R.n2 (R.n2 + 2)) (.slice ad3 R.n3 (R.n3 + 2)) _ _ _ r1 r2 r3
      rw [← hX]
      clear hX
      have hH : Handed X R ad1 ad2 ad3 g1 g2 g3 := ⟨e1.out, e2.out, e3.out, o1.upd hu (by omega), o2.upd hu (by omega), o3.upd hu (by omega), hg12, hg23⟩
      have hB : Below w.heap.size w X := hu.below q.old (by omega)
      have hgg : w.heap.size ≤ g1 := by omega
      refine bodyPost_ret (v := repV R ad1 ad2 ad3 (R.n1 + 2) (R.n2 + 2) (R.n3 + 2)) ?_ rfl ⟨ad1, ad2, ad3, g1, g2, g3, rfl, hH, hgg, hB⟩
      simp [results, Try.results14, go_sem, x0, x1, x2]
end Go.Proofs.Ytdjpkgaicmklmaa

/- parcellaw.sameReplica and parcellaw.still, walked, where the two replicas are the same. -/
namespace Go.Proofs.Ytdjpkgaicmklmaa
open Go.RowKit

/-- Two boxes. -/
abbrev BoxS (w : World) (R : Rep) (a1 a2 a3 b1 b2 b3 : Option Addr) (k1 k2 k3 l1 l2 l3 : Nat) (wr : World) : Prop :=
  Below (w.heap.size + 2) ((w.alloc (.cells #[.slice a1 R.n1 k1, .slice a2 R.n2 k2, .slice a3 R.n3 k3] 26)).alloc (.cells #[.slice b1 R.n1 l1, .slice b2 R.n2 l2, .slice b3 R.n3 l3] 26)) wr

theorem BoxS.cells {w : World} {R : Rep} {a1 a2 a3 b1 b2 b3 : Option Addr} {k1 k2 k3 l1 l2 l3 : Nat} {wr : World} (hb : BoxS w R a1 a2 a3 b1 b2 b3 k1 k2 k3 l1 l2 l3 wr) :
    (wr.cell? ⟨w.heap.size, 0, none⟩ = some (.slice a1 R.n1 k1) ∧ wr.cell? ⟨w.heap.size, 1, none⟩ = some (.slice a2 R.n2 k2) ∧ wr.cell? ⟨w.heap.size, 2, none⟩ = some (.slice a3 R.n3 k3)) ∧
    wr.cell? ⟨w.heap.size + 1, 0, none⟩ = some (.slice b1 R.n1 l1) ∧ wr.cell? ⟨w.heap.size + 1, 1, none⟩ = some (.slice b2 R.n2 l2) ∧ wr.cell? ⟨w.heap.size + 1, 2, none⟩ = some (.slice b3 R.n3 l3) := by
  refine ⟨⟨?_, ?_, ?_⟩, ?_, ?_, ?_⟩
  · rw [hb.cell (p := ⟨w.heap.size, 0, none⟩) (by simp)]; simp
  · rw [hb.cell (p := ⟨w.heap.size, 1, none⟩) (by simp)]; simp
  · rw [hb.cell (p := ⟨w.heap.size, 2, none⟩) (by simp)]; simp
  · rw [hb.cell (p := ⟨w.heap.size + 1, 0, none⟩) (by simp)]; simp
  · rw [hb.cell (p := ⟨w.heap.size + 1, 1, none⟩) (by simp)]; simp
  · rw [hb.cell (p := ⟨w.heap.size + 1, 2, none⟩) (by simp)]; simp
theorem BoxS.old {w : World} {R : Rep} {a1 a2 a3 b1 b2 b3 : Option Addr} {k1 k2 k3 l1 l2 l3 : Nat} {wr : World} (hb : BoxS w R a1 a2 a3 b1 b2 b3 k1 k2 k3 l1 l2 l3 wr) : Below w.heap.size w wr :=
  (((Below.refl _ w).alloc (Nat.le_refl _) _).alloc (by simp) _).trans (hb.mono (by omega))
theorem BoxS.size {w : World} {R : Rep} {a1 a2 a3 b1 b2 b3 : Option Addr} {k1 k2 k3 l1 l2 l3 : Nat} {wr : World} (hb : BoxS w R a1 a2 a3 b1 b2 b3 k1 k2 k3 l1 l2 l3 wr) : w.heap.size + 2 ≤ wr.heap.size := by
  have := Below.size hb; simpa using this

set_option maxRecDepth 100000 in
set_option maxHeartbeats 4000000 in
theorem sameReplica_any (R : Rep) (a1 a2 a3 b1 b2 b3 : Option Addr) (k1 k2 k3 l1 l2 l3 : Nat) (w : World) (hA : Has w R a1 a2 a3) (hB : Has w R b1 b2 b3) :
    Calls Try.prog 40 #[repV R a1 a2 a3 k1 k2 k3, repV R b1 b2 b3 l1 l2 l3] w fun e w' => e = .returned (.bool true) ∧ Below w.heap.size w w' := by
  have y1 := hA.b1; have y2 := hA.b2; have y3 := hA.b3
  go_enter Try.func40, Try.ntmps40
  go_wp2
  go_loopw [5] (fun i wr => ∃ k : Nat, k ≤ R.n1 ∧ i = .int .i64 k ∧ BoxS w R a1 a2 a3 b1 b2 b3 k1 k2 k3 l1 l2 l3 wr) (fun i _ => R.n1 - (intOf i).toNat)
  case atStart => exact ⟨0, Nat.zero_le _, rfl, Below.refl _ _⟩
  case round =>
    obtain ⟨k, hk, rfl, hb⟩ := hrel
    obtain ⟨⟨x1, x2, x3⟩, z1, z2, z3⟩ := hb.cells
    by_cases hlt : k < R.n1
    · obtain ⟨b, o, hbl, hix, hs, hc⟩ := (hA.below hb.old).l1.clock k1 hlt
      obtain ⟨b', o', hbl', hix', hs', hc'⟩ := (hB.below hb.old).l1.clock l1 hlt
      go_wp2
      go_quiet (fail)
      go_wp2
      go_roundw
      case rel => exact ⟨k + 1, by omega, by go_num, below_drewN hb _⟩
      case measure => simp [intOf]; omega
    · go_wp2
      go_loopw [6] (fun i wr => ∃ k : Nat, k ≤ R.n2 ∧ i = .int .i64 k ∧ BoxS w R a1 a2 a3 b1 b2 b3 k1 k2 k3 l1 l2 l3 wr) (fun i _ => R.n2 - (intOf i).toNat)
      case atStart => exact ⟨0, Nat.zero_le _, rfl, hb⟩
      case round =>
        clear x1 x2 x3 z1 z2 z3 hb hk hlt
        obtain ⟨k, hk, rfl, hb⟩ := hrel
        obtain ⟨⟨x1, x2, x3⟩, z1, z2, z3⟩ := hb.cells
        by_cases hlt : k < R.n2
        · obtain ⟨b, o, hbl, hix, c1, c2, c3, c4, c5⟩ := (hA.below hb.old).l2.card k2 hlt
          obtain ⟨b', o', hbl', hix', d1, d2, d3, d4, d5⟩ := (hB.below hb.old).l2.card l2 hlt
          go_wp2
          go_quiet (fail)
          go_wp2
          go_roundw
          case rel => exact ⟨k + 1, by omega, by go_num, below_drewN hb _⟩
          case measure => simp [intOf]; omega
        · go_wp2
          go_loopw [7] (fun i wr => ∃ k : Nat, k ≤ R.n3 ∧ i = .int .i64 k ∧ BoxS w R a1 a2 a3 b1 b2 b3 k1 k2 k3 l1 l2 l3 wr) (fun i _ => R.n3 - (intOf i).toNat)
          case atStart => exact ⟨0, Nat.zero_le _, rfl, hb⟩
          case round =>
            clear x1 x2 x3 z1 z2 z3 hb hk hlt
            obtain ⟨k, hk, rfl, hb⟩ := hrel
            obtain ⟨⟨x1, x2, x3⟩, z1, z2, z3⟩ := hb.cells
            by_cases hlt : k < R.n3
            · obtain ⟨b, o, hbl, hix, c1, c2⟩ := (hA.below hb.old).l3.edit k3 hlt
              obtain ⟨b', o', hbl', hix', d1, d2⟩ := (hB.below hb.old).l3.edit l3 hlt
              go_wp2
              go_quiet (fail)
              go_wp2
              go_roundw
              case rel => exact ⟨k + 1, by omega, by go_num, below_drewN hb _⟩
              case measure => simp [intOf]; omega
            · go_wp2
              go_ret
              exact ⟨rfl, hb.old⟩

theorem Own.mark {w : World} {g e m n i : Nat} {f : Nat → List Value} {mk : List Value} (h : Own w g e m ((List.range n).map f ++ [mk, mk])) (hi : i < 2) (hm : 0 < m) {v : Value} (hv : mk[0]? = some v) : w.cell? ⟨g, (n + i) * m, none⟩ = some v := by
  have hc := h.cell (n + i) 0 (by simp; omega) hm
  rw [Nat.add_zero] at hc
  rw [hc]
  have hg : ((List.range n).map f ++ [mk, mk]).getD (n + i) [] = mk := by
    rw [List.getD, List.getElem?_append_right (by simp)]
    simp only [List.length_map, List.length_range, show n + i - n = i by omega]
    rcases (by omega : i = 0 ∨ i = 1) with rfl | rfl <;> rfl
  rw [hg, hv]

theorem Handed.has {w : World} {R : Rep} {a1 a2 a3 b1 b2 b3 : Option Addr} {g1 g2 g3 : Nat} (h : Handed w R b1 b2 b3 g1 g2 g3) {w0 : World} (hR : Has w0 R a1 a2 a3) : Has w R b1 b2 b3 := by
  refine ⟨?_, ?_, ?_, hR.b1, hR.b2, hR.b3, hR.y1, hR.y2, hR.y3⟩
  · rw [h.e1]; refine h.o1.lies R.n1 _ (by simp) fun i hi => ?_
    rw [List.getD, List.getElem?_append_left (by simpa using hi)]; simp [hi]
  · rw [h.e2]; refine h.o2.lies R.n2 _ (by simp) fun i hi => ?_
    rw [List.getD, List.getElem?_append_left (by simpa using hi)]; simp [hi]
  · rw [h.e3]; refine h.o3.lies R.n3 _ (by simp) fun i hi => ?_
    rw [List.getD, List.getElem?_append_left (by simpa using hi)]; simp [hi]

theorem Handed.below {w w' : World} {R : Rep} {b1 b2 b3 : Option Addr} {g1 g2 g3 : Nat} (h : Handed w R b1 b2 b3 g1 g2 g3) (hb : Below w.heap.size w w') : Handed w' R b1 b2 b3 g1 g2 g3 :=
  ⟨h.e1, h.e2, h.e3, h.o1.below hb h.o1.lt, h.o2.below hb h.o2.lt, h.o3.below hb h.o3.lt, h.d12, h.d23⟩

theorem boxS_step {w : World} {R : Rep} {a1 a2 a3 b1 b2 b3 : Option Addr} {k1 k2 k3 l1 l2 l3 : Nat} {wr w' : World} (hb : BoxS w R a1 a2 a3 b1 b2 b3 k1 k2 k3 l1 l2 l3 wr) (h : Below wr.heap.size wr w') : BoxS w R a1 a2 a3 b1 b2 b3 k1 k2 k3 l1 l2 l3 w' :=
  Below.trans hb (h.mono hb.size)

set_option maxRecDepth 100000 in
set_option maxHeartbeats 4000000 in
theorem still_any (R : Rep) (a1 a2 a3 b1 b2 b3 : Option Addr) (g1 g2 g3 k1 k2 k3 : Nat) (w : World) (hA : Has w R a1 a2 a3) (hH : Handed w R b1 b2 b3 g1 g2 g3) :
    Calls Try.prog 17 #[repV R b1 b2 b3 (R.n1 + 2) (R.n2 + 2) (R.n3 + 2), repV R a1 a2 a3 k1 k2 k3] w fun e w' => e = .returned (.bool true) ∧ Below w.heap.size w w' := by
  have y1 := hA.b1; have y2 := hA.b2; have y3 := hA.b3
  have u1 : (0 : Int) ≤ (R.n1 : Int) + 2 := by omega
  have u3 : (0 : Int) ≤ (R.n2 : Int) + 2 := by omega
  have u5 : (0 : Int) ≤ (R.n3 : Int) + 2 := by omega
  have hb0 : BoxS w R b1 b2 b3 a1 a2 a3 (R.n1 + 2) (R.n2 + 2) (R.n3 + 2) k1 k2 k3 ((w.alloc (.cells #[.slice b1 R.n1 (R.n1 + 2), .slice b2 R.n2 (R.n2 + 2), .slice b3 R.n3 (R.n3 + 2)] 26)).alloc (.cells #[.slice a1 R.n1 k1, .slice a2 R.n2 k2, .slice a3 R.n3 k3] 26)) := Below.refl _ _
  go_enter Try.func17, Try.ntmps17
  go_wp2_with fail
  refine (sameReplica_any R b1 b2 b3 a1 a2 a3 _ _ _ _ _ _ _ ((hH.has hA).below hb0.old) (hA.below hb0.old)).mono ?_
  rintro e w1 ⟨rfl, h1⟩
  have hb1 := boxS_step hb0 h1
  clear h1 hb0
  obtain ⟨⟨x1, x2, x3⟩, z1, z2, z3⟩ := hb1.cells
  go_wp2_with fail
  go_loop [9] (fun v => ∃ i : Nat, i ≤ 2 ∧ v = .int .i64 i) (fun v => 2 - (intOf v).toNat)
  case atStart => exact ⟨0, by omega, rfl⟩
  case round =>
    obtain ⟨i, hi, rfl⟩ := hrel
    have hH1 := hH.below hb1.old
    by_cases hlt : i < 2
    · have e1 : Hid (b1 = some ⟨g1, 0, none⟩) := hH.e1
      have e2 : Hid (b2 = some ⟨g2, 0, none⟩) := hH.e2
      have e3 : Hid (b3 = some ⟨g3, 0, none⟩) := hH.e3
      have v1 := fun w' => Own.idx e1 (P := Try.prog) (t := 22) (m := 2) (R.n1 + 2) (R.n1 + 2) (by kernel_rfl) (by kernel_rfl) (k := R.n1 + i) (by omega) ((R.n1 : Int) + (i : Int)) (by omega) w'
      have v2 := fun w' => Own.idx e2 (P := Try.prog) (t := 23) (m := 5) (R.n2 + 2) (R.n2 + 2) (by kernel_rfl) (by kernel_rfl) (k := R.n2 + i) (by omega) ((R.n2 : Int) + (i : Int)) (by omega) w'
      have v3 := fun w' => Own.idx e3 (P := Try.prog) (t := 24) (m := 2) (R.n3 + 2) (R.n3 + 2) (by kernel_rfl) (by kernel_rfl) (k := R.n3 + i) (by omega) ((R.n3 : Int) + (i : Int)) (by omega) w'
      have c1 := hH1.o1.mark hlt (by omega) (v := .int .i64 (-7)) rfl
      have c2 := hH1.o2.mark hlt (by omega) (v := .int .i64 (-7)) rfl
      have c3 := hH1.o3.mark hlt (by omega) (v := .int .i64 (-7)) rfl
      go_wp2_with fail
      go_round
      case rel => exact ⟨i + 1, by omega, by go_num⟩
      case measure => simp [intOf]; omega
    · go_wp2_with fail
      go_ret
      exact ⟨rfl, hb1.old⟩
end Go.Proofs.Ytdjpkgaicmklmaa

/- parcelref.numbered, walked. -/
namespace Go.Proofs.Ytdjpkgaicmklmaa
open Go.RowKit

set_option maxHeartbeats 4000000 in
theorem numbered_any (R : Rep) (a1 a2 a3 : Option Addr) (k1 k2 k3 : Nat) (w : World) (hR : Has w R a1 a2 a3) :
    Calls Try.prog 36 #[repV R a1 a2 a3 k1 k2 k3] w fun e w' => e = .returned (.bool (!R.numB)) ∧ Below w.heap.size w w' := by
  have b1 := hR.b1; have b2 := hR.b2; have b3 := hR.b3
  go_enter Try.func36, Try.ntmps36
  go_wp2
  go_loopw [3, 4] (fun v i wr => ∃ (k : Nat) (x : Bool), k ≤ R.n1 ∧ i = .int .i64 k ∧ v = .bool x ∧ (x = !anyTo R.num1 k) ∧ BoxR w R a1 a2 a3 k1 k2 k3 wr) (fun _ i _ => R.n1 - (intOf i).toNat)
  case atStart => exact ⟨0, true, Nat.zero_le _, rfl, rfl, rfl, Below.refl _ _⟩
  case round =>
    obtain ⟨k, x, hk, rfl, rfl, hx, hb⟩ := hrel
    obtain ⟨x1, x2, x3⟩ := box3 hb
    have HX : Hid (x = !anyTo R.num1 k) := hx
    clear hx
    by_cases hlt : k < R.n1
    · obtain ⟨b, o, hbl, hix, hs, hc⟩ := (hR.below (below_box hb)).l1.clock k1 hlt
      go_wp2_with (go_at_call 80; refine (within_out _ _ _).mono ?_; rintro e w' ⟨rfl, rfl⟩)
      all_goals
        go_roundw
        case rel =>
          refine ⟨k + 1, _, by omega, by go_num, rfl, ?_, hb⟩
          have h := HX.out
          simp only [anyTo, Rep.num1, scB]
          revert h
          simp [*]
          try (cases anyTo R.num1 k <;> simp [*])
        case measure => simp [intOf]; omega
    · have e1 : k = R.n1 := by omega
      have N1 : Hid (x = !anyTo R.num1 R.n1) := e1 ▸ HX.out
      clear HX e1
      go_wp2
      go_loopw [3, 7] (fun v i wr => ∃ (k : Nat) (x : Bool), k ≤ R.n2 ∧ i = .int .i64 k ∧ v = .bool x ∧ (x = !(anyTo R.num1 R.n1 || anyTo R.num2 k)) ∧ BoxR w R a1 a2 a3 k1 k2 k3 wr) (fun _ i _ => R.n2 - (intOf i).toNat)
      case atStart => exact ⟨0, x, Nat.zero_le _, rfl, rfl, by rw [N1.out]; simp [anyTo], hb⟩
      case round =>
        clear x1 x2 x3 hb hk hlt N1
        obtain ⟨k, x, hk, rfl, rfl, hx, hb⟩ := hrel
        obtain ⟨x1, x2, x3⟩ := box3 hb
        have HX : Hid (x = !(anyTo R.num1 R.n1 || anyTo R.num2 k)) := hx
        clear hx
        by_cases hlt : k < R.n2
        · obtain ⟨b, o, hbl, hix, hi, hs, hc, -, -⟩ := (hR.below (below_box hb)).l2.card k2 hlt
          go_wp2_with (go_at_call 80; refine (within_out _ _ _).mono ?_; rintro e w' ⟨rfl, rfl⟩)
          all_goals
            go_roundw
            case rel =>
              refine ⟨k + 1, _, by omega, by go_num, rfl, ?_, hb⟩
              have h := HX.out
              simp only [anyTo, Rep.num2, scB]
              revert h
              simp [*]
              try (cases anyTo R.num1 R.n1 <;> cases anyTo R.num2 k <;> simp [*])
            case measure => simp [intOf]; omega
        · have e1 : k = R.n2 := by omega
          have N1 : Hid (x = !(anyTo R.num1 R.n1 || anyTo R.num2 R.n2)) := e1 ▸ HX.out
          clear HX e1
          go_wp2
          go_loopw [3, 11] (fun v i wr => ∃ (k : Nat) (x : Bool), k ≤ R.n3 ∧ i = .int .i64 k ∧ v = .bool x ∧ (x = !(anyTo R.num1 R.n1 || (anyTo R.num2 R.n2 || anyTo R.num3 k))) ∧ BoxR w R a1 a2 a3 k1 k2 k3 wr) (fun _ i _ => R.n3 - (intOf i).toNat)
          case atStart => exact ⟨0, x, Nat.zero_le _, rfl, rfl, by rw [N1.out]; simp [anyTo], hb⟩
          case round =>
            clear x1 x2 x3 hb hk hlt N1
            obtain ⟨k, x, hk, rfl, rfl, hx, hb⟩ := hrel
            obtain ⟨x1, x2, x3⟩ := box3 hb
            have HX : Hid (x = !(anyTo R.num1 R.n1 || (anyTo R.num2 R.n2 || anyTo R.num3 k))) := hx
            clear hx
            by_cases hlt : k < R.n3
            · obtain ⟨b, o, hbl, hix, hi, -⟩ := (hR.below (below_box hb)).l3.edit k3 hlt
              go_wp2_with (go_at_call 80; refine (within_out _ _ _).mono ?_; rintro e w' ⟨rfl, rfl⟩)
              all_goals
                go_roundw
                case rel =>
                  refine ⟨k + 1, _, by omega, by go_num, rfl, ?_, hb⟩
                  have h := HX.out
                  simp only [anyTo, Rep.num3]
                  revert h
                  simp [*]
                  try (cases anyTo R.num1 R.n1 <;> cases anyTo R.num2 R.n2 <;> cases anyTo R.num3 k <;> simp [*])
                case measure => simp [intOf]; omega
            · have e1 : k = R.n3 := by omega
              have N1 : Hid (x = !(anyTo R.num1 R.n1 || (anyTo R.num2 R.n2 || anyTo R.num3 R.n3))) := e1 ▸ HX.out
              clear HX e1
              go_wp2
              go_ret
              exact ⟨ret_bool N1.out, below_box hb⟩
end Go.Proofs.Ytdjpkgaicmklmaa

/- parcelref.texted, walked. -/
namespace Go.Proofs.Ytdjpkgaicmklmaa
open Go.RowKit

set_option maxHeartbeats 2000000 in
theorem texted_any (R : Rep) (a1 a2 a3 : Option Addr) (k1 k2 k3 : Nat) (w : World) (hR : Has w R a1 a2 a3) :
    Calls Try.prog 37 #[repV R a1 a2 a3 k1 k2 k3] w fun e w' => e = .returned (.bool (!R.txtB)) ∧ Below w.heap.size w w' := by
  have b1 := hR.b1; have b2 := hR.b2; have b3 := hR.b3
  go_enter Try.func37, Try.ntmps37
  go_wp2
  go_loopw [3] (fun i wr => ∃ k : Nat, k ≤ R.n2 ∧ i = .int .i64 k ∧ anyTo R.txt2 k = false ∧ BoxR w R a1 a2 a3 k1 k2 k3 wr) (fun i _ => R.n2 - (intOf i).toNat)
  case atStart => exact ⟨0, Nat.zero_le _, rfl, rfl, Below.refl _ _⟩
  case round =>
    obtain ⟨k, hk, rfl, hno, hb⟩ := hrel
    obtain ⟨x1, x2, x3⟩ := box3 hb
    have HN : Hid (anyTo R.txt2 k = false) := hno
    clear hno
    by_cases hlt : k < R.n2
    · obtain ⟨b, o, hbl, hix, -, -, -, hg, ht⟩ := (hR.below (below_box hb)).l2.card k2 hlt
      go_wp2
      · have h1 : ((R.d k).text.size : Int) ≤ 60 := by assumption
        have h2 : (R.d k).gone = true := by assumption
        have h3 : 60 < ((R.d k).text.size : Int) ∨ (!(R.d k).text.toList.isEmpty) = true := by assumption
        have h4 : (!(R.d k).text.toList.isEmpty) = true := by rcases h3 with h | h; (omega); exact h
        have hp : R.txt2 k = true := by unfold Rep.txt2; simp only [h2, h4]; simp
        go_ret
        exact ⟨ret_bool (by simp [Rep.txtB, anyTo_hit hlt hp]), below_box hb⟩
      · have h1 : ((R.d k).text.size : Int) ≤ 60 := by assumption
        have h3 : ((R.d k).text.size : Int) ≤ 60 ∧ (!(R.d k).text.toList.isEmpty) = false := by assumption
        have hp : R.txt2 k = false := by unfold Rep.txt2 longB; simp only [h3.2]; simp; omega
        go_roundw
        case rel => exact ⟨k + 1, by omega, by go_num, anyTo_no HN.out hp, hb⟩
        case measure => simp [intOf]; omega
      · have h1 : ((R.d k).text.size : Int) ≤ 60 := by assumption
        have h2 : ¬ (R.d k).gone = true := by assumption
        have hp : R.txt2 k = false := by unfold Rep.txt2 longB; simp [h2]; omega
        go_roundw
        case rel => exact ⟨k + 1, by omega, by go_num, anyTo_no HN.out hp, hb⟩
        case measure => simp [intOf]; omega
      · have hp : R.txt2 k = true := by unfold Rep.txt2 longB; simp [‹(60 : Int) < ((R.d k).text.size : Int)›]
        go_ret
        exact ⟨ret_bool (by simp [Rep.txtB, anyTo_hit hlt hp]), below_box hb⟩
    · have e1 : k = R.n2 := by omega
      have N1 : Hid (anyTo R.txt2 R.n2 = false) := e1 ▸ HN.out
      clear HN e1
      go_wp2
      go_loopw [4] (fun i wr => ∃ k : Nat, k ≤ R.n3 ∧ i = .int .i64 k ∧ anyTo R.txt3 k = false ∧ BoxR w R a1 a2 a3 k1 k2 k3 wr) (fun i _ => R.n3 - (intOf i).toNat)
      case atStart => exact ⟨0, Nat.zero_le _, rfl, rfl, hb⟩
      case round =>
        clear x1 x2 x3 hb hk
        obtain ⟨k, hk, rfl, hno, hb⟩ := hrel
        obtain ⟨x1, x2, x3⟩ := box3 hb
        have HN : Hid (anyTo R.txt3 k = false) := hno
        clear hno
        by_cases hlt : k < R.n3
        · obtain ⟨b, o, hbl, hix, -, ht⟩ := (hR.below (below_box hb)).l3.edit k3 hlt
          go_wp2
          · have hp : R.txt3 k = true := by unfold Rep.txt3 longB; simp [‹(60 : Int) < ((R.e k).text.size : Int)›]
            go_ret
            exact ⟨ret_bool (by simp [Rep.txtB, anyTo_hit hlt hp]), below_box hb⟩
          · have hp : R.txt3 k = false := by
              have h1 : ((R.e k).text.size : Int) ≤ 60 := by assumption
              unfold Rep.txt3 longB; simp; omega
            go_roundw
            case rel => exact ⟨k + 1, by omega, by go_num, anyTo_no HN.out hp, hb⟩
            case measure => simp [intOf]; omega
        · have e1 : k = R.n3 := by omega
          have N2 : Hid (anyTo R.txt3 R.n3 = false) := e1 ▸ HN.out
          clear HN e1
          go_wp2
          go_ret
          exact ⟨ret_bool (by simp [Rep.txtB, N1.out, N2.out]), below_box hb⟩


end Go.Proofs.Ytdjpkgaicmklmaa

/- parcelref.rising, walked. -/
namespace Go.Proofs.Ytdjpkgaicmklmaa
open Go.RowKit

set_option maxHeartbeats 2000000 in
theorem rising_any (R : Rep) (a1 a2 a3 : Option Addr) (k1 k2 k3 : Nat) (w : World) (hR : Has w R a1 a2 a3) :
    Calls Try.prog 38 #[repV R a1 a2 a3 k1 k2 k3] w fun e w' => e = .returned (.bool (!R.risB)) ∧ Below w.heap.size w w' := by
  have b1 := hR.b1; have b2 := hR.b2; have b3 := hR.b3
  go_enter Try.func38, Try.ntmps38
  go_wp2
  go_loopw [3] (fun i wr => ∃ k : Nat, k ≤ R.n1 - 1 ∧ i = .int .i64 ((k : Int) + 1) ∧ anyTo R.ris1 k = false ∧ BoxR w R a1 a2 a3 k1 k2 k3 wr) (fun i _ => R.n1 - (intOf i).toNat)
  case atStart => exact ⟨0, Nat.zero_le _, rfl, rfl, Below.refl _ _⟩
  case round =>
    obtain ⟨k, hk, rfl, hno, hb⟩ := hrel
    obtain ⟨x1, x2, x3⟩ := box3 hb
    have HN : Hid (anyTo R.ris1 k = false) := hno
    clear hno
    by_cases hlt : k + 1 < R.n1
    · obtain ⟨b, o, hbl, hix, hs, -⟩ := (hR.below (below_box hb)).l1.clock k1 (show k < R.n1 by omega)
      obtain ⟨b', o', hbl', hix', hs', -⟩ := (hR.below (below_box hb)).l1.clock k1 hlt
      rw [show ((k + 1 : Nat) : Int) = (k : Int) + 1 from by omega] at hix'
      go_wp2
      go_quiet (fail)
      go_wp2
      · have hp : R.ris1 k = true := by unfold Rep.ris1; simp [‹(R.c (k + 1)).site ≤ (R.c k).site›]
        go_ret
        exact ⟨ret_bool (by simp [Rep.risB, anyTo_hit (show k < R.n1 - 1 by omega) hp]), below_drewN (below_box hb) _⟩
      · have hp : R.ris1 k = false := by
          have h1 : (R.c k).site < (R.c (k + 1)).site := by assumption
          unfold Rep.ris1; simp; omega
        go_roundw
        case rel => exact ⟨k + 1, by omega, by go_num, anyTo_no HN.out hp, below_drewN hb _⟩
        case measure => simp [intOf]; omega
    · have e1 : k = R.n1 - 1 := by omega
      have N1 : Hid (anyTo R.ris1 (R.n1 - 1) = false) := e1 ▸ HN.out
      clear HN e1
      go_wp2
      go_loopw [4] (fun i wr => ∃ k : Nat, k ≤ R.n2 - 1 ∧ i = .int .i64 ((k : Int) + 1) ∧ anyTo R.ris2 k = false ∧ BoxR w R a1 a2 a3 k1 k2 k3 wr) (fun i _ => R.n2 - (intOf i).toNat)
      case atStart => exact ⟨0, Nat.zero_le _, rfl, rfl, hb⟩
      case round =>
        clear x1 x2 x3 hb hk hlt
        obtain ⟨k, hk, rfl, hno, hb⟩ := hrel
        obtain ⟨x1, x2, x3⟩ := box3 hb
        have HN : Hid (anyTo R.ris2 k = false) := hno
        clear hno
        by_cases hlt : k + 1 < R.n2
        · obtain ⟨b, o, hbl, hix, hs, -, -, -, -⟩ := (hR.below (below_box hb)).l2.card k2 (show k < R.n2 by omega)
          obtain ⟨b', o', hbl', hix', hs', -, -, -, -⟩ := (hR.below (below_box hb)).l2.card k2 hlt
          rw [show ((k + 1 : Nat) : Int) = (k : Int) + 1 from by omega] at hix'
          go_wp2
          go_quiet (fail)
          go_wp2
          · have hp : R.ris2 k = true := by unfold Rep.ris2; simp [‹(R.d (k + 1)).id ≤ (R.d k).id›]
            go_ret
            exact ⟨ret_bool (by simp [Rep.risB, anyTo_hit (show k < R.n2 - 1 by omega) hp]), below_drewN (below_box hb) _⟩
          · have hp : R.ris2 k = false := by
              have h1 : (R.d k).id < (R.d (k + 1)).id := by assumption
              unfold Rep.ris2; simp; omega
            go_roundw
            case rel => exact ⟨k + 1, by omega, by go_num, anyTo_no HN.out hp, below_drewN hb _⟩
            case measure => simp [intOf]; omega
        · have e1 : k = R.n2 - 1 := by omega
          have N2 : Hid (anyTo R.ris2 (R.n2 - 1) = false) := e1 ▸ HN.out
          clear HN e1
          go_wp2
          go_ret
          exact ⟨ret_bool (by simp [Rep.risB, N1.out, N2.out]), below_box hb⟩

end Go.Proofs.Ytdjpkgaicmklmaa

/- parcelref.Clocked, walked. -/
namespace Go.Proofs.Ytdjpkgaicmklmaa
open Go.RowKit

set_option maxHeartbeats 1000000 in
theorem clocked_any (R : Rep) (a1 a2 a3 : Option Addr) (k1 k2 k3 : Nat) (site : Int) (w : World) (hR : Has w R a1 a2 a3) :
    Calls Try.prog 39 #[repV R a1 a2 a3 k1 k2 k3, .int .i64 site] w fun e w' => e = .returned (.int .i64 (R.clk site)) ∧ Below w.heap.size w w' := by
  have b1 := hR.b1; have b2 := hR.b2; have b3 := hR.b3
  go_enter Try.func39, Try.ntmps39
  go_wp2
  go_loopw [5] (fun i wr => ∃ k : Nat, k ≤ R.n1 ∧ i = .int .i64 k ∧ clockTo R.c site k = none ∧ BoxR w R a1 a2 a3 k1 k2 k3 wr) (fun i _ => R.n1 - (intOf i).toNat)
  case atStart => exact ⟨0, Nat.zero_le _, rfl, rfl, Below.refl _ _⟩
  case round =>
    obtain ⟨k, hk, rfl, hno, hb⟩ := hrel
    obtain ⟨x1, x2, x3⟩ := box3 hb
    have HN : Hid (clockTo R.c site k = none) := hno
    clear hno
    by_cases hlt : k < R.n1
    · obtain ⟨b, o, hbl, hix, hs, hc⟩ := (hR.below (below_box hb)).l1.clock k1 hlt
      go_wp2
      · have hp : (R.c k).site = site := by simpa using ‹((R.c k).site == site) = true›
        go_ret
        exact ⟨ret_int (by unfold Rep.clk; rw [clockTo_hit hlt HN.out hp]; rfl), below_box hb⟩
      · have hp : ¬ (R.c k).site = site := by simpa using ‹((R.c k).site == site) = false›
        go_roundw
        case rel => exact ⟨k + 1, by omega, by go_num, clockTo_no HN.out hp, hb⟩
        case measure => simp [intOf]; omega
    · have e1 : k = R.n1 := by omega
      have N1 : Hid (clockTo R.c site R.n1 = none) := e1 ▸ HN.out
      clear HN e1
      go_wp2
      go_ret
      exact ⟨ret_int (by unfold Rep.clk; rw [N1.out]; rfl), below_box hb⟩
end Go.Proofs.Ytdjpkgaicmklmaa

/- sound.wrongNumber, walked. -/
namespace Go.Proofs.Ytdjpkgaicmklmaa
open Go.RowKit

set_option maxHeartbeats 2000000 in
theorem wrongNumber_any (R : Rep) (a1 a2 a3 : Option Addr) (k1 k2 k3 : Nat) (w : World) (hR : Has w R a1 a2 a3) :
    Calls Try.prog 75 #[repV R a1 a2 a3 k1 k2 k3] w fun e w' => e = .returned (.bool R.numB) ∧ Below w.heap.size w w' := by
  have b1 := hR.b1; have b2 := hR.b2; have b3 := hR.b3
  go_enter Try.func75, Try.ntmps75
  go_wp2
  go_loopw [3] (fun i wr => ∃ k : Nat, k ≤ R.n1 ∧ i = .int .i64 k ∧ anyTo R.num1 k = false ∧ BoxR w R a1 a2 a3 k1 k2 k3 wr) (fun i _ => R.n1 - (intOf i).toNat)
  case atStart => exact ⟨0, Nat.zero_le _, rfl, rfl, Below.refl _ _⟩
  case round =>
    obtain ⟨k, hk, rfl, hno, hb⟩ := hrel
    obtain ⟨x1, x2, x3⟩ := box3 hb
    have HN : Hid (anyTo R.num1 k = false) := hno
    clear hno
    by_cases hlt : k < R.n1
    · obtain ⟨b, o, hbl, hix, hs, hc⟩ := (hR.below (below_box hb)).l1.clock k1 hlt
      go_wp2
      go_quiet ((go_at_call 116; exact Calls.quiet_of_same (wrongSiteOrCount_any _ _ _)))
      go_wp2
      · have hp : R.num1 k = true := by unfold Rep.num1; assumption
        go_ret
        exact ⟨ret_bool (by simp [Rep.numB, anyTo_hit hlt hp]), below_drewN (below_box hb) _⟩
      · have hp : R.num1 k = false := by unfold Rep.num1; assumption
        go_roundw
        case rel => exact ⟨k + 1, by omega, by go_num, anyTo_no HN.out hp, below_drewN hb _⟩
        case measure => simp [intOf]; omega
    · have e1 : k = R.n1 := by omega
      have N1 : Hid (anyTo R.num1 R.n1 = false) := e1 ▸ HN.out
      clear HN e1
      go_wp2
      go_loopw [4] (fun i wr => ∃ k : Nat, k ≤ R.n2 ∧ i = .int .i64 k ∧ anyTo R.num2 k = false ∧ BoxR w R a1 a2 a3 k1 k2 k3 wr) (fun i _ => R.n2 - (intOf i).toNat)
      case atStart => exact ⟨0, Nat.zero_le _, rfl, rfl, hb⟩
      case round =>
        clear x1 x2 x3 hb hk
        obtain ⟨k, hk, rfl, hno, hb⟩ := hrel
        obtain ⟨x1, x2, x3⟩ := box3 hb
        have HN : Hid (anyTo R.num2 k = false) := hno
        clear hno
        by_cases hlt : k < R.n2
        · obtain ⟨b, o, hbl, hix, hi, hs, hc, -, -⟩ := (hR.below (below_box hb)).l2.card k2 hlt
          go_wp2
          go_quiet ((go_at_call 116; exact Calls.quiet_of_same (wrongSiteOrCount_any _ _ _)))
          go_wp2_with (go_at_call 117; refine (outOfRange_any _ _ _).mono ?_; rintro e w' ⟨rfl, rfl⟩)
          · have hp : R.num2 k = true := by unfold Rep.num2; simp [*]
            go_ret
            exact ⟨ret_bool (by simp [Rep.numB, anyTo_hit hlt hp]), below_drewN (below_box hb) _⟩
          · have hp : R.num2 k = true := by unfold Rep.num2; simp [*]
            go_ret
            exact ⟨ret_bool (by simp [Rep.numB, anyTo_hit hlt hp]), below_drewN (below_box hb) _⟩
          · have hp : R.num2 k = false := by unfold Rep.num2; simp [*]
            go_roundw
            case rel => exact ⟨k + 1, by omega, by go_num, anyTo_no HN.out hp, below_drewN hb _⟩
            case measure => simp [intOf]; omega
        · have e1 : k = R.n2 := by omega
          have N2 : Hid (anyTo R.num2 R.n2 = false) := e1 ▸ HN.out
          clear HN e1
          go_wp2
          go_loopw [5] (fun i wr => ∃ k : Nat, k ≤ R.n3 ∧ i = .int .i64 k ∧ anyTo R.num3 k = false ∧ BoxR w R a1 a2 a3 k1 k2 k3 wr) (fun i _ => R.n3 - (intOf i).toNat)
          case atStart => exact ⟨0, Nat.zero_le _, rfl, rfl, hb⟩
          case round =>
            clear x1 x2 x3 hb hk
            obtain ⟨k, hk, rfl, hno, hb⟩ := hrel
            obtain ⟨x1, x2, x3⟩ := box3 hb
            have HN : Hid (anyTo R.num3 k = false) := hno
            clear hno
            by_cases hlt : k < R.n3
            · obtain ⟨b, o, hbl, hix, hi, -⟩ := (hR.below (below_box hb)).l3.edit k3 hlt
              go_wp2_with (go_at_call 117; refine (outOfRange_any _ _ _).mono ?_; rintro e w' ⟨rfl, rfl⟩)
              · have hp : R.num3 k = true := by unfold Rep.num3; assumption
                go_ret
                exact ⟨ret_bool (by simp [Rep.numB, anyTo_hit hlt hp]), below_box hb⟩
              · have hp : R.num3 k = false := by unfold Rep.num3; assumption
                go_roundw
                case rel => exact ⟨k + 1, by omega, by go_num, anyTo_no HN.out hp, hb⟩
                case measure => simp [intOf]; omega
            · have e1 : k = R.n3 := by omega
              have N3 : Hid (anyTo R.num3 R.n3 = false) := e1 ▸ HN.out
              clear HN e1
              go_wp2
              go_ret
              exact ⟨ret_bool (by simp [Rep.numB, N1.out, N2.out, N3.out]), below_box hb⟩


end Go.Proofs.Ytdjpkgaicmklmaa

/- sound.wrongText, walked. -/
namespace Go.Proofs.Ytdjpkgaicmklmaa
open Go.RowKit

set_option maxHeartbeats 2000000 in
theorem wrongText_any (R : Rep) (a1 a2 a3 : Option Addr) (k1 k2 k3 : Nat) (w : World) (hR : Has w R a1 a2 a3) :
    Calls Try.prog 76 #[repV R a1 a2 a3 k1 k2 k3] w fun e w' => e = .returned (.bool R.txtB) ∧ Below w.heap.size w w' := by
  have b1 := hR.b1; have b2 := hR.b2; have b3 := hR.b3
  go_enter Try.func76, Try.ntmps76
  go_wp2
  go_loopw [3] (fun i wr => ∃ k : Nat, k ≤ R.n2 ∧ i = .int .i64 k ∧ anyTo R.txt2 k = false ∧ BoxR w R a1 a2 a3 k1 k2 k3 wr) (fun i _ => R.n2 - (intOf i).toNat)
  case atStart => exact ⟨0, Nat.zero_le _, rfl, rfl, Below.refl _ _⟩
  case round =>
    obtain ⟨k, hk, rfl, hno, hb⟩ := hrel
    obtain ⟨x1, x2, x3⟩ := box3 hb
    have HN : Hid (anyTo R.txt2 k = false) := hno
    clear hno
    by_cases hlt : k < R.n2
    · obtain ⟨b, o, hbl, hix, -, -, -, hg, ht⟩ := (hR.below (below_box hb)).l2.card k2 hlt
      go_wp2
      · have hp : R.txt2 k = true := by unfold Rep.txt2 longB; simp [‹(60 : Int) < ((R.d k).text.size : Int)›]
        go_ret
        exact ⟨ret_bool (by simp [Rep.txtB, anyTo_hit hlt hp]), below_box hb⟩
      · have hp : R.txt2 k = true := by unfold Rep.txt2; simp only [‹(R.d k).gone = true›, ‹(!(R.d k).text.toList.isEmpty) = true›]; simp
        go_ret
        exact ⟨ret_bool (by simp [Rep.txtB, anyTo_hit hlt hp]), below_box hb⟩
      · have hp : R.txt2 k = false := by
          have h1 : ((R.d k).text.size : Int) ≤ 60 := by assumption
          unfold Rep.txt2 longB; simp only [‹(!(R.d k).text.toList.isEmpty) = false›]; simp; omega
        go_roundw
        case rel => exact ⟨k + 1, by omega, by go_num, anyTo_no HN.out hp, hb⟩
        case measure => simp [intOf]; omega
      · have hp : R.txt2 k = false := by
          have h1 : ((R.d k).text.size : Int) ≤ 60 := by assumption
          have h2 : ¬ (R.d k).gone = true := by assumption
          unfold Rep.txt2 longB; simp [h2]; omega
        go_roundw
        case rel => exact ⟨k + 1, by omega, by go_num, anyTo_no HN.out hp, hb⟩
        case measure => simp [intOf]; omega
    · have e1 : k = R.n2 := by omega
      have N1 : Hid (anyTo R.txt2 R.n2 = false) := e1 ▸ HN.out
      clear HN e1
      go_wp2
      go_loopw [4] (fun i wr => ∃ k : Nat, k ≤ R.n3 ∧ i = .int .i64 k ∧ anyTo R.txt3 k = false ∧ BoxR w R a1 a2 a3 k1 k2 k3 wr) (fun i _ => R.n3 - (intOf i).toNat)
      case atStart => exact ⟨0, Nat.zero_le _, rfl, rfl, hb⟩
      case round =>
        clear x1 x2 x3 hb hk
        obtain ⟨k, hk, rfl, hno, hb⟩ := hrel
        obtain ⟨x1, x2, x3⟩ := box3 hb
        have HN : Hid (anyTo R.txt3 k = false) := hno
        clear hno
        by_cases hlt : k < R.n3
        · obtain ⟨b, o, hbl, hix, -, ht⟩ := (hR.below (below_box hb)).l3.edit k3 hlt
          go_wp2
          · have hp : R.txt3 k = true := by unfold Rep.txt3 longB; simp [‹(60 : Int) < ((R.e k).text.size : Int)›]
            go_ret
            exact ⟨ret_bool (by simp [Rep.txtB, anyTo_hit hlt hp]), below_box hb⟩
          · have hp : R.txt3 k = false := by
              have h1 : ((R.e k).text.size : Int) ≤ 60 := by assumption
              unfold Rep.txt3 longB; simp; omega
            go_roundw
            case rel => exact ⟨k + 1, by omega, by go_num, anyTo_no HN.out hp, hb⟩
            case measure => simp [intOf]; omega
        · have e1 : k = R.n3 := by omega
          have N2 : Hid (anyTo R.txt3 R.n3 = false) := e1 ▸ HN.out
          clear HN e1
          go_wp2
          go_ret
          exact ⟨ret_bool (by simp [Rep.txtB, N1.out, N2.out]), below_box hb⟩


end Go.Proofs.Ytdjpkgaicmklmaa

/- sound.notRising, walked. -/
namespace Go.Proofs.Ytdjpkgaicmklmaa
open Go.RowKit

set_option maxHeartbeats 2000000 in
theorem notRising_any (R : Rep) (a1 a2 a3 : Option Addr) (k1 k2 k3 : Nat) (w : World) (hR : Has w R a1 a2 a3) :
    Calls Try.prog 77 #[repV R a1 a2 a3 k1 k2 k3] w fun e w' => e = .returned (.bool R.risB) ∧ Below w.heap.size w w' := by
  have b1 := hR.b1; have b2 := hR.b2; have b3 := hR.b3
  go_enter Try.func77, Try.ntmps77
  go_wp2
  go_loopw [3] (fun i wr => ∃ k : Nat, k ≤ R.n1 - 1 ∧ i = .int .i64 ((k : Int) + 1) ∧ anyTo R.ris1 k = false ∧ BoxR w R a1 a2 a3 k1 k2 k3 wr) (fun i _ => R.n1 - (intOf i).toNat)
  case atStart => exact ⟨0, Nat.zero_le _, rfl, rfl, Below.refl _ _⟩
  case round =>
    obtain ⟨k, hk, rfl, hno, hb⟩ := hrel
    obtain ⟨x1, x2, x3⟩ := box3 hb
    have HN : Hid (anyTo R.ris1 k = false) := hno
    clear hno
    by_cases hlt : k + 1 < R.n1
    · obtain ⟨b, o, hbl, hix, hs, -⟩ := (hR.below (below_box hb)).l1.clock k1 (show k < R.n1 by omega)
      obtain ⟨b', o', hbl', hix', hs', -⟩ := (hR.below (below_box hb)).l1.clock k1 hlt
      rw [show ((k + 1 : Nat) : Int) = (k : Int) + 1 from by omega] at hix'
      go_wp2
      go_quiet (fail)
      go_wp2
      · have hp : R.ris1 k = true := by unfold Rep.ris1; simp [‹(R.c (k + 1)).site ≤ (R.c k).site›]
        go_ret
        exact ⟨ret_bool (by simp [Rep.risB, anyTo_hit (show k < R.n1 - 1 by omega) hp]), below_drewN (below_box hb) _⟩
      · have hp : R.ris1 k = false := by
          have h1 : (R.c k).site < (R.c (k + 1)).site := by assumption
          unfold Rep.ris1; simp; omega
        go_roundw
        case rel => exact ⟨k + 1, by omega, by go_num, anyTo_no HN.out hp, below_drewN hb _⟩
        case measure => simp [intOf]; omega
    · have e1 : k = R.n1 - 1 := by omega
      have N1 : Hid (anyTo R.ris1 (R.n1 - 1) = false) := e1 ▸ HN.out
      clear HN e1
      go_wp2
      go_loopw [4] (fun i wr => ∃ k : Nat, k ≤ R.n2 - 1 ∧ i = .int .i64 ((k : Int) + 1) ∧ anyTo R.ris2 k = false ∧ BoxR w R a1 a2 a3 k1 k2 k3 wr) (fun i _ => R.n2 - (intOf i).toNat)
      case atStart => exact ⟨0, Nat.zero_le _, rfl, rfl, hb⟩
      case round =>
        clear x1 x2 x3 hb hk hlt
        obtain ⟨k, hk, rfl, hno, hb⟩ := hrel
        obtain ⟨x1, x2, x3⟩ := box3 hb
        have HN : Hid (anyTo R.ris2 k = false) := hno
        clear hno
        by_cases hlt : k + 1 < R.n2
        · obtain ⟨b, o, hbl, hix, hs, -, -, -, -⟩ := (hR.below (below_box hb)).l2.card k2 (show k < R.n2 by omega)
          obtain ⟨b', o', hbl', hix', hs', -, -, -, -⟩ := (hR.below (below_box hb)).l2.card k2 hlt
          rw [show ((k + 1 : Nat) : Int) = (k : Int) + 1 from by omega] at hix'
          go_wp2
          go_quiet (fail)
          go_wp2
          · have hp : R.ris2 k = true := by unfold Rep.ris2; simp [‹(R.d (k + 1)).id ≤ (R.d k).id›]
            go_ret
            exact ⟨ret_bool (by simp [Rep.risB, anyTo_hit (show k < R.n2 - 1 by omega) hp]), below_drewN (below_box hb) _⟩
          · have hp : R.ris2 k = false := by
              have h1 : (R.d k).id < (R.d (k + 1)).id := by assumption
              unfold Rep.ris2; simp; omega
            go_roundw
            case rel => exact ⟨k + 1, by omega, by go_num, anyTo_no HN.out hp, below_drewN hb _⟩
            case measure => simp [intOf]; omega
        · have e1 : k = R.n2 - 1 := by omega
          have N2 : Hid (anyTo R.ris2 (R.n2 - 1) = false) := e1 ▸ HN.out
          clear HN e1
          go_wp2
          go_ret
          exact ⟨ret_bool (by simp [Rep.risB, N1.out, N2.out]), below_box hb⟩

end Go.Proofs.Ytdjpkgaicmklmaa

/- replicas.CountOf and sound.uncovered, walked. -/
namespace Go.Proofs.Ytdjpkgaicmklmaa
open Go.RowKit

set_option maxHeartbeats 1000000 in
theorem countOf_any (a : Option Addr) (n cap : Nat) (c : Nat → Ck) (site : Int) (w : World) (hn : n ≤ 140737488355328) (hL : Lies w a n 2 (fun i => (c i).cells)) :
    Calls Try.prog 118 #[.slice a n cap, .int .i64 site] w fun e w' => e = .returned (.int .i64 ((clockTo c site n).getD 0)) ∧ w' = w := by
  go_enter Try.func118, Try.ntmps118
  go_wp2
  go_loop [5] (fun i => ∃ k : Nat, k ≤ n ∧ i = .int .i64 k ∧ clockTo c site k = none) (fun i => n - (intOf i).toNat)
  case atStart => exact ⟨0, Nat.zero_le _, rfl, rfl⟩
  case round =>
    obtain ⟨k, hk, rfl, hno⟩ := hrel
    have HN : Hid (clockTo c site k = none) := hno
    clear hno
    by_cases hlt : k < n
    · obtain ⟨b, o, hbl, hix, hs, hc⟩ := hL.clock cap hlt
      go_wp2
      · have hp : (c k).site = site := by simpa using ‹((c k).site == site) = true›
        go_ret
        exact ⟨ret_int (by rw [clockTo_hit hlt HN.out hp]; rfl), rfl⟩
      · have hp : ¬ (c k).site = site := by simpa using ‹((c k).site == site) = false›
        go_round
        case rel => exact ⟨k + 1, by omega, by go_num, clockTo_no HN.out hp⟩
        case measure => simp [intOf]; omega
    · have e1 : k = n := by omega
      have N1 : Hid (clockTo c site n = none) := e1 ▸ HN.out
      clear HN e1
      go_wp2
      go_ret
      exact ⟨ret_int (by rw [N1.out]; rfl), rfl⟩

theorem Lies.drewN {w : World} {a : Option Addr} {n m : Nat} {f : Nat → List Value} (h : Lies w a n m f) (q : Nat) : Lies (w.drewN q) a n m f := h.below (below_drewN (Below.refl _ _) _)

set_option maxHeartbeats 1000000 in
theorem uncovered_any (R : Rep) (a1 a2 a3 : Option Addr) (k1 k2 k3 : Nat) (w : World) (hR : Has w R a1 a2 a3) :
    Calls Try.prog 78 #[repV R a1 a2 a3 k1 k2 k3] w fun e w' => e = .returned (.bool R.uncB) ∧ Below w.heap.size w w' := by
  have b1 := hR.b1; have b2 := hR.b2; have b3 := hR.b3
  go_enter Try.func78, Try.ntmps78
  go_wp2
  go_loopw [3] (fun i wr => ∃ k : Nat, k ≤ R.n2 ∧ i = .int .i64 k ∧ anyTo R.unc k = false ∧ BoxR w R a1 a2 a3 k1 k2 k3 wr) (fun i _ => R.n2 - (intOf i).toNat)
  case atStart => exact ⟨0, Nat.zero_le _, rfl, rfl, Below.refl _ _⟩
  case round =>
    obtain ⟨k, hk, rfl, hno, hb⟩ := hrel
    obtain ⟨x1, x2, x3⟩ := box3 hb
    have HN : Hid (anyTo R.unc k = false) := hno
    clear hno
    by_cases hlt : k < R.n2
    · obtain ⟨b, o, hbl, hix, -, hs, hc, -, -⟩ := (hR.below (below_box hb)).l2.card k2 hlt
      have hL := (hR.below (below_box hb)).l1
      go_wp2
      go_quiet ((go_at_call 118; exact Calls.quiet_of_same (countOf_any _ _ _ R.c _ _ (by omega) (by exact hL.drewN _))))
      go_wp2
      · have hp : R.unc k = true := by unfold Rep.unc Rep.clk; simp [‹(clockTo R.c (R.d k).site R.n1).getD 0 < (R.d k).count›]
        go_ret
        exact ⟨ret_bool (by simp [Rep.uncB, anyTo_hit hlt hp]), below_drewN (below_box hb) _⟩
      · have hp : R.unc k = false := by
          have h1 : (R.d k).count ≤ (clockTo R.c (R.d k).site R.n1).getD 0 := by assumption
          unfold Rep.unc Rep.clk; simp; omega
        go_roundw
        case rel => exact ⟨k + 1, by omega, by go_num, anyTo_no HN.out hp, below_drewN hb _⟩
        case measure => simp [intOf]; omega
    · have e1 : k = R.n2 := by omega
      have N1 : Hid (anyTo R.unc R.n2 = false) := e1 ▸ HN.out
      clear HN e1
      go_wp2
      go_ret
      exact ⟨ret_bool (by simp [Rep.uncB, N1.out]), below_box hb⟩

end Go.Proofs.Ytdjpkgaicmklmaa

/- replicas.SameStamp and sound.clashing, walked. -/
namespace Go.Proofs.Ytdjpkgaicmklmaa
open Go.RowKit

abbrev cdV (x : Cd) : Value := .agg #[.int .i64 x.id, .int .i64 x.site, .int .i64 x.count, .bool x.gone, .string x.text]

set_option maxHeartbeats 1000000 in
theorem sameStamp_any (x y : Cd) (w : World) :
    Calls Try.prog 119 #[cdV x, cdV y] w fun e w' => e = .returned (.bool (stampB x y)) ∧ Below w.heap.size w w' := by
  go_enter Try.func119, Try.ntmps119
  go_wp2
  all_goals (go_ret; refine ⟨ret_bool ?_, ((Below.refl _ _).alloc (Nat.le_refl _) _).alloc (by simp) _⟩; unfold stampB; simp [*])

set_option maxHeartbeats 2000000 in
theorem clashing_any (a : Option Addr) (n cap : Nat) (d : Nat → Cd) (w : World) (hn : n ≤ 140737488355328) (hL : Lies w a n 5 (fun i => (d i).cells)) :
    Calls Try.prog 79 #[.slice a n cap] w fun e w' => e = .returned (.bool (anyTo (fun i => anyTo (fun k => stampB (d i) (d k)) i) n)) ∧ Below w.heap.size w w' := by
  go_enter Try.func79, Try.ntmps79
  go_wp2
  go_loopw [3, 4] (fun i _ wr => ∃ k : Nat, k ≤ n - 1 ∧ i = .int .i64 ((k : Int) + 1) ∧ (k < n → anyTo (fun i => anyTo (fun k => stampB (d i) (d k)) i) (k + 1) = false) ∧ Below w.heap.size w wr) (fun i _ _ => n - (intOf i).toNat)
  case atStart => exact ⟨0, Nat.zero_le _, rfl, fun _ => rfl, Below.refl _ _⟩
  case round =>
    obtain ⟨k, hk, rfl, hno, hb⟩ := hrel
    have HN : Hid (k < n → anyTo (fun i => anyTo (fun k => stampB (d i) (d k)) i) (k + 1) = false) := hno
    clear hno
    by_cases hlt : k + 1 < n
    · have hd1 : decide ((k : Int) + 1 < (n : Int)) = true := by simp; omega
      go_wp2
      go_loopw [4] (fun i wr => ∃ j : Nat, j ≤ k + 1 ∧ i = .int .i64 j ∧ anyTo (fun i => stampB (d (k + 1)) (d i)) j = false ∧ Below w.heap.size w wr) (fun i _ => k + 1 - (intOf i).toNat)
      case atStart => exact ⟨0, Nat.zero_le _, rfl, rfl, hb⟩
      case round =>
        clear hb
        obtain ⟨j, hj, rfl, hno, hb⟩ := hrel
        have HM : Hid (anyTo (fun i => stampB (d (k + 1)) (d i)) j = false) := hno
        clear hno
        by_cases hjt : j < k + 1
        · obtain ⟨b, o, hbl, hix, c1, c2, c3, c4, c5⟩ := (hL.below hb).card cap hlt
          obtain ⟨b', o', hbl', hix', c1', c2', c3', c4', c5'⟩ := (hL.below hb).card cap (show j < n by omega)
          rw [show ((k + 1 : Nat) : Int) = (k : Int) + 1 from by omega] at hix
          go_wp2
          go_region_held3 (fun w' => w'.cell? ⟨b, o, none⟩ = some (.int .i64 (d (k + 1)).id) ∧ w'.cell? ⟨b, o + 1, none⟩ = some (.int .i64 (d (k + 1)).site) ∧ w'.cell? ⟨b, o + 2, none⟩ = some (.int .i64 (d (k + 1)).count) ∧ w'.cell? ⟨b, o + 3, none⟩ = some (.bool (d (k + 1)).gone) ∧ w'.cell? ⟨b, o + 4, none⟩ = some (.string (d (k + 1)).text) ∧
             w'.cell? ⟨b', o', none⟩ = some (.int .i64 (d j).id) ∧ w'.cell? ⟨b', o' + 1, none⟩ = some (.int .i64 (d j).site) ∧ w'.cell? ⟨b', o' + 2, none⟩ = some (.int .i64 (d j).count) ∧ w'.cell? ⟨b', o' + 3, none⟩ = some (.bool (d j).gone) ∧ w'.cell? ⟨b', o' + 4, none⟩ = some (.string (d j).text)) (first | (go_keep; done) | (simp only [hcc b _ hbl, hcc b' _ hbl']; go_keep; done))
             (first | (go_at_call 119; refine (sameStamp_any (d (k + 1)) (d j) _).mono ?_; rintro e w' ⟨rfl, hb2⟩; obtain ⟨hcc, hff⟩ := bcell hb2))
          all_goals go_wp2
          · have hp : stampB (d (k + 1)) (d j) = true := by assumption
            go_ret
            refine ⟨ret_bool ?_, hb.trans ((below_drewN (Below.refl _ wr) 1).mono (Nat.le_refl _) |>.trans (hb2.mono hb.size))⟩
            exact (anyTo_hit (p := fun i => anyTo (fun k => stampB (d i) (d k)) i) hlt (anyTo_hit (p := fun i => stampB (d (k + 1)) (d i)) hjt hp)).symm
          · have hp : stampB (d (k + 1)) (d j) = false := by assumption
            go_roundw
            case rel => exact ⟨j + 1, by omega, by go_num, anyTo_no (p := fun i => stampB (d (k + 1)) (d i)) HM.out hp, hb.trans ((below_drewN (Below.refl _ wr) 1).mono (Nat.le_refl _) |>.trans (hb2.mono hb.size))⟩
            case measure => simp [intOf]; omega
        · have e1 : j = k + 1 := by omega
          have N1 : Hid (anyTo (fun i => stampB (d (k + 1)) (d i)) (k + 1) = false) := e1 ▸ HM.out
          clear HM e1
          go_wp2
          go_roundw
          case rel => exact ⟨k + 1, by omega, by go_num, fun _ => anyTo_no (p := fun i => anyTo (fun k => stampB (d i) (d k)) i) (HN.out (by omega)) N1.out, hb⟩
          case measure => simp [intOf]; omega
    · have N1 : Hid (anyTo (fun i => anyTo (fun k => stampB (d i) (d k)) i) n = false) := by
        by_cases h0 : n = 0
        · subst h0; rfl
        · have e1 : k + 1 = n := by omega
          exact e1 ▸ HN.out (by omega)
      clear HN
      go_wp2
      go_ret
      exact ⟨ret_bool N1.out.symm, hb⟩
end Go.Proofs.Ytdjpkgaicmklmaa

/- sound.TooMany, sound.Check and parcel.Check, walked. -/
namespace Go.Proofs.Ytdjpkgaicmklmaa
open Go.RowKit

set_option maxHeartbeats 1000000 in
theorem tooMany_any (R : Rep) (a1 a2 a3 : Option Addr) (k1 k2 k3 : Nat) (w : World) (hR : Has w R a1 a2 a3) :
    Calls Try.prog 74 #[repV R a1 a2 a3 k1 k2 k3] w fun e w' => e = .returned (.bool R.manyB) ∧ Below w.heap.size w w' := by
  have b1 := hR.b1; have b2 := hR.b2; have b3 := hR.b3
  go_enter Try.func74, Try.ntmps74
  go_wp2
  all_goals (go_ret; refine ⟨ret_bool ?_, (Below.refl _ _).alloc (Nat.le_refl _) _⟩; unfold Rep.manyB; rw [Bool.eq_iff_iff]; simp; try omega)

/-- The world behind a call made with the box laid. -/
theorem boxR_step {w wr w1 : World} {R : Rep} {a1 a2 a3 : Option Addr} {k1 k2 k3 : Nat} (hb : BoxR w R a1 a2 a3 k1 k2 k3 wr) (h : Below wr.heap.size wr w1) : BoxR w R a1 a2 a3 k1 k2 k3 w1 :=
  hb.trans (h.mono (by have := hb.size; simpa using this))

set_option maxHeartbeats 2000000 in
theorem check_any (R : Rep) (a1 a2 a3 : Option Addr) (k1 k2 k3 : Nat) (w : World) (hR : Has w R a1 a2 a3) :
    Calls Try.prog 35 #[repV R a1 a2 a3 k1 k2 k3] w fun e w' => e = .returned (.int .i64 R.chk) ∧ Below w.heap.size w w' := by
  have hb0 : BoxR w R a1 a2 a3 k1 k2 k3 (w.alloc (.cells #[.slice a1 R.n1 k1, .slice a2 R.n2 k2, .slice a3 R.n3 k3] 26)) := Below.refl _ _
  go_enter Try.func35, Try.ntmps35
  go_wp2_with fail
  refine (tooMany_any R a1 a2 a3 k1 k2 k3 _ (hR.below (below_box hb0))).mono ?_
  rintro e w1 ⟨rfl, h1⟩
  have hb1 := boxR_step hb0 h1
  obtain ⟨x1, x2, x3⟩ := box3 hb1
  clear h1 hb0
  cases g1 : R.manyB
  case true =>
    go_wp2_with fail
    go_ret
    exact ⟨ret_int (by simp [Rep.chk, g1]), below_box hb1⟩
  go_wp2_with fail
  refine (wrongNumber_any R a1 a2 a3 k1 k2 k3 _ (hR.below (below_box hb1))).mono ?_
  rintro e w2 ⟨rfl, h1⟩
  have hb2 := boxR_step hb1 h1
  clear x1 x2 x3 h1 hb1
  obtain ⟨x1, x2, x3⟩ := box3 hb2
  cases g2 : R.numB
  case true =>
    go_wp2_with fail
    go_ret
    exact ⟨ret_int (by simp [Rep.chk, g1, g2]), below_box hb2⟩
  go_wp2_with fail
  refine (wrongText_any R a1 a2 a3 k1 k2 k3 _ (hR.below (below_box hb2))).mono ?_
  rintro e w3 ⟨rfl, h1⟩
  have hb3 := boxR_step hb2 h1
  clear x1 x2 x3 h1 hb2
  obtain ⟨x1, x2, x3⟩ := box3 hb3
  cases g3 : R.txtB
  case true =>
    go_wp2_with fail
    go_ret
    exact ⟨ret_int (by simp [Rep.chk, g1, g2, g3]), below_box hb3⟩
  go_wp2_with fail
  refine (notRising_any R a1 a2 a3 k1 k2 k3 _ (hR.below (below_box hb3))).mono ?_
  rintro e w4 ⟨rfl, h1⟩
  have hb4 := boxR_step hb3 h1
  clear x1 x2 x3 h1 hb3
  obtain ⟨x1, x2, x3⟩ := box3 hb4
  cases g4 : R.risB
  case true =>
    go_wp2_with fail
    go_ret
    exact ⟨ret_int (by simp [Rep.chk, g1, g2, g3, g4]), below_box hb4⟩
  go_wp2_with fail
  refine (uncovered_any R a1 a2 a3 k1 k2 k3 _ (hR.below (below_box hb4))).mono ?_
  rintro e w5 ⟨rfl, h1⟩
  have hb5 := boxR_step hb4 h1
  clear x1 x2 x3 h1 hb4
  obtain ⟨x1, x2, x3⟩ := box3 hb5
  cases g5 : R.uncB
  case true =>
    go_wp2_with fail
    go_ret
    exact ⟨ret_int (by simp [Rep.chk, g1, g2, g3, g4, g5]), below_box hb5⟩
  go_wp2_with fail
  refine (clashing_any a2 R.n2 k2 R.d _ hR.b2 (hR.below (below_box hb5)).l2).mono ?_
  rintro e w6 ⟨rfl, h1⟩
  have hb6 := boxR_step hb5 h1
  clear x1 x2 x3 h1 hb5
  have hcl : anyTo (fun i => anyTo (fun k => stampB (R.d i) (R.d k)) i) R.n2 = R.clashB := rfl
  rw [hcl]
  clear hcl
  cases g6 : R.clashB
  case true =>
    go_wp2_with fail
    go_ret
    exact ⟨ret_int (by simp [Rep.chk, g1, g2, g3, g4, g5, g6]), below_box hb6⟩
  go_wp2_with fail
  go_ret
  exact ⟨ret_int (by simp [Rep.chk, g1, g2, g3, g4, g5, g6]), below_box hb6⟩

set_option maxHeartbeats 1000000 in
theorem pcheck_any (R : Rep) (a1 a2 a3 : Option Addr) (k1 k2 k3 : Nat) (w : World) (hR : Has w R a1 a2 a3) :
    Calls Try.prog 15 #[repV R a1 a2 a3 k1 k2 k3] w fun e w' => e = .returned (.int .i64 R.chk) ∧ Below w.heap.size w w' := by
  have hb0 : BoxR w R a1 a2 a3 k1 k2 k3 (w.alloc (.cells #[.slice a1 R.n1 k1, .slice a2 R.n2 k2, .slice a3 R.n3 k3] 26)) := Below.refl _ _
  go_enter Try.func15, Try.ntmps15
  go_wp2_with fail
  refine (check_any R a1 a2 a3 k1 k2 k3 _ (hR.below (below_box hb0))).mono ?_
  rintro e w1 ⟨rfl, h1⟩
  go_wp2_with fail
  go_ret
  exact ⟨rfl, below_box (boxR_step hb0 h1)⟩
end Go.Proofs.Ytdjpkgaicmklmaa

/- parcelref.Check, walked. -/
namespace Go.Proofs.Ytdjpkgaicmklmaa
open Go.RowKit

set_option maxHeartbeats 4000000 in
theorem rcheck_any (R : Rep) (a1 a2 a3 : Option Addr) (k1 k2 k3 : Nat) (w : World) (hR : Has w R a1 a2 a3) :
    Calls Try.prog 16 #[repV R a1 a2 a3 k1 k2 k3] w fun e w' => e = .returned (.int .i64 R.chk) ∧ Below w.heap.size w w' := by
  have b1 := hR.b1; have b2 := hR.b2; have b3 := hR.b3
  have hb0 : BoxR w R a1 a2 a3 k1 k2 k3 (w.alloc (.cells #[.slice a1 R.n1 k1, .slice a2 R.n2 k2, .slice a3 R.n3 k3] 26)) := Below.refl _ _
  cases g1 : R.manyB
  case true =>
    have hm : (8 : Int) < (R.n1 : Int) ∨ (R.n1 : Int) ≤ 8 ∧ ((40 : Int) < (R.n2 : Int) ∨ (R.n2 : Int) ≤ 40 ∧ (16 : Int) < (R.n3 : Int)) := by
      unfold Rep.manyB at g1; simp at g1; omega
    rcases hm with h | ⟨h, h' | ⟨h', h''⟩⟩
    all_goals
      go_enter Try.func16, Try.ntmps16
      go_wp2_with fail
      go_ret
      exact ⟨ret_int (by simp [Rep.chk, g1]), below_box hb0⟩
  have hm : (R.n1 : Int) ≤ 8 ∧ (R.n2 : Int) ≤ 40 ∧ (R.n3 : Int) ≤ 16 := by
    unfold Rep.manyB at g1; simp at g1; omega
  obtain ⟨m1, m2, m3⟩ := hm
  go_enter Try.func16, Try.ntmps16
  go_wp2_with fail
  refine (numbered_any R a1 a2 a3 k1 k2 k3 _ (hR.below (below_box hb0))).mono ?_
  rintro e w2 ⟨rfl, h1⟩
  have hb2 := boxR_step hb0 h1
  clear h1 hb0
  obtain ⟨x1, x2, x3⟩ := box3 hb2
  cases g2 : R.numB
  case true =>
    go_wp2_with fail
    go_ret
    exact ⟨ret_int (by simp [Rep.chk, g1, g2]), below_box hb2⟩
  go_wp2_with fail
  refine (texted_any R a1 a2 a3 k1 k2 k3 _ (hR.below (below_box hb2))).mono ?_
  rintro e w3 ⟨rfl, h1⟩
  have hb3 := boxR_step hb2 h1
  clear x1 x2 x3 h1 hb2
  obtain ⟨x1, x2, x3⟩ := box3 hb3
  cases g3 : R.txtB
  case true =>
    go_wp2_with fail
    go_ret
    exact ⟨ret_int (by simp [Rep.chk, g1, g2, g3]), below_box hb3⟩
  go_wp2_with fail
  refine (rising_any R a1 a2 a3 k1 k2 k3 _ (hR.below (below_box hb3))).mono ?_
  rintro e w4 ⟨rfl, h1⟩
  have hb4 := boxR_step hb3 h1
  clear x1 x2 x3 h1 hb3
  obtain ⟨x1, x2, x3⟩ := box3 hb4
  cases g4 : R.risB
  case true =>
    go_wp2_with fail
    go_ret
    exact ⟨ret_int (by simp [Rep.chk, g1, g2, g3, g4]), below_box hb4⟩
  go_wp2_with fail
  go_loopw [4, 5] (fun i _ wr => ∃ k : Nat, k ≤ R.n2 ∧ i = .int .i64 k ∧ anyTo R.unc k = false ∧ BoxR w R a1 a2 a3 k1 k2 k3 wr) (fun i _ _ => R.n2 - (intOf i).toNat)
  case atStart => exact ⟨0, Nat.zero_le _, rfl, rfl, hb4⟩
  case round =>
    clear x1 x2 x3
    have HB4 : Hid (BoxR w R a1 a2 a3 k1 k2 k3 w4) := hb4
    clear hb4
    obtain ⟨k, hk, rfl, hno, hb⟩ := hrel
    obtain ⟨x1, x2, x3⟩ := box3 hb
    have HN : Hid (anyTo R.unc k = false) := hno
    clear hno
    by_cases hlt : k < R.n2
    · obtain ⟨b, o, hbl, hix, -, hs, hc, -, -⟩ := (hR.below (below_box hb)).l2.card k2 hlt
      have hH := hR.below (below_box hb)
      have hws : w.heap.size < wr.heap.size := by have := hb.size; simp at this; omega
      go_wp2_with fail
      go_region_held3 (fun w' => w'.cell? ⟨w.heap.size, 0, none⟩ = some (.slice a1 R.n1 k1) ∧ w'.cell? ⟨w.heap.size, 1, none⟩ = some (.slice a2 R.n2 k2) ∧ w'.cell? ⟨w.heap.size, 2, none⟩ = some (.slice a3 R.n3 k3) ∧ w'.cell? ⟨b, o + 1, none⟩ = some (.int .i64 (R.d k).site) ∧ w'.cell? ⟨b, o + 2, none⟩ = some (.int .i64 (R.d k).count))
         (first | (go_keep; done) | (simp only [hcc b _ hbl, hcc w.heap.size _ hws]; go_keep; done))
         (first | (go_at_call 39; refine (clocked_any R a1 a2 a3 k1 k2 k3 _ _ (by exact hH.below (below_drewN (Below.refl _ _) 1))).mono ?_; rintro e w' ⟨rfl, hb2⟩; obtain ⟨hcc, hff⟩ := bcell hb2))
      have hb3 : BoxR w R a1 a2 a3 k1 k2 k3 w' := boxR_step (below_drewN hb 1) hb2
      clear hcc hff hb2
      go_wp2_with fail
      · have hp : R.unc k = true := by unfold Rep.unc; simp [‹R.clk (R.d k).site < (R.d k).count›]
        go_ret
        exact ⟨ret_int (by simp [Rep.chk, g1, g2, g3, g4, show R.uncB = true from anyTo_hit hlt hp]), below_box hb3⟩
      · have hp : R.unc k = false := by
          have h1 : (R.d k).count ≤ R.clk (R.d k).site := by assumption
          unfold Rep.unc; simp; omega
        go_roundw
        case rel => exact ⟨k + 1, by omega, by go_num, anyTo_no HN.out hp, hb3⟩
        case measure => simp [intOf]; omega
    · have e1 : k = R.n2 := by omega
      have g5 : Hid (R.uncB = false) := by unfold Rep.uncB; rw [← e1]; exact HN.out
      clear HN e1
      go_wp2_with fail
      go_loopw [6, 7] (fun i _ wr => ∃ k : Nat, k ≤ R.n2 ∧ i = .int .i64 k ∧ anyTo R.clash k = false ∧ BoxR w R a1 a2 a3 k1 k2 k3 wr) (fun i _ _ => R.n2 - (intOf i).toNat)
      case atStart => exact ⟨0, Nat.zero_le _, rfl, rfl, hb⟩
      case round =>
        clear x1 x2 x3 hb hk hlt
        obtain ⟨k, hk, rfl, hno, hb⟩ := hrel
        obtain ⟨x1, x2, x3⟩ := box3 hb
        have HN : Hid (anyTo R.clash k = false) := hno
        clear hno
        by_cases hlt : k < R.n2
        · have hd1 : decide ((k : Int) < (R.n2 : Int)) = true := by simp; omega
          go_wp2_with fail
          go_loopw [7] (fun i wr => ∃ j : Nat, j ≤ k ∧ i = .int .i64 j ∧ anyTo (fun i => stampB (R.d k) (R.d i)) j = false ∧ BoxR w R a1 a2 a3 k1 k2 k3 wr) (fun i _ => k - (intOf i).toNat)
          case atStart => exact ⟨0, Nat.zero_le _, rfl, rfl, hb⟩
          case round =>
            clear x1 x2 x3 hb
            obtain ⟨j, hj, rfl, hno, hb⟩ := hrel
            obtain ⟨x1, x2, x3⟩ := box3 hb
            have HM : Hid (anyTo (fun i => stampB (R.d k) (R.d i)) j = false) := hno
            clear hno
            by_cases hjt : j < k
            · obtain ⟨b, o, hbl, hix, -, c2, c3, -, -⟩ := (hR.below (below_box hb)).l2.card k2 hlt
              obtain ⟨b', o', hbl', hix', -, c2', c3', -, -⟩ := (hR.below (below_box hb)).l2.card k2 (show j < R.n2 by omega)
              by_cases hss : (R.d k).site = (R.d j).site
              · have hs1 : ((R.d k).site == (R.d j).site) = true := by simp [hss]
                clear hss
                go_wp2_with fail
                go_quiet (fail)
                go_wp2_with fail
                · have hp : stampB (R.d k) (R.d j) = true := by unfold stampB; rw [hs1, ‹((R.d k).count == (R.d j).count) = true›]; rfl
                  go_ret
                  refine ⟨ret_int ?_, below_box (below_drewN hb _)⟩
                  have hc : R.clashB = true := anyTo_hit (p := R.clash) hlt (anyTo_hit (p := fun i => stampB (R.d k) (R.d i)) hjt hp)
                  simp [Rep.chk, g1, g2, g3, g4, g5.out, hc]
                · have hp : stampB (R.d k) (R.d j) = false := by unfold stampB; rw [hs1, ‹((R.d k).count == (R.d j).count) = false›]; rfl
                  go_roundw
                  case rel => exact ⟨j + 1, by omega, by go_num, anyTo_no (p := fun i => stampB (R.d k) (R.d i)) HM.out hp, below_drewN hb _⟩
                  case measure => simp [intOf]; omega
              · have hs1 : ((R.d k).site == (R.d j).site) = false := by simp [hss]
                clear hss
                go_wp2_with fail
                go_quiet (fail)
                go_wp2_with fail
                have hp : stampB (R.d k) (R.d j) = false := by unfold stampB; rw [hs1]; rfl
                go_roundw
                case rel => exact ⟨j + 1, by omega, by go_num, anyTo_no (p := fun i => stampB (R.d k) (R.d i)) HM.out hp, below_drewN hb _⟩
                case measure => simp [intOf]; omega
            · have e1 : j = k := by omega
              have N1 : Hid (R.clash k = false) := by unfold Rep.clash; rw [← e1]; rw [← e1] at HM; exact HM.out
              clear HM e1
              go_wp2_with fail
              go_roundw
              case rel => exact ⟨k + 1, by omega, by go_num, anyTo_no HN.out N1.out, hb⟩
              case measure => simp [intOf]; omega
        · have e1 : k = R.n2 := by omega
          have g6 : Hid (R.clashB = false) := by unfold Rep.clashB; rw [← e1]; exact HN.out
          clear HN e1
          go_wp2_with fail
          go_ret
          exact ⟨ret_int (by simp [Rep.chk, g1, g2, g3, g4, g5.out, g6.out]), below_box hb⟩
end Go.Proofs.Ytdjpkgaicmklmaa

/- parcellaw.Checks: called with any replica that lies in memory it answers true, and nothing that was there has turned. -/
namespace Go.Proofs.Ytdjpkgaicmklmaa
open Go.RowKit

theorem below_step2 {w w1 wr : World} {R : Rep} {a1 a2 a3 : Option Addr} {k1 k2 k3 : Nat} {o : Obj} (hb : BoxR w R a1 a2 a3 k1 k2 k3 w1) (h : Below (w1.heap.size + 1) (w1.alloc o) wr) : BoxR w R a1 a2 a3 k1 k2 k3 wr :=
  boxR_step hb (below_box h)

set_option maxRecDepth 100000 in
set_option maxHeartbeats 4000000 in
theorem checks_any (R : Rep) (a1 a2 a3 : Option Addr) (k1 k2 k3 : Nat) (w : World) (hR : Has w R a1 a2 a3) :
    Calls Try.prog 3 #[repV R a1 a2 a3 k1 k2 k3] w fun e w' => e = .returned (.bool true) ∧ Below w.heap.size w w' := by
  have hb0 : BoxR w R a1 a2 a3 k1 k2 k3 (w.alloc (.cells #[.slice a1 R.n1 k1, .slice a2 R.n2 k2, .slice a3 R.n3 k3] 26)) := Below.refl _ _
  go_enter Try.func3, Try.ntmps3
  go_wp2_with fail
  refine (handed_any R a1 a2 a3 k1 k2 k3 _ (hR.below (below_box hb0))).mono ?_
  rintro e w1 ⟨b1, b2, b3, g1, g2, g3, rfl, hH, hg, h1⟩
  have hb1 := boxR_step hb0 h1
  clear h1 hb0
  obtain ⟨x1, x2, x3⟩ := box3 hb1
  have hws : w.heap.size < w1.heap.size := by have := hb1.size; simp at this; omega
  have hq0 : BoxR w1 R b1 b2 b3 (R.n1 + 2) (R.n2 + 2) (R.n3 + 2) (w1.alloc (.cells #[.slice b1 R.n1 (R.n1 + 2), .slice b2 R.n2 (R.n2 + 2), .slice b3 R.n3 (R.n3 + 2)] 26)) := Below.refl _ _
  go_wp2_with fail
  refine (pcheck_any R b1 b2 b3 _ _ _ _ ((hH.has hR).below (below_box hq0))).mono ?_
  rintro e w2 ⟨rfl, h2⟩
  have hq2 := boxR_step hq0 h2
  clear h2 hq0 x1 x2 x3
  obtain ⟨x1, x2, x3⟩ := box3 (below_step2 hb1 hq2)
  obtain ⟨z1, z2, z3⟩ := box3 hq2
  go_wp2_with fail
  refine (rcheck_any R a1 a2 a3 _ _ _ _ (hR.below (below_box (below_step2 hb1 hq2)))).mono ?_
  rintro e w3 ⟨rfl, h3⟩
  have hq3 := boxR_step hq2 h3
  clear h3 hq2 x1 x2 x3 z1 z2 z3
  obtain ⟨x1, x2, x3⟩ := box3 (below_step2 hb1 hq3)
  obtain ⟨z1, z2, z3⟩ := box3 hq3
  go_wp2_with fail
  refine (still_any R a1 a2 a3 b1 b2 b3 g1 g2 g3 _ _ _ _ (hR.below (below_box (below_step2 hb1 hq3))) (hH.below (below_box hq3))).mono ?_
  rintro e w4 ⟨rfl, h4⟩
  have hq4 := boxR_step hq3 h4
  clear h4 hq3 x1 x2 x3 z1 z2 z3
  go_wp2_with fail
  go_ret
  exact ⟨rfl, below_box (below_step2 hb1 hq4)⟩
end Go.Proofs.Ytdjpkgaicmklmaa

