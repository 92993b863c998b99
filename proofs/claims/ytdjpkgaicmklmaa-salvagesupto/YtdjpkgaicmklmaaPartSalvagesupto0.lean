/- Texts of the proof, one behind the other; what each holds is said at its head. -/
import Derived.Test.YtdjpkgaicmklmaaRows
import Derived.WalkKit
import Derived.WalkSpells
import Derived.WalkLawsBesides
import Derived.Deep.QuietTactic
import Derived.BigQuiet
import Derived.Laws.CopyOwn
import Derived.Deep.AppendLies
import Derived.Laws.Bits64
/- What lies in memory: rows of records, and the plain data that they read as; searches by a bound. -/
namespace Go.Proofs.Ytdjpkgaicmklmaa
open Go.RowKit

theorem ret_bool {a b : Bool} (h : a = b) : Ending.returned (.bool a) = .returned (.bool b) := by rw [h]
theorem ret_int {k : IntKind} {a b : Int} (h : a = b) : Ending.returned (.int k a) = .returned (.int k b) := by rw [h]

/-- Behind a call that makes memory alone all that was there reads as before. -/
theorem bcell {W w1 : World} (hb : Below W.heap.size W w1) : (∀ b o, b < W.heap.size → w1.cell? ⟨b, o, none⟩ = W.cell? ⟨b, o, none⟩) ∧ (∀ b o, b < W.heap.size → w1.frozen? ⟨b, o, none⟩ = W.frozen? ⟨b, o, none⟩) :=
  ⟨fun b o h => hb.cell (p := ⟨b, o, none⟩) h, fun b o h => hb.frozen (p := ⟨b, o, none⟩) h⟩

/-- Is there one below the bound? -/
def anyTo (p : Nat → Bool) : Nat → Bool
  | 0 => false
  | k + 1 => anyTo p k || p k

theorem anyTo_hit {p : Nat → Bool} {k : Nat} : ∀ {n : Nat}, k < n → p k = true → anyTo p n = true
  | 0, h, _ => by omega
  | n + 1, h, hp => by
    by_cases e : k = n
    · subst e; simp [anyTo, hp]
    · simp [anyTo, anyTo_hit (n := n) (by omega) hp]

theorem anyTo_iff {p : Nat → Bool} : ∀ {n : Nat}, anyTo p n = true ↔ ∃ k, k < n ∧ p k = true
  | 0 => by simp [anyTo]
  | n + 1 => by
    simp only [anyTo, Bool.or_eq_true, anyTo_iff (n := n)]
    constructor
    · rintro (⟨k, h, hp⟩ | h)
      · exact ⟨k, by omega, hp⟩
      · exact ⟨n, by omega, h⟩
    · rintro ⟨k, h, hp⟩
      by_cases e : k = n
      · subst e; exact Or.inr hp
      · exact Or.inl ⟨k, by omega, hp⟩

theorem anyTo_no {p : Nat → Bool} {k : Nat} (h : anyTo p k = false) (hp : p k = false) : anyTo p (k + 1) = false := by simp [anyTo, h, hp]

theorem anyTo_congr {p q : Nat → Bool} {n : Nat} (h : ∀ i, i < n → p i = q i) : anyTo p n = anyTo q n := by
  induction n with
  | zero => rfl
  | succ n ih => simp only [anyTo]; rw [ih (fun i hi => h i (by omega)), h n (by omega)]

/-- Clocks, cards, edits, as plain data. -/
structure Ck where
  site : Int
  count : Int
structure Cd where
  id : Int
  site : Int
  count : Int
  gone : Bool
  text : ByteArray
structure Ed where
  id : Int
  text : ByteArray

abbrev Ck.cells (x : Ck) : List Value := [.int .i64 x.site, .int .i64 x.count]
abbrev Cd.cells (x : Cd) : List Value := [.int .i64 x.id, .int .i64 x.site, .int .i64 x.count, .bool x.gone, .string x.text]
abbrev Ed.cells (x : Ed) : List Value := [.int .i64 x.id, .string x.text]

/-- At the address lie n elements of m cells each. -/
def Lies (w : World) (a : Option Addr) (n m : Nat) (f : Nat → List Value) : Prop :=
  n = 0 ∨ ∃ b off, a = some ⟨b, off, none⟩ ∧ b < w.heap.size ∧ ∀ i, i < n → ∀ j v, j < m → (f i)[j]? = some v → w.cell? ⟨b, off + i * m + j, none⟩ = some v

theorem Lies.below {w w' : World} {a : Option Addr} {n m : Nat} {f : Nat → List Value} (h : Lies w a n m f) (hb : Below w.heap.size w w') : Lies w' a n m f := by
  rcases h with h | ⟨b, off, ha, hlt, hc⟩
  · exact Or.inl h
  · refine Or.inr ⟨b, off, ha, Nat.lt_of_lt_of_le hlt hb.size, fun i hi j v hj hv => ?_⟩
    rw [hb.cell (p := ⟨b, off + i * m + j, none⟩) hlt]
    exact hc i hi j v hj hv

theorem Lies.at {w : World} {a : Option Addr} {n m : Nat} {f : Nat → List Value} (h : Lies w a n m f) {P : Program} {t : TypeId} (cap : Nat)
    (ht : P.underlying t = some (.slice (P.elem t))) (hs : (P.info? (P.elem t)).map (·.size) = some m) {k : Nat} (hk : k < n) :
    ∃ b o, b < w.heap.size ∧ (∀ w', (Instr.indexAt t (.slice a n cap) (.int .i64 (k : Int))).run P w' = .ok (.pointer (some ⟨b, o, none⟩)) w') ∧
      ∀ j v, j < m → (f k)[j]? = some v → w.cell? ⟨b, o + j, none⟩ = some v := by
  rcases h with h | ⟨b, off, rfl, hlt, hc⟩
  · omega
  · refine ⟨b, off + k * m, hlt, fun w' => ?_, fun j v hj hv => hc k hk j v hj hv⟩
    cases hq : P.info? (P.elem t) with
    | none => simp [hq] at hs
    | some i =>
      have hi : i.size = m := by simpa [hq] using hs
      rw [run_indexAt_slice w' t _ n cap .i64 (k : Int) ht, if_pos (by omega)]
      have hz : (sizeOf (P.elem t)).run P w' = .ok m w' := by simp [sizeOf, typeInfo, hq, hi]
      rw [hz]
      simp only [Result.andThen_ok, Addr.add, Int.toNat_natCast]
      by_cases h0 : k * m = 0
      · rw [if_pos h0, h0]; rfl
      · rw [if_neg h0]

theorem Lies.clock {w : World} {a : Option Addr} {n : Nat} {c : Nat → Ck} (h : Lies w a n 2 (fun i => (c i).cells)) (cap : Nat) {k : Nat} (hk : k < n) :
    ∃ b o, b < w.heap.size ∧ (∀ w', (Instr.indexAt 22 (.slice a n cap) (.int .i64 (k : Int))).run Try.prog w' = .ok (.pointer (some ⟨b, o, none⟩)) w') ∧
      w.cell? ⟨b, o, none⟩ = some (.int .i64 (c k).site) ∧ w.cell? ⟨b, o + 1, none⟩ = some (.int .i64 (c k).count) := by
  obtain ⟨b, o, hb, hi, hc⟩ := h.at cap (P := Try.prog) (t := 22) (by kernel_rfl) (by kernel_rfl) hk
  exact ⟨b, o, hb, hi, hc 0 _ (by omega) rfl, hc 1 _ (by omega) rfl⟩
theorem Lies.card {w : World} {a : Option Addr} {n : Nat} {c : Nat → Cd} (h : Lies w a n 5 (fun i => (c i).cells)) (cap : Nat) {k : Nat} (hk : k < n) :
    ∃ b o, b < w.heap.size ∧ (∀ w', (Instr.indexAt 23 (.slice a n cap) (.int .i64 (k : Int))).run Try.prog w' = .ok (.pointer (some ⟨b, o, none⟩)) w') ∧
      w.cell? ⟨b, o, none⟩ = some (.int .i64 (c k).id) ∧ w.cell? ⟨b, o + 1, none⟩ = some (.int .i64 (c k).site) ∧ w.cell? ⟨b, o + 2, none⟩ = some (.int .i64 (c k).count) ∧
      w.cell? ⟨b, o + 3, none⟩ = some (.bool (c k).gone) ∧ w.cell? ⟨b, o + 4, none⟩ = some (.string (c k).text) := by
  obtain ⟨b, o, hb, hi, hc⟩ := h.at cap (P := Try.prog) (t := 23) (by kernel_rfl) (by kernel_rfl) hk
  exact ⟨b, o, hb, hi, hc 0 _ (by omega) rfl, hc 1 _ (by omega) rfl, hc 2 _ (by omega) rfl, hc 3 _ (by omega) rfl, hc 4 _ (by omega) rfl⟩
theorem Lies.edit {w : World} {a : Option Addr} {n : Nat} {c : Nat → Ed} (h : Lies w a n 2 (fun i => (c i).cells)) (cap : Nat) {k : Nat} (hk : k < n) :
    ∃ b o, b < w.heap.size ∧ (∀ w', (Instr.indexAt 24 (.slice a n cap) (.int .i64 (k : Int))).run Try.prog w' = .ok (.pointer (some ⟨b, o, none⟩)) w') ∧
      w.cell? ⟨b, o, none⟩ = some (.int .i64 (c k).id) ∧ w.cell? ⟨b, o + 1, none⟩ = some (.string (c k).text) := by
  obtain ⟨b, o, hb, hi, hc⟩ := h.at cap (P := Try.prog) (t := 24) (by kernel_rfl) (by kernel_rfl) hk
  exact ⟨b, o, hb, hi, hc 0 _ (by omega) rfl, hc 1 _ (by omega) rfl⟩
end Go.Proofs.Ytdjpkgaicmklmaa

/- The program's own tests of a replica (package sound), walked. -/
namespace Go.Proofs.Ytdjpkgaicmklmaa
open Go.RowKit

/-- out of 1 .. m. -/
def outB (n m : Int) : Bool := decide (n < 1) || decide (m < n)

set_option maxHeartbeats 400000 in
theorem within_any (n lo hi : Int) (w : World) :
    Calls Try.prog 80 #[.int .i64 n, .int .i64 lo, .int .i64 hi] w fun e w' => e = .returned (.bool (decide (lo ≤ n) && decide (n ≤ hi))) ∧ w' = w := by
  go_enter Try.func80, Try.ntmps80
  go_wp2
  all_goals (go_ret; refine ⟨ret_bool ?_, rfl⟩; simp; try omega)

theorem within_out (n m : Int) (w : World) :
    Calls Try.prog 80 #[.int .i64 n, .int .i64 1, .int .i64 m] w fun e w' => e = .returned (.bool (!outB n m)) ∧ w' = w := by
  refine (within_any n 1 m w).mono ?_
  rintro e w' ⟨rfl, rfl⟩
  refine ⟨ret_bool ?_, rfl⟩
  unfold outB
  by_cases h1 : n < 1 <;> by_cases h2 : m < n <;> simp [h1, h2] <;> omega

set_option maxHeartbeats 400000 in
theorem outOfRange_any (n m : Int) (w : World) :
    Calls Try.prog 117 #[.int .i64 n, .int .i64 m] w fun e w' => e = .returned (.bool (outB n m)) ∧ w' = w := by
  go_enter Try.func117, Try.ntmps117
  go_wp2
  all_goals (go_ret; refine ⟨ret_bool ?_, rfl⟩; simp [outB]; try omega)

/-- a Site or a Count that may not be. -/
def scB (s c : Int) : Bool := outB s 200 || outB c 4611686018427387904

set_option maxHeartbeats 400000 in
theorem wrongSiteOrCount_any (s c : Int) (w : World) :
    Calls Try.prog 116 #[.int .i64 s, .int .i64 c] w fun e w' => e = .returned (.bool (scB s c)) ∧ w' = w := by
  cases h : outB s 200
  · go_enter Try.func116, Try.ntmps116
    go_wp2_with (go_at_call 117; refine (outOfRange_any _ _ _).mono ?_; rintro e w' ⟨rfl, rfl⟩)
    go_ret; exact ⟨ret_bool (by simp [scB, h]), rfl⟩
  · go_enter Try.func116, Try.ntmps116
    go_wp2_with (go_at_call 117; refine (outOfRange_any _ _ _).mono ?_; rintro e w' ⟨rfl, rfl⟩)
    go_ret; exact ⟨ret_bool (by simp [scB, h]), rfl⟩

/-- A replica's three rows. -/
structure Rep where
  n1 : Nat
  n2 : Nat
  n3 : Nat
  c : Nat → Ck
  d : Nat → Cd
  e : Nat → Ed

/-- A replica lies in the world: its rows' addresses. -/
structure Has (w : World) (R : Rep) (a1 a2 a3 : Option Addr) : Prop where
  l1 : Lies w a1 R.n1 2 (fun i => (R.c i).cells)
  l2 : Lies w a2 R.n2 5 (fun i => (R.d i).cells)
  l3 : Lies w a3 R.n3 2 (fun i => (R.e i).cells)
  b1 : R.n1 ≤ 140737488355328
  b2 : R.n2 ≤ 140737488355328
  b3 : R.n3 ≤ 140737488355328
  y1 : 16 * R.n1 ≤ 140737488355328
  y2 : 48 * R.n2 ≤ 140737488355328
  y3 : 24 * R.n3 ≤ 140737488355328

theorem Has.below {w w' : World} {R : Rep} {a1 a2 a3 : Option Addr} (h : Has w R a1 a2 a3) (hb : Below w.heap.size w w') : Has w' R a1 a2 a3 :=
  ⟨h.l1.below hb, h.l2.below hb, h.l3.below hb, h.b1, h.b2, h.b3, h.y1, h.y2, h.y3⟩

abbrev repV (R : Rep) (a1 a2 a3 : Option Addr) (k1 k2 k3 : Nat) : Value := .agg #[.slice a1 R.n1 k1, .slice a2 R.n2 k2, .slice a3 R.n3 k3]

def Rep.num1 (R : Rep) (i : Nat) : Bool := scB (R.c i).site (R.c i).count
def Rep.num2 (R : Rep) (i : Nat) : Bool := scB (R.d i).site (R.d i).count || outB (R.d i).id 4611686018427387904
def Rep.num3 (R : Rep) (i : Nat) : Bool := outB (R.e i).id 4611686018427387904
/-- ErrNumber. -/
def Rep.numB (R : Rep) : Bool := anyTo R.num1 R.n1 || (anyTo R.num2 R.n2 || anyTo R.num3 R.n3)

/-- The box of a struct parameter, behind whatever was laid or drawn since. -/
theorem box3 {w wr : World} {x y z : Value} {t : TypeId} (hb : Below (w.heap.size + 1) (w.alloc (.cells #[x, y, z] t)) wr) :
    wr.cell? ⟨w.heap.size, 0, none⟩ = some x ∧ wr.cell? ⟨w.heap.size, 1, none⟩ = some y ∧ wr.cell? ⟨w.heap.size, 2, none⟩ = some z := by
  refine ⟨?_, ?_, ?_⟩
  · rw [hb.cell (p := ⟨w.heap.size, 0, none⟩) (by simp), World.cell?_alloc_new]; rfl
  · rw [hb.cell (p := ⟨w.heap.size, 1, none⟩) (by simp), World.cell?_alloc_new]; rfl
  · rw [hb.cell (p := ⟨w.heap.size, 2, none⟩) (by simp), World.cell?_alloc_new]; rfl

theorem below_box {w wr : World} {o : Obj} (hb : Below (w.heap.size + 1) (w.alloc o) wr) : Below w.heap.size w wr :=
  ((Below.refl _ _).alloc (Nat.le_refl _) o).trans (hb.mono (by omega))

/-- What each loop over a replica's rows carries. -/
abbrev BoxR (w : World) (R : Rep) (a1 a2 a3 : Option Addr) (k1 k2 k3 : Nat) (wr : World) : Prop :=
  Below (w.heap.size + 1) (w.alloc (.cells #[.slice a1 R.n1 k1, .slice a2 R.n2 k2, .slice a3 R.n3 k3] 26)) wr

/-- a text that is too long. -/
def longB (t : ByteArray) : Bool := decide ((60 : Int) < (t.size : Int))
def Rep.txt2 (R : Rep) (i : Nat) : Bool := longB (R.d i).text || ((R.d i).gone && !(R.d i).text.toList.isEmpty)
def Rep.txt3 (R : Rep) (i : Nat) : Bool := longB (R.e i).text
/-- ErrText. -/
def Rep.txtB (R : Rep) : Bool := anyTo R.txt2 R.n2 || anyTo R.txt3 R.n3

def Rep.ris1 (R : Rep) (i : Nat) : Bool := decide ((R.c (i + 1)).site ≤ (R.c i).site)
def Rep.ris2 (R : Rep) (i : Nat) : Bool := decide ((R.d (i + 1)).id ≤ (R.d i).id)
/-- ErrRise. -/
def Rep.risB (R : Rep) : Bool := anyTo R.ris1 (R.n1 - 1) || anyTo R.ris2 (R.n2 - 1)

/-- The Count of a site's clock, of the first k; 0 if there is none. -/
def clockTo (c : Nat → Ck) (site : Int) : Nat → Option Int
  | 0 => none
  | k + 1 => match clockTo c site k with
    | some x => some x
    | none => if (c k).site = site then some (c k).count else none
def Rep.clk (R : Rep) (site : Int) : Int := (clockTo R.c site R.n1).getD 0
def Rep.unc (R : Rep) (i : Nat) : Bool := decide (R.clk (R.d i).site < (R.d i).count)
/-- ErrStamp. -/
def Rep.uncB (R : Rep) : Bool := anyTo R.unc R.n2
def stampB (x y : Cd) : Bool := x.site == y.site && x.count == y.count
def Rep.clash (R : Rep) (i : Nat) : Bool := anyTo (fun k => stampB (R.d i) (R.d k)) i
/-- ErrClash. -/
def Rep.clashB (R : Rep) : Bool := anyTo R.clash R.n2
/-- ErrMany. -/
def Rep.manyB (R : Rep) : Bool := decide (8 < R.n1) || (decide (40 < R.n2) || decide (16 < R.n3))
/-- P3. -/
def Rep.chk (R : Rep) : Int :=
  if R.manyB then 1 else if R.numB then 2 else if R.txtB then 3 else if R.risB then 4 else if R.uncB then 5 else if R.clashB then 6 else 0

theorem clockTo_hit {c : Nat → Ck} {site : Int} {k : Nat} : ∀ {n : Nat}, k < n → clockTo c site k = none → (c k).site = site → clockTo c site n = some (c k).count
  | 0, h, _, _ => by omega
  | n + 1, h, h0, hp => by
    by_cases e : k = n
    · subst e; simp [clockTo, h0, hp]
    · simp [clockTo, clockTo_hit (n := n) (by omega) h0 hp]
theorem clockTo_no {c : Nat → Ck} {site : Int} {k : Nat} (h : clockTo c site k = none) (hp : ¬ (c k).site = site) : clockTo c site (k + 1) = none := by simp [clockTo, h, hp]

end Go.Proofs.Ytdjpkgaicmklmaa

/- Rows that a call makes itself: make, copy and stores of whole records, as laws for the walk. -/
namespace Go.Proofs.Ytdjpkgaicmklmaa
open Go.RowKit

/-! ### Rows of records of one length, laid flat -/
def Even (m : Nat) (rows : List (List Value)) : Prop := ∀ r, r ∈ rows → r.length = m

theorem Even.nil (m : Nat) : Even m [] := by intro r h; cases h
theorem Even.cons {m : Nat} {r : List Value} {rows : List (List Value)} (h : Even m (r :: rows)) : r.length = m ∧ Even m rows :=
  ⟨h r (by simp), fun x hx => h x (by simp [hx])⟩
theorem Even.append {m : Nat} {a b : List (List Value)} (ha : Even m a) (hb : Even m b) : Even m (a ++ b) := by
  intro r h; rcases List.mem_append.1 h with h | h
  · exact ha r h
  · exact hb r h
theorem Even.drop {m : Nat} {a : List (List Value)} (ha : Even m a) (k : Nat) : Even m (a.drop k) := fun r h => ha r (List.mem_of_mem_drop h)
theorem Even.take {m : Nat} {a : List (List Value)} (ha : Even m a) (k : Nat) : Even m (a.take k) := fun r h => ha r (List.mem_of_mem_take h)
theorem Even.set {m : Nat} {a : List (List Value)} (ha : Even m a) (k : Nat) {v : List Value} (hv : v.length = m) : Even m (a.set k v) := by
  intro r h; rcases List.mem_or_eq_of_mem_set h with h | h
  · exact ha r h
  · subst h; exact hv
theorem Even.range {m : Nat} {f : Nat → List Value} (n : Nat) (hf : ∀ i, i < n → (f i).length = m) : Even m ((List.range n).map f) := by
  intro r h
  obtain ⟨i, hi, rfl⟩ := List.mem_map.1 h
  exact hf i (List.mem_range.1 hi)
theorem Even.replicate {m : Nat} {z : List Value} (n : Nat) (hz : z.length = m) : Even m (List.replicate n z) := by
  intro r h; rw [List.eq_of_mem_replicate h]; exact hz

theorem Even.length {m : Nat} : ∀ {rows : List (List Value)}, Even m rows → rows.flatten.length = rows.length * m
  | [], _ => by simp
  | r :: rows, h => by
    have := h.cons
    simp only [List.flatten_cons, List.length_append, List.length_cons, this.1, this.2.length]
    rw [Nat.add_mul]; omega

theorem Even.at {m : Nat} : ∀ {rows : List (List Value)}, Even m rows → ∀ (i j : Nat), j < m → i < rows.length → rows.flatten[i * m + j]? = (rows.getD i [])[j]?
  | [], _, i, j, _, hi => by simp at hi
  | r :: rows, h, 0, j, hj, _ => by
    have := h.cons
    simp only [List.flatten_cons]
    rw [List.getElem?_append_left (by omega)]
    simp
  | r :: rows, h, i + 1, j, hj, hi => by
    have := h.cons
    simp only [List.flatten_cons]
    rw [List.getElem?_append_right (by rw [this.1, Nat.add_mul]; omega)]
    have e : (i + 1) * m + j - r.length = i * m + j := by rw [this.1, Nat.add_mul]; omega
    rw [e, this.2.at i j hj (by simpa using hi)]
    simp

theorem Even.takeFlat {m : Nat} : ∀ {rows : List (List Value)}, Even m rows → ∀ k, rows.flatten.take (k * m) = (rows.take k).flatten
  | [], _, k => by simp
  | r :: rows, h, 0 => by simp
  | r :: rows, h, k + 1 => by
    have := h.cons
    simp only [List.flatten_cons, List.take_succ_cons]
    rw [List.take_append, this.1]
    have e : (k + 1) * m - m = k * m := by rw [Nat.add_mul]; omega
    rw [e, this.2.takeFlat k, List.take_of_length_le (by rw [this.1, Nat.add_mul]; omega)]

theorem Even.dropFlat {m : Nat} : ∀ {rows : List (List Value)}, Even m rows → ∀ k, rows.flatten.drop (k * m) = (rows.drop k).flatten
  | [], _, k => by simp
  | r :: rows, h, 0 => by simp
  | r :: rows, h, k + 1 => by
    have := h.cons
    simp only [List.flatten_cons, List.drop_succ_cons]
    rw [List.drop_append, this.1]
    have e : (k + 1) * m - m = k * m := by rw [Nat.add_mul]; omega
    rw [e, this.2.dropFlat k, List.drop_of_length_le (by rw [this.1, Nat.add_mul]; omega)]
    simp

/-- One-cell values. -/
def Ones (rows : List (List Value)) : Prop := ∀ r, r ∈ rows → ∀ v, v ∈ r → v.oneCell' = true
theorem Ones.append {a b : List (List Value)} (ha : Ones a) (hb : Ones b) : Ones (a ++ b) := by
  intro r h; rcases List.mem_append.1 h with h | h
  · exact ha r h
  · exact hb r h
theorem Ones.drop {a : List (List Value)} (ha : Ones a) (k : Nat) : Ones (a.drop k) := fun r h => ha r (List.mem_of_mem_drop h)
theorem Ones.set {a : List (List Value)} (ha : Ones a) (k : Nat) {v : List Value} (hv : ∀ x, x ∈ v → x.oneCell' = true) : Ones (a.set k v) := by
  intro r h; rcases List.mem_or_eq_of_mem_set h with h | h
  · exact ha r h
  · subst h; exact hv
theorem Ones.range {f : Nat → List Value} (n : Nat) (hf : ∀ i, i < n → ∀ v, v ∈ f i → v.oneCell' = true) : Ones ((List.range n).map f) := by
  intro r h
  obtain ⟨i, hi, rfl⟩ := List.mem_map.1 h
  exact hf i (List.mem_range.1 hi)

/-- Block g holds these rows and nothing else; nothing of it is frozen. -/
structure Own (w : World) (g e m : Nat) (rows : List (List Value)) : Prop where
  even : Even m rows
  block : w.heap[g]? = some (.cells rows.flatten.toArray e (0, 0))

theorem Own.lt {w : World} {g e m : Nat} {rows : List (List Value)} (h : Own w g e m rows) : g < w.heap.size := (Array.getElem?_eq_some_iff.1 h.block).1

theorem Own.cell {w : World} {g e m : Nat} {rows : List (List Value)} (h : Own w g e m rows) (i j : Nat) (hi : i < rows.length) (hj : j < m) :
    w.cell? ⟨g, i * m + j, none⟩ = (rows.getD i [])[j]? := by
  rw [← h.even.at i j hj hi]
  simp [World.cell?, h.block]

theorem Own.lies {w : World} {g e m : Nat} {rows : List (List Value)} (h : Own w g e m rows) (n : Nat) (f : Nat → List Value) (hn : n ≤ rows.length) (hf : ∀ i, i < n → rows.getD i [] = f i) :
    Lies w (some ⟨g, 0, none⟩) n m f := by
  refine Or.inr ⟨g, 0, rfl, h.lt, fun i hi j v hj hv => ?_⟩
  rw [show 0 + i * m + j = i * m + j by omega, h.cell i j (by omega) hj, hf i hi]
  exact hv

theorem Own.below {w w' : World} {B g e m : Nat} {rows : List (List Value)} (h : Own w g e m rows) (hb : Below B w w') (hg : g < B) : Own w' g e m rows :=
  ⟨h.even, by rw [hb.block g hg]; exact h.block⟩

/-- Block g alone has turned. -/
structure Upd (g : Nat) (w w' : World) : Prop where
  os : w'.os = w.os
  tape : w'.tape = w.tape
  output : w'.output = w.output
  size : w'.heap.size = w.heap.size
  block : ∀ k, k ≠ g → w'.heap[k]? = w.heap[k]?

theorem Upd.below {g B : Nat} {w0 w w' : World} (h : Upd g w w') (hb : Below B w0 w) (hg : B ≤ g) : Below B w0 w' :=
  hb.trans ⟨h.os, h.tape, h.output, by rw [h.size]; exact Nat.le_refl _, fun k hk => h.block k (by omega)⟩

theorem Own.upd {w w' : World} {g g' e m : Nat} {rows : List (List Value)} (h : Own w g e m rows) (hb : Upd g' w w') (hg : g ≠ g') : Own w' g e m rows :=
  ⟨h.even, by rw [hb.block g hg]; exact h.block⟩

theorem Upd.setRow (w : World) (g : Nat) (c : Array Value) : Upd g w (w.setRow g c) :=
  ⟨rfl, rfl, rfl, by simp [World.setRow], fun k hk => setRow_other w g k c hk⟩

theorem Upd.refl (g : Nat) (w : World) : Upd g w w := ⟨rfl, rfl, rfl, rfl, fun _ _ => rfl⟩
theorem Upd.trans {g : Nat} {a b c : World} (h : Upd g a b) (k : Upd g b c) : Upd g a c :=
  ⟨k.os.trans h.os, k.tape.trans h.tape, k.output.trans h.output, k.size.trans h.size, fun i hi => (k.block i hi).trans (h.block i hi)⟩
theorem Upd.drew {g : Nat} {a b : World} (h : Upd g a b) : Upd g a b.drew := h.trans ⟨rfl, rfl, rfl, rfl, fun _ _ => rfl⟩
theorem Upd.drewN {g : Nat} {a b : World} (h : Upd g a b) (n : Nat) : Upd g a (b.drewN n) := h.trans ⟨rfl, rfl, rfl, rfl, fun _ _ => rfl⟩
theorem Upd.setCell {g : Nat} {a b : World} (h : Upd g a b) (p : Addr) (hp : p.block = g) (v : Value) : Upd g a (b.setCell p v) :=
  h.trans ⟨rfl, rfl, rfl, by simp [World.setCell], fun k hk => Below.heap_setCell _ _ _ _ (by omega)⟩

theorem addr_add (b off j : Nat) : (⟨b, off, none⟩ : Addr).add j = ⟨b, off + j, none⟩ := by
  unfold Addr.add
  by_cases h : j = 0 <;> simp [h]

section
variable {P : Program} {w : World} {ops : Array Oper} {rest : List Oper} {o : Oper} {a : Act} {Q : Exit → Act → World → Prop}

theorem madeCells_flat (zs : List Value) (m n : Nat) (hm : zs.length = m) (h0 : 0 < m) : madeCells zs.toArray (n * m) = (List.replicate n zs).flatten.toArray := by
  have hE := Even.replicate (m := m) n hm
  apply Array.ext_getElem?
  intro k
  by_cases hk : k < n * m
  · have h1 : (madeCells zs.toArray (n * m))[k]? = some (zs.toArray[k % zs.toArray.size]!) := by
      simp [madeCells, hk]
    rw [h1]
    have hq : k / m < n := Nat.div_lt_of_lt_mul (by rw [Nat.mul_comm]; exact hk)
    have hr : k % m < m := Nat.mod_lt _ h0
    have hk2 : k = k / m * m + k % m := by rw [Nat.mul_comm]; exact (Nat.div_add_mod k m).symm
    have h2 : (List.replicate n zs).flatten[k]? = zs[k % m]? := by
      have := hE.at (k / m) (k % m) hr (by simpa using hq)
      rw [← hk2] at this
      rw [this]
      simp [List.getD, hq]
    simp only [List.getElem?_toArray, h2, List.size_toArray, hm]
    rw [List.getElem?_eq_getElem (by omega)]
    simp [hm, hr]
  · have h1 : (madeCells zs.toArray (n * m)).size ≤ k := by rw [size_madeCells]; omega
    rw [Array.getElem?_eq_none h1]
    rw [List.getElem?_toArray, List.getElem?_eq_none]
    rw [hE.length]; simp; omega

/-- 'make([]T, n)', T of m cells. -/
theorem wpList_make_rows (hg : o.guard = none) (l c : Operand) (t : TypeId) (hop : o.op = Op.makeSlice t l c) (e : TypeId) (zs : List Value) (m bytes : Nat)
    (ht : P.underlying t = some (.slice e)) (hinfo : (P.info? e).map (fun i => (i.zero, i.size, i.bytes)) = some (some (.agg zs.toArray), m, bytes)) (hm : zs.length = m) (h0 : 0 < m)
    (n : Nat) (N : Int) (hN : N = (n : Int)) (hl : a.eval l = .int .i64 N) (hc : a.eval c = .int .i64 N) (hbytes : bytes * n ≤ 281474976710656) (h63 : n ≤ 9223372036854775807)
    (h : ∀ g ad w', Hid (ad = some ⟨g, 0, none⟩) → w.heap.size ≤ g → g < w'.heap.size → Own w' g e m (List.replicate n zs) → Below w.heap.size w w' → wpList P ops Q rest (a.put o.dst (.slice ad n n)) w') :
    wpList P ops Q (o :: rest) a w := by
  subst hN
  obtain ⟨i, hi, hzz⟩ := Option.map_eq_some_iff.1 hinfo
  simp only [Prod.mk.injEq] at hzz
  obtain ⟨hz, hs, hb⟩ := hzz
  refine wpList_plain hg fun K hK => ?_
  have hb' : (i.bytes : Int) * (n : Int) ≤ 281474976710656 := by
    have h : ((i.bytes * n : Nat) : Int) ≤ 281474976710656 := by rw [hb]; omega
    rwa [Int.natCast_mul] at h
  have hr := run_make (P := P) w t e i (.agg zs.toArray) ht hi hz .i64 .i64 (n : Int) (n : Int) (by omega) (Int.le_refl _) hb' (by omega)
  simp only [Int.toNat_natCast, hs, Value.cells, madeCells_flat zs m n hm h0] at hr
  unfold Oper.wp
  simp [execOp, hop, hl, hc, hr, Result.andThen]
  refine hK _ _ (h w.heap.size _ _ rfl (Nat.le_refl _) (by simp) ⟨Even.replicate n hm, ?_⟩ ((Below.refl _ _).alloc (Nat.le_refl _) _))
  show (w.heap.push _)[w.heap.size]? = _
  rw [Array.getElem?_push_size]

theorem run_copy_rows (w : World) (dT sT ty e : TypeId) (g N cap n scap m : Nat) (src : Option Addr) (f : Nat → List Value) (rows : List (List Value))
    (hu : P.underlying dT = some (.slice e)) (hs : (P.info? e).map (·.size) = some m) (hown : Own w g e m rows) (hN : rows.length = N) (hn : n ≤ N) (hL : Lies w src n m f)
    (hf : ∀ i, i < n → (f i).length = m) (h1 : ∀ i, i < n → ∀ v, v ∈ f i → v.oneCell' = true) :
    ∃ w', (Builtin.copy_ #[dT, sT] ty #[.slice (some ⟨g, 0, none⟩) N cap, .slice src n scap]).run P w = .ok (goInt n) w' ∧
      Own w' g e m ((List.range n).map f ++ rows.drop n) ∧ Upd g w w' := by
  have hE : Even m ((List.range n).map f) := Even.range n hf
  have hEl : ((List.range n).map f).flatten.length = n * m := by rw [hE.length]; simp
  have hmin : Nat.min n N = n := Nat.min_eq_left hn
  cases hq : P.info? e with
  | none => simp [hq] at hs
  | some i =>
    have hi : i.size = m := by simpa [hq] using hs
    have hst := run_storeCells_at P g 0 e ((List.range n).map f).flatten 0 rows.flatten.toArray w hown.block (by
        simp only [List.size_toArray, hown.even.length, hEl, hN, Nat.zero_add]; exact Nat.mul_le_mul_right _ hn) (by
        intro v hv
        obtain ⟨r, hr, hv⟩ := List.mem_flatten.1 hv
        exact Ones.range n h1 r hr v hv)
    refine ⟨w.setRow g (((List.range n).map f ++ rows.drop n).flatten).toArray, ?_, ⟨hE.append (hown.even.drop n), setRow_heap w g _ _ e _ hown.block⟩, Upd.setRow _ _ _⟩
    have e1 : (0 + 0 + ((List.range n).map f).flatten.length) = n * m := by rw [hEl]; omega
    rw [e1, show (0 + 0 : Nat) = 0 from rfl] at hst
    simp only [List.take_zero, List.nil_append, hown.even.dropFlat n] at hst
    rw [← List.flatten_append] at hst
    have hload : (Builtin.firstCells m n (.slice src n scap)).run P w = .ok ((List.range n).map f).flatten.toArray w := by
      rcases hL with h0 | ⟨b, off, rfl, _, hc⟩
      · subst h0
        cases src with
        | none => simp [Builtin.firstCells]
        | some ad => simp [Builtin.firstCells, loadCells, loadCellsFrom]
      · simp only [Builtin.firstCells]
        rw [← hEl]
        refine run_loadCells_list w _ _ fun j v hj => ?_
        have hjl : j < n * m := by
          rcases Nat.lt_or_ge j (n * m) with h | h
          · exact h
          · rw [List.getElem?_eq_none (by omega)] at hj; cases hj
        have h0 : 0 < m := by rcases Nat.eq_zero_or_pos m with h | h; (subst h; simp at hjl); exact h
        have hk2 : j = j / m * m + j % m := by rw [Nat.mul_comm]; exact (Nat.div_add_mod j m).symm
        have hqn : j / m < n := Nat.div_lt_of_lt_mul (by rw [Nat.mul_comm]; exact hjl)
        have hr : j % m < m := Nat.mod_lt _ h0
        have hat := hE.at (j / m) (j % m) hr (by simpa using hqn)
        rw [← hk2, hj] at hat
        have hget : ((List.range n).map f).getD (j / m) [] = f (j / m) := by simp [List.getD, hqn]
        rw [hget] at hat
        have hcell := hc (j / m) hqn (j % m) v hr hat.symm
        rw [addr_add]
        rw [show off + j / m * m + j % m = off + j by omega] at hcell
        exact hcell
    simp [Builtin.copy_, run_underlying hu, Builtin.lenOf, sizeOf, typeInfo, hq, hi, hmin, hload]
    simpa using congrArg (fun r => r.andThen fun _ w' => Result.ok (goInt n) w') hst

/-- 'copy(dst, src)', dst a row of the call's own that begins at its block's head. -/
theorem wpList_copy_rows (hgd : o.guard = none) (d s : Operand) (dT sT : TypeId) (ho : o.op = .call { callee := .builtin .copy, args := #[d, s], argTypes := #[dT, sT] }) (e m : Nat)
    (hu : P.underlying dT = some (.slice e)) (hs : (P.info? e).map (·.size) = some m) (g : Nat) (ad : Option Addr) (hg : Hid (ad = some ⟨g, 0, none⟩)) (N cap n scap : Nat) (src : Option Addr)
    (hd : a.eval d = .slice ad N cap) (hsrc : a.eval s = .slice src n scap) (f : Nat → List Value) (rows : List (List Value)) (hown : Own w g e m rows) (hN : rows.length = N) (hn : n ≤ N) (hL : Lies w src n m f)
    (hf : ∀ i, i < n → (f i).length = m) (h1 : ∀ i, i < n → ∀ v, v ∈ f i → v.oneCell' = true)
    (h : ∀ w', Own w' g e m ((List.range n).map f ++ rows.drop n) → Upd g w w' → wpList P ops Q rest (a.put o.dst (goInt n)) w') : wpList P ops Q (o :: rest) a w := by
  have hg' := hg.out
  subst hg'
  obtain ⟨w', hrun, h2, h3⟩ := run_copy_rows (P := P) w dT sT o.type e g N cap n scap m src f rows hu hs hown hN hn hL hf h1
  refine wpList_plain hgd fun K hK => ?_
  unfold Oper.wp
  simp [execOp, ho, resolve, invoke, builtin, hd, hsrc, hrun, Result.andThen]
  exact hK _ _ (h w' h2 h3)

/-- 's[i] = T{..}' into a row of the call's own. -/
theorem wpList_store_rows (hgd : o.guard = none) (p v : Operand) (t : TypeId) (ho : o.op = .store t p v) (e m : Nat) (hs : (P.info? t).map (·.size) = some m) (g i : Nat) (ad : Addr) (had : ad = ⟨g, i * m, none⟩)
    (hp : a.eval p = .pointer (some ad)) (vs : List Value) (hv : a.eval v = .agg vs.toArray) (hm : vs.length = m) (h1 : ∀ x, x ∈ vs → x.oneCell' = true) (rows : List (List Value)) (hown : Own w g e m rows) (hi : i < rows.length)
    (h : ∀ w', Own w' g e m (rows.set i vs) → Upd g w w' → wpList P ops Q rest (a.put o.dst undef) w') : wpList P ops Q (o :: rest) a w := by
  subst had
  refine wpList_plain hgd fun K hK => ?_
  have hfit : i * m + 0 + vs.length ≤ rows.flatten.toArray.size := by
    simp only [List.size_toArray, hown.even.length, hm, Nat.add_zero]
    have : (i + 1) * m ≤ rows.length * m := Nat.mul_le_mul_right _ hi
    rw [Nat.add_mul] at this; omega
  have hst := run_storeCells_at P g (i * m) e vs 0 rows.flatten.toArray w hown.block hfit h1
  have e1 : i * m + 0 + vs.length = (i + 1) * m := by rw [hm, Nat.add_mul]; omega
  have hset : rows.set i vs = rows.take i ++ vs :: rows.drop (i + 1) := by
    rw [List.set_eq_take_append_cons_drop, if_pos hi]
  have e2 : rows.flatten.toArray.toList.take (i * m + 0) ++ vs ++ rows.flatten.toArray.toList.drop (i * m + 0 + vs.length) = (rows.set i vs).flatten := by
    rw [e1, Nat.add_zero, hset]
    simp only [hown.even.takeFlat i, hown.even.dropFlat (i + 1)]
    simp
  rw [e2] at hst
  cases hq : P.info? t with
  | none => simp [hq] at hs
  | some inf =>
    have hi' : inf.size = m := by simpa [hq] using hs
    unfold Oper.wp
    simp [execOp, ho, hp, hv, Instr.storeAt, Instr.sureAddr, storeVar, sizeOf, typeInfo, hq, hi', Value.cells, hm, hst, Result.andThen]
    exact hK _ _ (h _ ⟨hown.even.set i hm, setRow_heap w g _ _ e _ hown.block⟩ (Upd.setRow _ _ _))
end

theorem Own.idx {ad : Option Addr} {g : Nat} (had : Hid (ad = some ⟨g, 0, none⟩)) {P : Program} {t : TypeId} {m : Nat} (n cap : Nat)
    (ht : P.underlying t = some (.slice (P.elem t))) (hs : (P.info? (P.elem t)).map (·.size) = some m) {k : Nat} (hk : k < n) (N : Int) (hN : N = (k : Int)) (w' : World) :
    (Instr.indexAt t (.slice ad n cap) (.int .i64 N)).run P w' = .ok (.pointer (some ⟨g, k * m, none⟩)) w' := by
  subst hN
  rw [had.out]
  cases hq : P.info? (P.elem t) with
  | none => simp [hq] at hs
  | some i =>
    have hi : i.size = m := by simpa [hq] using hs
    rw [run_indexAt_slice w' t _ n cap .i64 (k : Int) ht, if_pos (by omega)]
    have hz : (sizeOf (P.elem t)).run P w' = .ok m w' := by simp [sizeOf, typeInfo, hq, hi]
    rw [hz]
    simp only [Result.andThen_ok, Int.toNat_natCast, addr_add, Nat.zero_add]
end Go.Proofs.Ytdjpkgaicmklmaa

/- Bytes and strings: a row of bytes made into a string. -/
namespace Go.Proofs.Ytdjpkgaicmklmaa
open Go.RowKit

/-- The bytes of numbers. -/
def byt (n : Int) : UInt8 := UInt8.ofNat n.toNat
def str (l : List UInt8) : ByteArray := ⟨l.toArray⟩

theorem str_append (a b : List UInt8) : str a ++ str b = str (a ++ b) := ByteArray.mk_append_mk a b
theorem str_size (a : List UInt8) : (str a).size = a.length := by simp [str, ByteArray.size]
theorem str_toList (a : List UInt8) : (str a).toList = a := by rw [ByteArray.toList_eq]; rfl
theorem str_data (s : ByteArray) : str s.data.toList = s := by cases s; simp [str]
theorem str_inj {a b : List UInt8} (h : str a = str b) : a = b := by
  have := congrArg (fun s : ByteArray => s.data.toList) h
  simpa [str] using this

theorem foldl_push (ns : List Int) : ∀ s : List UInt8, ns.foldl (fun r n => r.push (UInt8.ofNat n.toNat)) (str s) = str (s ++ ns.map byt) := by
  induction ns with
  | nil => intro s; simp
  | cons n ns ih =>
    intro s
    have e : (str s).push (UInt8.ofNat n.toNat) = str (s ++ [byt n]) := by
      simp [str, ByteArray.push, byt]
    simp only [List.foldl_cons, e, ih, List.map_cons]
    congr 1; simp

section
variable {P : Program} {w : World} {ops : Array Oper} {rest : List Oper} {o : Oper} {a : Act} {Q : Exit → Act → World → Prop}

theorem run_toString (w : World) (src dst e : TypeId) (ad : Addr) (len cap : Nat) (ns : List Int) (hs : P.underlying src = some (.slice e)) (he : P.underlying e = some (.int .u8)) (hd : P.underlying dst = some .string)
    (hl : ns.length = len) (hc : ∀ j v, (ns.map (Value.int .u8))[j]? = some v → w.cell? (ad.add j) = some v) :
    (convert src dst (.slice (some ad) len cap)).run P w = .ok (.string (str (ns.map byt))) w := by
  rw [run_convert_bytes_string w src dst e _ _ _ hs he hd]
  have hload : (loadCells ad len).run P w = .ok (ns.map (Value.int .u8)).toArray w := by
    have := run_loadCells_list (P := P) w ad (ns.map (Value.int .u8)) hc
    simpa [hl] using this
  rw [run_bytesToString w ad len cap ns hload]
  have := foldl_push ns []
  simp only [List.nil_append] at this
  rw [← this]; rfl

/-- 'string(b)'. -/
theorem wpList_toString (hgd : o.guard = none) (src dst e : TypeId) (x : Operand) (ho : o.op = .convert src dst x) (hs : P.underlying src = some (.slice e)) (he : P.underlying e = some (.int .u8)) (hd : P.underlying dst = some .string)
    (ad : Addr) (len cap : Nat) (hx : a.eval x = .slice (some ad) len cap) (ns : List Int) (hl : ns.length = len) (hc : ∀ j v, (ns.map (Value.int .u8))[j]? = some v → w.cell? (ad.add j) = some v)
    (h : wpList P ops Q rest (a.put o.dst (.string (str (ns.map byt)))) w) : wpList P ops Q (o :: rest) a w := by
  refine wpList_plain hgd fun K hK => ?_
  have hrun := run_toString (P := P) w src dst e ad len cap ns hs he hd hl hc
  unfold Oper.wp
  simp [execOp, ho, hx, hrun, Result.andThen]
  exact hK _ _ h
end
end Go.Proofs.Ytdjpkgaicmklmaa

/- Lists that a call grows by append: what they hold, one element more, an element read or written. -/
namespace Go.Proofs.Ytdjpkgaicmklmaa
open Go.RowKit

/-- The slice (ad, n, cap) is nil or lies in a block of the call's own, from block number B on; xs: its cells, m an element. -/
def Vec (w : World) (B e m : Nat) (ad : Option Addr) (n cap : Nat) (xs : List Value) : Prop := w.ownsRow B e m (.slice ad n cap) n xs

theorem Vec.nil (w : World) (B e m : Nat) : Vec w B e m none 0 0 [] := World.ownsRow_nil w B e m
theorem Vec.length {w : World} {B e m : Nat} {ad : Option Addr} {n cap : Nat} {xs : List Value} (h : Vec w B e m ad n cap xs) : xs.length = n * m := h.1
theorem Vec.keep {w w' : World} {B e m : Nat} {ad : Option Addr} {n cap : Nat} {xs : List Value} (h : Vec w B e m ad n cap xs) (hb : Below w.heap.size w w') : Vec w' B e m ad n cap xs := by
  refine ⟨h.1, ?_⟩
  rcases h.2 with h2 | ⟨g, c, cur, hv, hB, hg, r⟩
  · exact Or.inl h2
  · exact Or.inr ⟨g, c, cur, hv, hB, by rw [hb.block g (Array.getElem?_eq_some_iff.1 hg).1]; exact hg, r⟩
theorem Vec.mono {w : World} {B B' e m : Nat} {ad : Option Addr} {n cap : Nat} {xs : List Value} (h : Vec w B e m ad n cap xs) (hB : B' ≤ B) : Vec w B' e m ad n cap xs := by
  refine ⟨h.1, ?_⟩
  rcases h.2 with h2 | ⟨g, c, cur, hv, hb, r⟩
  · exact Or.inl h2
  · exact Or.inr ⟨g, c, cur, hv, Nat.le_trans hB hb, r⟩

/-- A list literal. -/
theorem Vec.lit (w : World) (B e m n : Nat) (xs : List Value) (hB : B ≤ w.heap.size) (hn : n < 9223372036854775807) (hx : xs.length = n * m) : Vec (w.alloc (.cells xs.toArray e)) B e m (some ⟨w.heap.size, 0, none⟩) n n xs :=
  World.ownsRow_lit w xs.toArray n hB (by unfold maxLen; omega) (by simpa using hx)

/-- Its place, if it has an element. -/
theorem Vec.form {w : World} {B e m : Nat} {ad : Option Addr} {n cap : Nat} {xs : List Value} (h : Vec w B e m ad n cap xs) (hn : 0 < n) : ∃ g, ad = some ⟨g, 0, none⟩ ∧ B ≤ g ∧ g < w.heap.size := by
  obtain ⟨g, c, hv, hb, hl⟩ := World.ownsRow.form h hn
  simp at hv
  exact ⟨g, hv.1, hb, hl⟩

/-- Element i: where it lies, what it holds; and the list behind a store into it (elements of one cell). -/
theorem Vec.at {w : World} {B e m : Nat} {ad : Option Addr} {n cap : Nat} {xs : List Value} (h : Vec w B e m ad n cap xs) {P : Program} {t : TypeId}
    (ht : P.underlying t = some (.slice (P.elem t))) (hs : (P.info? (P.elem t)).map (·.size) = some m) {i : Nat} (hi : i < n) (N : Int) (hN : N = (i : Int)) :
    ∃ b o, B ≤ b ∧ b < w.heap.size ∧ (∀ w', (Instr.indexAt t (.slice ad n cap) (.int .i64 N)).run P w' = .ok (.pointer (some ⟨b, o, none⟩)) w') ∧
      (∀ j, j < m → w.cell? ⟨b, o + j, none⟩ = xs[i * m + j]?) ∧ (∀ j, w.frozen? ⟨b, o + j, none⟩ = false) ∧
      (∀ j u, Vec (w.setCell ⟨b, o + j, none⟩ u) B e m ad n cap (xs.set (i * m + j) u)) := by
  obtain ⟨g, rfl, hB, hl⟩ := h.form (by omega)
  refine ⟨g, i * m, hB, hl, fun w' => Own.idx (had := rfl) n cap ht hs hi N hN w', fun j hj => ?_, fun j => ?_, fun j u => ?_⟩
  · refine World.ownsRow.cellAt h (i * m + j) ?_
    have : (i + 1) * m ≤ n * m := Nat.mul_le_mul_right _ hi
    rw [Nat.add_mul] at this; omega
  · exact World.ownsRow.frozenAt h _
  · exact (World.ownsRow.stored h (i * m + j) u).1

/-- Where a list lies its elements can be read. -/
theorem Vec.lies {w : World} {B e m : Nat} {ad : Option Addr} {n cap : Nat} {rows : List (List Value)} (h : Vec w B e m ad n cap rows.flatten) (hE : Even m rows) (hn : rows.length = n) (f : Nat → List Value) (hf : ∀ i, i < n → rows.getD i [] = f i) : Lies w ad n m f := by
  by_cases h0 : n = 0
  · exact Or.inl h0
  · obtain ⟨g, rfl, hB, hl⟩ := h.form (by omega)
    refine Or.inr ⟨g, 0, rfl, hl, fun i hi j v hj hv => ?_⟩
    rw [show 0 + i * m + j = i * m + j by omega]
    have hc : w.cell? ⟨g, i * m + j, none⟩ = rows.flatten[i * m + j]? := by
      refine World.ownsRow.cellAt h (i * m + j) ?_
      have : (i + 1) * m ≤ n * m := Nat.mul_le_mul_right _ hi
      rw [Nat.add_mul] at this; omega
    rw [hc, hE.at i j hj (by omega), hf i hi, hv]

section
variable {P : Program} {w : World} {ops : Array Oper} {rest : List Oper} {o : Oper} {a : Act} {Q : Exit → Act → World → Prop}

/-- 'l = append(l, x)': one element more. -/
theorem wpList_push (hgd : o.guard = none) (s x : Operand) (t : TypeId) (ho : o.op = .call { callee := .builtin .append, args := #[s, x], argTypes := #[t, t] })
    (B e m bytes : Nat) (z : Value) (ht : P.underlying t = some (.slice e)) (hinfo : (P.info? e).map (fun i => (i.zero, i.size, i.bytes)) = some (some z, m, bytes)) (hzs : z.cells.size = m) (hm : 0 < m)
    (ad : Option Addr) (n cap : Nat) (xs : List Value) (hs : a.eval s = .slice ad n cap) (hown : Vec w B e m ad n cap xs)
    (ad1 : Addr) (c : Nat) (row : List Value) (hx : a.eval x = .slice (some ad1) 1 c) (hl : row.length = m) (hnews : ∀ j u, row[j]? = some u → w.cell? (ad1.add j) = some u) (h1 : ∀ u, u ∈ row → u.oneCell' = true)
    (hbytes : (n + 1) * bytes ≤ 140737488355328) (hn : n < 9223372036854775807) (hB : B ≤ w.heap.size)
    (h : ∀ ad' cap' w', Vec w' B e m ad' (n + 1) cap' (xs ++ row) → Below B w w' → w.heap.size ≤ w'.heap.size → wpList P ops Q rest (a.put o.dst (.slice ad' (n + 1) cap')) w') : wpList P ops Q (o :: rest) a w := by
  obtain ⟨i, hi, hzz⟩ := Option.map_eq_some_iff.1 hinfo
  simp only [Prod.mk.injEq] at hzz
  obtain ⟨hz, hsz, hby⟩ := hzz
  refine wpList_append_lies w hgd s x t ho B e i z m bytes ht hi hz hsz hby hzs hm (.slice ad n cap) n xs hs hown ad1 1 c row hx (by rw [hl, Nat.one_mul]) hnews h1 (by omega) (by unfold maxLen; omega) hbytes hB w.heap.size rfl ?_
  intro g cap' w' ho' hgr _ _
  refine h (some ⟨g, 0, none⟩) cap' w' ho' ?_ hgr.size
  exact (Below.refl _ _).grown hgr hB (fun k hk => (World.ownsRow.lt hown k hk).1)

/-- 'string(b)' of such a list. -/
theorem wpList_toString_vec (hgd : o.guard = none) (src dst e : TypeId) (x : Operand) (ho : o.op = .convert src dst x) (hs : P.underlying src = some (.slice e)) (he : P.underlying e = some (.int .u8)) (hd : P.underlying dst = some .string)
    (B n cap : Nat) (ad : Option Addr) (hx : a.eval x = .slice ad n cap) (ns : List Int) (hown : Vec w B e 1 ad n cap (ns.map (Value.int .u8))) (hn : 0 < n)
    (h : wpList P ops Q rest (a.put o.dst (.string (str (ns.map byt)))) w) : wpList P ops Q (o :: rest) a w := by
  obtain ⟨g, rfl, _, _⟩ := hown.form hn
  refine wpList_toString hgd src dst e x ho hs he hd ⟨g, 0, none⟩ n cap hx ns (by have := hown.length; simpa using this) ?_ h
  exact World.ownsRow.cells hown rfl
end

/-- The cells of a block that has just been laid. -/
theorem new_cells (w : World) (cs : List Value) (t : TypeId) : ∀ j u, cs[j]? = some u → (w.alloc (.cells cs.toArray t)).cell? ((⟨w.heap.size, 0, none⟩ : Addr).add j) = some u := by
  intro j u h
  rw [addr_add, World.cell?_alloc_new]
  simpa using h
end Go.Proofs.Ytdjpkgaicmklmaa

/- The program's bytes: oneByte, FourBytes, goneByte, Number, walked. -/
namespace Go.Proofs.Ytdjpkgaicmklmaa
open Go.RowKit

theorem ret_str {a b : List UInt8} (h : a = b) : Ending.returned (.string (str a)) = .returned (.string (str b)) := by rw [h]

set_option maxRecDepth 100000 in
set_option maxHeartbeats 1000000 in
theorem oneByte_any (n : Int) (w : World) (h0 : 0 ≤ n) (h1 : n ≤ 255) :
    Calls Try.prog 124 #[.int .i64 n] w fun e w' => e = .returned (.string (str [byt n])) ∧ Below w.heap.size w w' := by
  go_enter Try.func124, Try.ntmps124
  go_wp2_with (refine wpList_toString (by rfl) 126 9 5 _ (by rfl) Try.underlying126 Try.underlying5 Try.underlying9 _ _ _ (by rfl) [n] rfl ?_ ?_; exact new_cells _ _ _)
  go_ret
  exact ⟨rfl, (Below.refl _ _).alloc (Nat.le_refl _) _⟩

/-- A sum as bytes. -/
def fourI (n : Int) : List UInt8 := [byt (n / 16777216), byt (n / 65536 % 256), byt (n / 256 % 256), byt (n % 256)]

set_option maxRecDepth 100000 in
set_option maxHeartbeats 1000000 in
theorem fourBytes_any (n : Int) (w : World) (h0 : 0 ≤ n) (h1 : n ≤ 4294967295) :
    Calls Try.prog 84 #[.int .i64 n] w fun e w' => e = .returned (.string (str (fourI n))) ∧ Below w.heap.size w w' := by
  go_enter Try.func84, Try.ntmps84
  go_wp2_with (refine wpList_toString (by rfl) 126 9 5 _ (by rfl) Try.underlying126 Try.underlying5 Try.underlying9 _ _ _ (by rfl) [n / 16777216, n / 65536 % 256, n / 256 % 256, n % 256] rfl ?_ ?_; exact new_cells _ _ _)
  go_ret
  exact ⟨rfl, (Below.refl _ _).alloc (Nat.le_refl _) _⟩

set_option maxRecDepth 100000 in
set_option maxHeartbeats 1000000 in
theorem rfour_any (n : Int) (w : World) (h0 : 0 ≤ n) (h1 : n ≤ 4294967295) :
    Calls Try.prog 60 #[.int .i64 n] w fun e w' => e = .returned (.string (str (fourI n))) ∧ Below w.heap.size w w' := by
  go_enter Try.func60, Try.ntmps60
  go_wp2_with (refine wpList_toString (by rfl) 126 9 5 _ (by rfl) Try.underlying126 Try.underlying5 Try.underlying9 _ _ _ (by rfl) [n / 16777216, n / 65536 % 256, n / 256 % 256, n % 256] rfl ?_ ?_; exact new_cells _ _ _)
  go_ret
  exact ⟨rfl, (Below.refl _ _).alloc (Nat.le_refl _) _⟩

theorem goneByte_any (b : Bool) (w : World) :
    Calls Try.prog 147 #[.bool b] w fun e w' => e = .returned (.string (str [if b then 1 else 0])) ∧ Below w.heap.size w w' := by
  cases b
  · go_enter Try.func147, Try.ntmps147
    go_wp2_with (go_at_call 124; refine (oneByte_any _ _ (by decide) (by decide)).mono ?_; rintro e w' ⟨rfl, hb⟩)
    go_ret
    exact ⟨rfl, hb⟩
  · go_enter Try.func147, Try.ntmps147
    go_wp2_with (go_at_call 124; refine (oneByte_any _ _ (by decide) (by decide)).mono ?_; rintro e w' ⟨rfl, hb⟩)
    go_ret
    exact ⟨rfl, hb⟩

/-- A number's bytes, by at most so many steps. -/
def numI : Nat → Int → List Int
  | 0, n => [n]
  | k + 1, n => if n < 128 then [n] else (n % 128 + 128) :: numI k (n / 128)
def numB (n : Int) : List UInt8 := (numI 9 n).map byt

theorem numI_small (k : Nat) (n : Int) (h : n < 128) : numI k n = [n] := by
  cases k with
  | zero => rfl
  | succ k => simp [numI, h]
theorem numI_length : ∀ (k : Nat) (n : Int), (numI k n).length ≤ k + 1
  | 0, n => by simp [numI]
  | k + 1, n => by
    simp only [numI]; split
    · simp
    · have := numI_length k (n / 128); simp; omega

set_option maxRecDepth 100000 in
set_option maxHeartbeats 2000000 in
theorem number_any (n : Int) (w : World) (h0 : 0 ≤ n) (h1 : n ≤ 9223372036854775807) :
    Calls Try.prog 146 #[.int .i64 n] w fun e w' => e = .returned (.string (str (numB n))) ∧ Below w.heap.size w w' := by
  go_enter Try.func146, Try.ntmps146
  go_wp2
  go_loopw [0, 3] (fun v u wr => ∃ (k : Nat) (y : Int) (ad : Option Addr) (cap : Nat) (ns : List Int) (N : Nat), v = .int .i64 y ∧ u = .slice ad N cap ∧ 0 ≤ y ∧ y ≤ 9223372036854775807 ∧ y < 128 ^ (k + 1) ∧ ns ++ numI k y = numI 9 n ∧ N + k = 9 ∧
      Vec wr w.heap.size 5 1 ad N cap (ns.map (Value.int .u8)) ∧ Below w.heap.size w wr) (fun v _ _ => (intOf v).toNat)
  case atStart => exact ⟨9, n, _, 0, [], 0, rfl, rfl, h0, h1, by omega, rfl, rfl, Vec.lit w _ _ _ 0 [] (Nat.le_refl _) (by omega) (by simp), (Below.refl _ _).alloc (Nat.le_refl _) _⟩
  case round =>
    obtain ⟨k, y, ad, cap, ns, N, rfl, rfl, y0, y1, hy, hns, hk, hv, hb⟩ := hrel
    have HY : Hid (y < 128 ^ (k + 1)) := hy
    have HN : Hid (ns ++ numI k y = numI 9 n) := hns
    have HK : Hid (N + k = 9) := hk
    have hN : N ≤ 9 := by omega
    have hz := hb.size
    clear hy hns hk
    by_cases hlt : 128 ≤ y
    · go_wp2_with (at_builtin; refine wpList_push (by rfl) _ _ 126 (by rfl) w.heap.size 5 1 1 (.int .u8 0) Try.underlying126 (by kernel_rfl) rfl (by decide) ad N cap _ (by rfl) (hv.keep ((Below.refl _ _).alloc (Nat.le_refl _) _)) _ _ [.int .u8 (y % 128 + 128)] (by rfl) rfl ?_ ?_ ?_ ?_ ?_ ?_; exact new_cells _ _ _; (simp [Value.oneCell']); (omega); (omega); (simp; omega); intro ad' cap' w' hv' hb' hs')
      have hb2 : Below w.heap.size w w' := hb.trans (((Below.refl _ wr).alloc (Nat.le_refl _) _).mono hz |>.trans hb')
      have hk1 : ∃ j, k = j + 1 := by
        rcases k with _ | j
        · have := HY.out; simp at this; omega
        · exact ⟨j, rfl⟩
      obtain ⟨j, rfl⟩ := hk1
      have e1 : numI (j + 1) y = (y % 128 + 128) :: numI j (y / 128) := by simp only [numI]; rw [if_neg (by omega)]
      have e2 : ns ++ [y % 128 + 128] ++ numI j (y / 128) = numI 9 n := by rw [← HN.out, e1]; simp
      have e3 : y / 128 < 128 ^ (j + 1) := by
        have h := HY.out
        rw [Int.pow_succ] at h
        exact Int.ediv_lt_of_lt_mul (by omega) h
      have e4 : N + 1 + j = 9 := by have := HK.out; omega
      go_roundw
      case rel => exact ⟨j, y / 128, ad', cap', ns ++ [y % 128 + 128], N + 1, rfl, rfl, by omega, by omega, e3, e2, e4, by simpa using hv', hb2⟩
      case measure => simp [intOf]; omega
    · go_wp2_with (first
        | (at_builtin; refine wpList_push (by rfl) _ _ 126 (by rfl) w.heap.size 5 1 1 (.int .u8 0) Try.underlying126 (by kernel_rfl) rfl (by decide) ad N cap _ (by rfl) (hv.keep ((Below.refl _ _).alloc (Nat.le_refl _) _)) _ _ [.int .u8 y] (by rfl) rfl ?_ ?_ ?_ ?_ ?_ ?_; exact new_cells _ _ _; (simp [Value.oneCell']); (omega); (omega); (simp; omega); intro ad' cap' w' hv' hb' hs'; have hv2 : Vec w' w.heap.size 5 1 ad' (N + 1) cap' ((ns ++ [y]).map (Value.int .u8)) := (by simpa using hv'); clear hv')
        | (refine wpList_toString_vec (by rfl) 126 9 5 _ (by rfl) Try.underlying126 Try.underlying5 Try.underlying9 w.heap.size (N + 1) cap' ad' (by rfl) (ns ++ [y]) hv2 ?_ ?_; (omega)))
      have hb2 : Below w.heap.size w w' := hb.trans (((Below.refl _ wr).alloc (Nat.le_refl _) _).mono hz |>.trans hb')
      have e1 : ns ++ [y] = numI 9 n := by rw [← HN.out, numI_small k y (by omega)]
      go_ret
      exact ⟨ret_str (by unfold numB; rw [← e1]; simp), hb2⟩
end Go.Proofs.Ytdjpkgaicmklmaa

/- Records as bytes: the program's Head, Clock, Card, Edit; the reference's Number; walked. -/
namespace Go.Proofs.Ytdjpkgaicmklmaa
open Go.RowKit

theorem mk_append_str (l b : List UInt8) : (ByteArray.mk l.toArray) ++ str b = str (l ++ b) := str_append l b
theorem str_append_mk (l b : List UInt8) : str b ++ (ByteArray.mk l.toArray) = str (b ++ l) := str_append b l
attribute [local go_sem] str_size str_append mk_append_str str_append_mk

theorem numB_length (n : Int) : (numB n).length ≤ 10 := by
  unfold numB; rw [List.length_map]; exact numI_length 9 n

set_option maxRecDepth 100000 in
set_option maxHeartbeats 1000000 in
theorem rnumber_k : ∀ (k : Nat), k ≤ 9 → ∀ (n : Int) (w : World), 0 ≤ n → n ≤ 9223372036854775807 → n < 128 ^ (k + 1) →
    Calls Try.prog 149 #[.int .i64 n] w fun e w' => e = .returned (.string (str ((numI k n).map byt))) ∧ Below w.heap.size w w' := by
  intro k
  induction k with
  | zero =>
    intro _ n w h0 h1 hk
    have h2 : n < 128 := by simpa using hk
    clear hk
    go_enter Try.func149, Try.ntmps149
    go_wp2_with (refine wpList_toString (by rfl) 126 9 5 _ (by rfl) Try.underlying126 Try.underlying5 Try.underlying9 _ _ _ (by rfl) [n] rfl ?_ ?_; exact new_cells _ _ _)
    go_ret
    exact ⟨rfl, (Below.refl _ _).alloc (Nat.le_refl _) _⟩
  | succ k ih =>
    intro hk9 n w h0 h1 hk
    have IH : Hid (∀ (n : Int) (w : World), 0 ≤ n → n ≤ 9223372036854775807 → n < 128 ^ (k + 1) →
      Calls Try.prog 149 #[.int .i64 n] w fun e w' => e = .returned (.string (str ((numI k n).map byt))) ∧ Below w.heap.size w w') := ih (by omega)
    clear ih
    by_cases h2 : n < 128
    · rw [numI_small _ _ h2]
      clear hk
      go_enter Try.func149, Try.ntmps149
      go_wp2_with (refine wpList_toString (by rfl) 126 9 5 _ (by rfl) Try.underlying126 Try.underlying5 Try.underlying9 _ _ _ (by rfl) [n] rfl ?_ ?_; exact new_cells _ _ _)
      go_ret
      exact ⟨rfl, (Below.refl _ _).alloc (Nat.le_refl _) _⟩
    · have hd : n / 128 < 128 ^ (k + 1) := by
        rw [Int.pow_succ] at hk
        exact Int.ediv_lt_of_lt_mul (by omega) hk
      have HD : Hid (n / 128 < 128 ^ (k + 1)) := hd
      have hl : ((numI k (n / 128)).map byt).length ≤ k + 1 := by rw [List.length_map]; exact numI_length _ _
      clear hk hd
      have hfin : numI (k + 1) n = (n % 128 + 128) :: numI k (n / 128) := by simp only [numI]; rw [if_neg h2]
      have HF : Hid (numI (k + 1) n = (n % 128 + 128) :: numI k (n / 128)) := hfin
      clear hfin
      go_enter Try.func149, Try.ntmps149
      go_wp2_with fail
      refine (IH.out (n / 128) _ (by omega) (by omega) HD.out).mono ?_
      rintro e w1 ⟨rfl, hb⟩
      have HL : Hid (numI k (n / 128) = numI k (n / 128)) := rfl
      generalize hT : (numI k (n / 128)).map byt = tl at *
      have HT : Hid ((numI k (n / 128)).map byt = tl) := hT
      clear hT HL
      go_wp2_with (refine wpList_toString (by rfl) 126 9 5 _ (by rfl) Try.underlying126 Try.underlying5 Try.underlying9 _ _ _ (by rfl) [n % 128 + 128] rfl ?_ ?_; exact new_cells _ _ _)
      go_ret
      exact ⟨ret_str (by rw [HF.out]; simp only [List.map_cons]; rw [HT.out]), hb.alloc hb.size _⟩

theorem rnumber_any (n : Int) (w : World) (h0 : 0 ≤ n) (h1 : n ≤ 9223372036854775807) :
    Calls Try.prog 149 #[.int .i64 n] w fun e w' => e = .returned (.string (str (numB n))) ∧ Below w.heap.size w w' :=
  rnumber_k 9 (Nat.le_refl _) n w h0 h1 (by omega)

/-- A box, behind whatever was laid since. -/
theorem boxN {w wr : World} {cs : Array Value} {t : TypeId} (hb : Below (w.heap.size + 1) (w.alloc (.cells cs t)) wr) (j : Nat) : wr.cell? ⟨w.heap.size, j, none⟩ = cs[j]? := by
  rw [hb.cell (p := ⟨w.heap.size, j, none⟩) (by simp), World.cell?_alloc_new]
theorem box_old {w wr : World} {o : Obj} (hb : Below (w.heap.size + 1) (w.alloc o) wr) : Below w.heap.size w wr :=
  ((Below.refl _ _).alloc (Nat.le_refl _) o).trans (hb.mono (by omega))
theorem box_step {w wr w1 : World} {o : Obj} (hb : Below (w.heap.size + 1) (w.alloc o) wr) (h : Below wr.heap.size wr w1) : Below (w.heap.size + 1) (w.alloc o) w1 :=
  hb.trans (h.mono (by have := hb.size; simpa using this))

def recHead (seq base : Int) : List UInt8 := 4 :: (numB seq ++ if seq = 0 then [] else fourI base)
def recClock (c : Ck) : List UInt8 := 1 :: (numB c.site ++ numB c.count)
def recCard (c : Cd) : List UInt8 := 2 :: (numB c.id ++ (numB c.site ++ (numB c.count ++ ((if c.gone then 1 else 0) :: c.text.data.toList))))
def recEdit (c : Ed) : List UInt8 := 3 :: (numB c.id ++ c.text.data.toList)

/-- A number that may be written. -/
def Num (n : Int) : Prop := 0 ≤ n ∧ n ≤ 9223372036854775807

set_option maxRecDepth 100000 in
set_option maxHeartbeats 1000000 in
theorem clock_any (c : Ck) (w : World) (h1 : Num c.site) (h2 : Num c.count) :
    Calls Try.prog 121 #[.agg #[.int .i64 c.site, .int .i64 c.count]] w fun e w' => e = .returned (.string (str (recClock c))) ∧ Below w.heap.size w w' := by
  have hb0 : Below (w.heap.size + 1) (w.alloc (.cells #[.int .i64 c.site, .int .i64 c.count] 67)) (w.alloc (.cells #[.int .i64 c.site, .int .i64 c.count] 67)) := Below.refl _ _
  have l1 := numB_length c.site
  have l2 := numB_length c.count
  go_enter Try.func121, Try.ntmps121
  go_wp2_with fail
  refine (oneByte_any 1 _ (by decide) (by decide)).mono ?_
  rintro e w1 ⟨rfl, hh⟩
  have hb1 := box_step hb0 hh
  clear hh hb0
  have x0 : w1.cell? ⟨w.heap.size, 0, none⟩ = some (.int .i64 c.site) := boxN hb1 0
  go_wp2_with fail
  refine (number_any c.site _ h1.1 h1.2).mono ?_
  rintro e w2 ⟨rfl, hh⟩
  have hb2 := box_step hb1 hh
  clear hh hb1 x0
  have x1 : w2.cell? ⟨w.heap.size, 1, none⟩ = some (.int .i64 c.count) := boxN hb2 1
  go_wp2_with fail
  refine (number_any c.count _ h2.1 h2.2).mono ?_
  rintro e w3 ⟨rfl, hh⟩
  have hb3 := box_step hb2 hh
  clear hh hb2 x1
  have E : Hid ([byt 1] ++ (numB c.site ++ numB c.count) = recClock c) := rfl
  generalize numB c.site = n1 at *
  generalize numB c.count = n2 at *
  go_wp2_with fail
  go_ret
  exact ⟨ret_str (by rw [← E.out]; simp), box_old hb3⟩

set_option maxRecDepth 100000 in
set_option maxHeartbeats 1000000 in
theorem edit_any (c : Ed) (w : World) (h1 : Num c.id) (ht : c.text.size ≤ 1000000) :
    Calls Try.prog 123 #[.agg #[.int .i64 c.id, .string c.text]] w fun e w' => e = .returned (.string (str (recEdit c))) ∧ Below w.heap.size w w' := by
  obtain ⟨t, htt⟩ : ∃ t, c.text = str t := ⟨c.text.data.toList, (str_data _).symm⟩
  rw [htt] at ht ⊢
  rw [str_size] at ht
  have E0 : Hid ([byt 3] ++ (numB c.id ++ t) = recEdit c) := by show _ = _; unfold recEdit; rw [htt]; rfl
  clear htt
  have hb0 : Below (w.heap.size + 1) (w.alloc (.cells #[.int .i64 c.id, .string (str t)] 71)) (w.alloc (.cells #[.int .i64 c.id, .string (str t)] 71)) := Below.refl _ _
  have l1 := numB_length c.id
  go_enter Try.func123, Try.ntmps123
  go_wp2_with fail
  refine (oneByte_any 3 _ (by decide) (by decide)).mono ?_
  rintro e w1 ⟨rfl, hh⟩
  have hb1 := box_step hb0 hh
  clear hh hb0
  have x0 : w1.cell? ⟨w.heap.size, 0, none⟩ = some (.int .i64 c.id) := boxN hb1 0
  go_wp2_with fail
  refine (number_any c.id _ h1.1 h1.2).mono ?_
  rintro e w2 ⟨rfl, hh⟩
  have hb2 := box_step hb1 hh
  clear hh hb1 x0
  have x1 : w2.cell? ⟨w.heap.size, 1, none⟩ = some (.string (str t)) := boxN hb2 1
  generalize numB c.id = n1 at *
  go_wp2_with fail
  go_ret
  exact ⟨ret_str (by rw [← E0.out]; simp), box_old hb2⟩

set_option maxRecDepth 100000 in
set_option maxHeartbeats 1000000 in
theorem card_any (c : Cd) (w : World) (h1 : Num c.id) (h2 : Num c.site) (h3 : Num c.count) (ht : c.text.size ≤ 1000000) :
    Calls Try.prog 122 #[.agg #[.int .i64 c.id, .int .i64 c.site, .int .i64 c.count, .bool c.gone, .string c.text]] w fun e w' => e = .returned (.string (str (recCard c))) ∧ Below w.heap.size w w' := by
  obtain ⟨t, htt⟩ : ∃ t, c.text = str t := ⟨c.text.data.toList, (str_data _).symm⟩
  rw [htt] at ht ⊢
  rw [str_size] at ht
  have E0 : Hid ([byt 2] ++ (numB c.id ++ (numB c.site ++ (numB c.count ++ ([if c.gone then 1 else 0] ++ t)))) = recCard c) := by show _ = _; unfold recCard; rw [htt]; rfl
  clear htt
  have hb0 : Below (w.heap.size + 1) (w.alloc (.cells #[.int .i64 c.id, .int .i64 c.site, .int .i64 c.count, .bool c.gone, .string (str t)] 69)) (w.alloc (.cells #[.int .i64 c.id, .int .i64 c.site, .int .i64 c.count, .bool c.gone, .string (str t)] 69)) := Below.refl _ _
  have l1 := numB_length c.id
  have l2 := numB_length c.site
  have l3 := numB_length c.count
  go_enter Try.func122, Try.ntmps122
  go_wp2_with fail
  refine (oneByte_any 2 _ (by decide) (by decide)).mono ?_
  rintro e w1 ⟨rfl, hh⟩
  have hb1 := box_step hb0 hh
  clear hh hb0
  have x0 : w1.cell? ⟨w.heap.size, 0, none⟩ = some (.int .i64 c.id) := boxN hb1 0
  go_wp2_with fail
  refine (number_any c.id _ h1.1 h1.2).mono ?_
  rintro e w2 ⟨rfl, hh⟩
  have hb2 := box_step hb1 hh
  clear hh hb1 x0
  have x0 : w2.cell? ⟨w.heap.size, 1, none⟩ = some (.int .i64 c.site) := boxN hb2 1
  go_wp2_with fail
  refine (number_any c.site _ h2.1 h2.2).mono ?_
  rintro e w3 ⟨rfl, hh⟩
  have hb3 := box_step hb2 hh
  clear hh hb2 x0
  have x0 : w3.cell? ⟨w.heap.size, 2, none⟩ = some (.int .i64 c.count) := boxN hb3 2
  go_wp2_with fail
  refine (number_any c.count _ h3.1 h3.2).mono ?_
  rintro e w4 ⟨rfl, hh⟩
  have hb4 := box_step hb3 hh
  clear hh hb3 x0
  have x0 : w4.cell? ⟨w.heap.size, 3, none⟩ = some (.bool c.gone) := boxN hb4 3
  go_wp2_with fail
  refine (goneByte_any c.gone _).mono ?_
  rintro e w5 ⟨rfl, hh⟩
  have hb5 := box_step hb4 hh
  clear hh hb4 x0
  have x0 : w5.cell? ⟨w.heap.size, 4, none⟩ = some (.string (str t)) := boxN hb5 4
  generalize numB c.id = n1 at *
  generalize numB c.site = n2 at *
  generalize numB c.count = n3 at *
  generalize (if c.gone = true then 1 else 0 : UInt8) = g at *
  go_wp2_with fail
  go_ret
  exact ⟨ret_str (by rw [← E0.out]; simp), box_old hb5⟩

set_option maxRecDepth 100000 in
set_option maxHeartbeats 1000000 in
theorem head_any (seq base : Int) (w : World) (h1 : Num seq) (h2 : 0 ≤ base) (h3 : base ≤ 4294967295) :
    Calls Try.prog 120 #[.int .i64 seq, .int .i64 base] w fun e w' => e = .returned (.string (str (recHead seq base))) ∧ Below w.heap.size w w' := by
  have l1 := numB_length seq
  by_cases hs : seq = 0
  · have hs2 : (seq == 0) = true := by simp [hs]
    have E : Hid ([byt 4] ++ numB seq = recHead seq base) := by show _ = _; unfold recHead; rw [if_pos hs]; simp; rfl
    clear hs
    go_enter Try.func120, Try.ntmps120
    go_wp2_with fail
    refine (oneByte_any 4 _ (by decide) (by decide)).mono ?_
    rintro e w1 ⟨rfl, hb1⟩
    go_wp2_with fail
    refine (number_any seq _ h1.1 h1.2).mono ?_
    rintro e w2 ⟨rfl, hb2⟩
    generalize numB seq = n1 at *
    go_wp2_with fail
    go_ret
    exact ⟨ret_str (by rw [← E.out]; simp), hb1.trans (hb2.mono hb1.size)⟩
  · have hs2 : (seq == 0) = false := by simp [hs]
    have E : Hid ([byt 4] ++ (numB seq ++ fourI base) = recHead seq base) := by show _ = _; unfold recHead; rw [if_neg hs]; rfl
    have l4 : (fourI base).length = 4 := rfl
    have L4 : (fourI base).length ≤ 4 := by omega
    clear hs l4
    go_enter Try.func120, Try.ntmps120
    go_wp2_with fail
    refine (oneByte_any 4 _ (by decide) (by decide)).mono ?_
    rintro e w1 ⟨rfl, hb1⟩
    go_wp2_with fail
    refine (number_any seq _ h1.1 h1.2).mono ?_
    rintro e w2 ⟨rfl, hb2⟩
    go_wp2_with fail
    refine (fourBytes_any base _ h2 h3).mono ?_
    rintro e w3 ⟨rfl, hb3⟩
    generalize numB seq = n1 at *
    generalize fourI base = n2 at *
    go_wp2_with fail
    go_ret
    exact ⟨ret_str (by rw [← E.out]; simp), hb1.trans ((hb2.mono hb1.size).trans (hb3.mono (Nat.le_trans hb1.size hb2.size)))⟩
end Go.Proofs.Ytdjpkgaicmklmaa

/- A link's records in their order: the program's recordsOf, walked. -/
namespace Go.Proofs.Ytdjpkgaicmklmaa
open Go.RowKit

/-- A record, as plain data. -/
structure Fd where
  at_ : Int
  kind : Int
  seq : Int
  base : Int
  id : Int
  site : Int
  count : Int
  gone : Bool
  text : ByteArray

abbrev Fd.cells (f : Fd) : List Value := [.int .i64 f.at_, .int .i64 f.kind, .int .i64 f.seq, .int .i64 f.base, .int .i64 f.id, .int .i64 f.site, .int .i64 f.count, .bool f.gone, .string f.text]
def fdHead (seq base : Int) : Fd := ⟨0, 4, seq, base, 0, 0, 0, false, ⟨#[]⟩⟩
def fdClock (c : Ck) : Fd := ⟨0, 1, 0, 0, 0, c.site, c.count, false, ⟨#[]⟩⟩
def fdCard (c : Cd) : Fd := ⟨0, 2, 0, 0, c.id, c.site, c.count, c.gone, c.text⟩
def fdEdit (c : Ed) : Fd := ⟨0, 3, 0, 0, c.id, 0, 0, false, c.text⟩
/-- A record's bytes. -/
def recF (f : Fd) : List UInt8 :=
  if f.kind = 4 then recHead f.seq f.base else if f.kind = 1 then recClock ⟨f.site, f.count⟩ else if f.kind = 2 then recCard ⟨f.id, f.site, f.count, f.gone, f.text⟩ else recEdit ⟨f.id, f.text⟩
theorem recF_head (s b : Int) : recF (fdHead s b) = recHead s b := rfl
theorem recF_clock (c : Ck) : recF (fdClock c) = recClock c := rfl
theorem recF_card (c : Cd) : recF (fdCard c) = recCard c := rfl
theorem recF_edit (c : Ed) : recF (fdEdit c) = recEdit c := rfl

/-- The first k clocks' records, .. -/
def recs1 (s b : Int) (R : Rep) (k : Nat) : List Fd := fdHead s b :: (List.range k).map (fun i => fdClock (R.c i))
def recs2 (s b : Int) (R : Rep) (k : Nat) : List Fd := recs1 s b R R.n1 ++ (List.range k).map (fun i => fdCard (R.d i))
def recs3 (s b : Int) (R : Rep) (k : Nat) : List Fd := recs2 s b R R.n2 ++ (List.range k).map (fun i => fdEdit (R.e i))
/-- All records of a link. -/
def recsOf (s b : Int) (R : Rep) : List Fd := recs3 s b R R.n3

theorem recs1_succ (s b : Int) (R : Rep) (k : Nat) : recs1 s b R (k + 1) = recs1 s b R k ++ [fdClock (R.c k)] := by simp [recs1, List.range_succ]
theorem recs2_zero (s b : Int) (R : Rep) : recs2 s b R 0 = recs1 s b R R.n1 := by simp [recs2]
theorem recs2_succ (s b : Int) (R : Rep) (k : Nat) : recs2 s b R (k + 1) = recs2 s b R k ++ [fdCard (R.d k)] := by simp [recs2, List.range_succ]
theorem recs3_zero (s b : Int) (R : Rep) : recs3 s b R 0 = recs2 s b R R.n2 := by simp [recs3]
theorem recs3_succ (s b : Int) (R : Rep) (k : Nat) : recs3 s b R (k + 1) = recs3 s b R k ++ [fdEdit (R.e k)] := by simp [recs3, List.range_succ]
theorem recsOf_length (s b : Int) (R : Rep) : (recsOf s b R).length = 1 + R.n1 + R.n2 + R.n3 := by simp [recsOf, recs3, recs2, recs1]; omega

/-- Few records, and numbers and texts that may be written. -/
structure Fit (R : Rep) : Prop where
  n1 : R.n1 ≤ 1000000
  n2 : R.n2 ≤ 1000000
  n3 : R.n3 ≤ 1000000
  c1 : ∀ i, i < R.n1 → Num (R.c i).site ∧ Num (R.c i).count
  d1 : ∀ i, i < R.n2 → Num (R.d i).id ∧ Num (R.d i).site ∧ Num (R.d i).count ∧ (R.d i).text.size ≤ 60
  e1 : ∀ i, i < R.n3 → Num (R.e i).id ∧ (R.e i).text.size ≤ 60

abbrev lnkA (s b : Int) (R : Rep) (a1 a2 a3 : Option Addr) (k1 k2 k3 : Nat) : Array Value := #[.int .i64 s, .int .i64 b, .slice a1 R.n1 k1, .slice a2 R.n2 k2, .slice a3 R.n3 k3]
abbrev BoxL (w : World) (s b : Int) (R : Rep) (a1 a2 a3 : Option Addr) (k1 k2 k3 : Nat) (wr : World) : Prop := Below (w.heap.size + 1) (w.alloc (.cells (lnkA s b R a1 a2 a3 k1 k2 k3) 75)) wr
theorem BoxL.cells {w : World} {s b : Int} {R : Rep} {a1 a2 a3 : Option Addr} {k1 k2 k3 : Nat} {wr : World} (hb : BoxL w s b R a1 a2 a3 k1 k2 k3 wr) :
    wr.cell? ⟨w.heap.size, 0, none⟩ = some (.int .i64 s) ∧ wr.cell? ⟨w.heap.size, 1, none⟩ = some (.int .i64 b) ∧ wr.cell? ⟨w.heap.size, 2, none⟩ = some (.slice a1 R.n1 k1) ∧ wr.cell? ⟨w.heap.size, 3, none⟩ = some (.slice a2 R.n2 k2) ∧ wr.cell? ⟨w.heap.size, 4, none⟩ = some (.slice a3 R.n3 k3) :=
  ⟨boxN hb 0, boxN hb 1, boxN hb 2, boxN hb 3, boxN hb 4⟩

set_option maxRecDepth 100000 in
set_option maxHeartbeats 4000000 in
theorem recordsOf_any (s b : Int) (R : Rep) (a1 a2 a3 : Option Addr) (k1 k2 k3 : Nat) (w : World) (hR : Has w R a1 a2 a3) (hF : Fit R) (hs : Num s) (hb1 : 0 ≤ b) (hb2 : b ≤ 4294967295) :
    Calls Try.prog 81 #[.agg (lnkA s b R a1 a2 a3 k1 k2 k3)] w fun e w' => ∃ ad cap N, e = .returned (.slice ad N cap) ∧ N = (recsOf s b R).length ∧ Vec w' w.heap.size 9 1 ad N cap ((recsOf s b R).map fun f => Value.string (str (recF f))) ∧ Below w.heap.size w w' := by
  have m1 := hF.n1; have m2 := hF.n2; have m3 := hF.n3
  have h0 : BoxL w s b R a1 a2 a3 k1 k2 k3 (w.alloc (.cells (lnkA s b R a1 a2 a3 k1 k2 k3) 75)) := Below.refl _ _
  go_enter Try.func81, Try.ntmps81
  go_wp2_with fail
  refine (head_any s b _ hs hb1 hb2).mono ?_
  rintro e w1 ⟨rfl, hh⟩
  have h1 : BoxL w s b R a1 a2 a3 k1 k2 k3 w1 := box_step h0 hh
  clear hh h0
  have z1 : w.heap.size + 1 ≤ w1.heap.size := by have := h1.size; simpa using this
  go_wp2_with fail
  go_loopw [4, 5, 6] (fun v u _ wr => ∃ (k : Nat) (ad : Option Addr) (cap N : Nat), k ≤ R.n1 ∧ u = .int .i64 k ∧ v = .slice ad N cap ∧ N = 1 + k ∧ Vec wr (w.heap.size + 1) 9 1 ad N cap ((recs1 s b R k).map fun f => Value.string (str (recF f))) ∧ BoxL w s b R a1 a2 a3 k1 k2 k3 wr) (fun _ u _ _ => R.n1 - (intOf u).toNat)
  case atStart => exact ⟨0, _, _, 1, Nat.zero_le _, rfl, rfl, rfl, Vec.lit w1 _ _ _ 1 [.string (str (recHead s b))] z1 (by omega) rfl, h1.alloc z1 _⟩
  case round =>
    clear h1 z1
    obtain ⟨k, ad, cap, N, hk, rfl, rfl, hN, hv, hb⟩ := hrel
    have HN : Hid (N = 1 + k) := hN
    have hNb : N ≤ 1000001 := by omega
    clear hN
    obtain ⟨x0, x1, x2, x3, x4⟩ := hb.cells
    by_cases hlt : k < R.n1
    · obtain ⟨bb, o, hbl, hix, cs, cc⟩ := (hR.below (box_old hb)).l1.clock k1 hlt
      obtain ⟨f1, f2⟩ := hF.c1 k hlt
      go_wp2_with fail
      refine (clock_any (R.c k) _ f1 f2).mono ?_
      rintro e w1 ⟨rfl, hh⟩
      have h1 : BoxL w s b R a1 a2 a3 k1 k2 k3 w1 := box_step hb hh
      have hv1 := hv.keep hh
      clear hh hv hb x0 x1 x2 x3 x4
      have z1 : w.heap.size + 1 ≤ w1.heap.size := by have := h1.size; simpa using this
      go_wp2_with (at_builtin; refine wpList_push (by rfl) _ _ 46 (by rfl) (w.heap.size + 1) 9 1 16 (.string ⟨#[]⟩) Try.underlying46 (by kernel_rfl) rfl (by decide) ad N cap _ (by rfl) (hv1.keep ((Below.refl _ _).alloc (Nat.le_refl _) _)) _ _ [.string (str (recClock (R.c k)))] (by rfl) rfl ?_ ?_ ?_ ?_ ?_ ?_; exact new_cells _ _ _; (simp [Value.oneCell']); (omega); (omega); (simp; omega); intro ad' cap' w' hv' hb' hs')
      have h2 : BoxL w s b R a1 a2 a3 k1 k2 k3 w' := (h1.alloc z1 _).trans hb'
      have hv2 : Vec w' (w.heap.size + 1) 9 1 ad' (N + 1) cap' ((recs1 s b R (k + 1)).map fun f => Value.string (str (recF f))) := by
        rw [recs1_succ, List.map_append]; exact hv'
      go_roundw
      case rel => exact ⟨k + 1, ad', cap', N + 1, by omega, by go_num, rfl, by have := HN.out; omega, hv2, h2⟩
      case measure => simp [intOf]; omega
    · have e1 : k = R.n1 := by omega
      have hv0 : Vec wr (w.heap.size + 1) 9 1 ad N cap ((recs2 s b R 0).map fun f => Value.string (str (recF f))) := by
        rw [recs2_zero, ← e1]; exact hv
      have N1 : Hid (N = 1 + R.n1) := by have := HN.out; show _ = _; omega
      clear e1 hv HN hk
      go_wp2_with fail
      go_loopw [4, 7, 8] (fun v u _ wr => ∃ (k : Nat) (ad : Option Addr) (cap N : Nat), k ≤ R.n2 ∧ u = .int .i64 k ∧ v = .slice ad N cap ∧ N = 1 + R.n1 + k ∧ Vec wr (w.heap.size + 1) 9 1 ad N cap ((recs2 s b R k).map fun f => Value.string (str (recF f))) ∧ BoxL w s b R a1 a2 a3 k1 k2 k3 wr) (fun _ u _ _ => R.n2 - (intOf u).toNat)
      case atStart => exact ⟨0, _, _, N, Nat.zero_le _, rfl, rfl, N1.out, hv0, hb⟩
      case round =>
        clear hv0 hb x0 x1 x2 x3 x4 N1 hNb hlt
        obtain ⟨k, ad, cap, N, hk, rfl, rfl, hN, hv, hb⟩ := hrel
        have HN : Hid (N = 1 + R.n1 + k) := hN
        have hNb : N ≤ 2000001 := by omega
        clear hN
        obtain ⟨x0, x1, x2, x3, x4⟩ := hb.cells
        by_cases hlt : k < R.n2
        · obtain ⟨bb, o, hbl, hix, c1, c2, c3, c4, c5⟩ := (hR.below (box_old hb)).l2.card k2 hlt
          obtain ⟨f1, f2, f3, f4⟩ := hF.d1 k hlt
          go_wp2_with fail
          refine (card_any (R.d k) _ f1 f2 f3 (by omega)).mono ?_
          rintro e w1 ⟨rfl, hh⟩
          have h1 : BoxL w s b R a1 a2 a3 k1 k2 k3 w1 := box_step hb hh
          have hv1 := hv.keep hh
          clear hh hv hb x0 x1 x2 x3 x4
          have z1 : w.heap.size + 1 ≤ w1.heap.size := by have := h1.size; simpa using this
          go_wp2_with (at_builtin; refine wpList_push (by rfl) _ _ 46 (by rfl) (w.heap.size + 1) 9 1 16 (.string ⟨#[]⟩) Try.underlying46 (by kernel_rfl) rfl (by decide) ad N cap _ (by rfl) (hv1.keep ((Below.refl _ _).alloc (Nat.le_refl _) _)) _ _ [.string (str (recCard (R.d k)))] (by rfl) rfl ?_ ?_ ?_ ?_ ?_ ?_; exact new_cells _ _ _; (simp [Value.oneCell']); (omega); (omega); (simp; omega); intro ad' cap' w' hv' hb' hs')
          have h2 : BoxL w s b R a1 a2 a3 k1 k2 k3 w' := (h1.alloc z1 _).trans hb'
          have hv2 : Vec w' (w.heap.size + 1) 9 1 ad' (N + 1) cap' ((recs2 s b R (k + 1)).map fun f => Value.string (str (recF f))) := by
            rw [recs2_succ, List.map_append]; exact hv'
          go_roundw
          case rel => exact ⟨k + 1, ad', cap', N + 1, by omega, by go_num, rfl, by have := HN.out; omega, hv2, h2⟩
          case measure => simp [intOf]; omega
        · have e1 : k = R.n2 := by omega
          have hv0 : Vec wr (w.heap.size + 1) 9 1 ad N cap ((recs3 s b R 0).map fun f => Value.string (str (recF f))) := by
            rw [recs3_zero, ← e1]; exact hv
          have N1 : Hid (N = 1 + R.n1 + R.n2) := by have := HN.out; show _ = _; omega
          clear e1 hv HN hk
          go_wp2_with fail
          go_loopw [4, 9, 10] (fun v u _ wr => ∃ (k : Nat) (ad : Option Addr) (cap N : Nat), k ≤ R.n3 ∧ u = .int .i64 k ∧ v = .slice ad N cap ∧ N = 1 + R.n1 + R.n2 + k ∧ Vec wr (w.heap.size + 1) 9 1 ad N cap ((recs3 s b R k).map fun f => Value.string (str (recF f))) ∧ BoxL w s b R a1 a2 a3 k1 k2 k3 wr) (fun _ u _ _ => R.n3 - (intOf u).toNat)
          case atStart => exact ⟨0, _, _, N, Nat.zero_le _, rfl, rfl, N1.out, hv0, hb⟩
          case round =>
            clear hv0 hb x0 x1 x2 x3 x4 N1 hNb hlt
            obtain ⟨k, ad, cap, N, hk, rfl, rfl, hN, hv, hb⟩ := hrel
            have HN : Hid (N = 1 + R.n1 + R.n2 + k) := hN
            have hNb : N ≤ 3000001 := by omega
            clear hN
            obtain ⟨x0, x1, x2, x3, x4⟩ := hb.cells
            by_cases hlt : k < R.n3
            · obtain ⟨bb, o, hbl, hix, c1, c2⟩ := (hR.below (box_old hb)).l3.edit k3 hlt
              obtain ⟨f1, f4⟩ := hF.e1 k hlt
              go_wp2_with fail
              refine (edit_any (R.e k) _ f1 (by omega)).mono ?_
              rintro e w1 ⟨rfl, hh⟩
              have h1 : BoxL w s b R a1 a2 a3 k1 k2 k3 w1 := box_step hb hh
              have hv1 := hv.keep hh
              clear hh hv hb x0 x1 x2 x3 x4
              have z1 : w.heap.size + 1 ≤ w1.heap.size := by have := h1.size; simpa using this
              go_wp2_with (at_builtin; refine wpList_push (by rfl) _ _ 46 (by rfl) (w.heap.size + 1) 9 1 16 (.string ⟨#[]⟩) Try.underlying46 (by kernel_rfl) rfl (by decide) ad N cap _ (by rfl) (hv1.keep ((Below.refl _ _).alloc (Nat.le_refl _) _)) _ _ [.string (str (recEdit (R.e k)))] (by rfl) rfl ?_ ?_ ?_ ?_ ?_ ?_; exact new_cells _ _ _; (simp [Value.oneCell']); (omega); (omega); (simp; omega); intro ad' cap' w' hv' hb' hs')
              have h2 : BoxL w s b R a1 a2 a3 k1 k2 k3 w' := (h1.alloc z1 _).trans hb'
              have hv2 : Vec w' (w.heap.size + 1) 9 1 ad' (N + 1) cap' ((recs3 s b R (k + 1)).map fun f => Value.string (str (recF f))) := by
                rw [recs3_succ, List.map_append]; exact hv'
              go_roundw
              case rel => exact ⟨k + 1, ad', cap', N + 1, by omega, by go_num, rfl, by have := HN.out; omega, hv2, h2⟩
              case measure => simp [intOf]; omega
            · have e1 : k = R.n3 := by omega
              have hv0 : Vec wr (w.heap.size + 1) 9 1 ad N cap ((recsOf s b R).map fun f => Value.string (str (recF f))) := by
                unfold recsOf; rw [← e1]; exact hv
              have N1 : Hid (N = (recsOf s b R).length) := by have := HN.out; show _ = _; rw [recsOf_length]; omega
              clear e1 hv HN hk
              go_wp2_with fail
              go_ret
              exact ⟨ad, cap, N, rfl, N1.out, hv0.mono (by omega), box_old hb⟩
end Go.Proofs.Ytdjpkgaicmklmaa

/- A link's records in their order: the reference's records, walked. -/
namespace Go.Proofs.Ytdjpkgaicmklmaa
open Go.RowKit

def fcells (l : List Fd) : List Value := (l.map Fd.cells).flatten
theorem fcells_append (a b : List Fd) : fcells (a ++ b) = fcells a ++ fcells b := by simp [fcells]
theorem fcells_one (f : Fd) : fcells [f] = f.cells := by simp [fcells]

theorem new_cells2 (w : World) (o : Obj) (cs : List Value) (t : TypeId) : ∀ j u, cs[j]? = some u → ((w.alloc o).alloc (.cells cs.toArray t)).cell? ((⟨w.heap.size + 1, 0, none⟩ : Addr).add j) = some u := by
  intro j u h
  have := new_cells (w.alloc o) cs t j u h
  rwa [World.size_alloc] at this

set_option maxRecDepth 100000 in
set_option maxHeartbeats 4000000 in
theorem records_any (s b : Int) (R : Rep) (a1 a2 a3 : Option Addr) (k1 k2 k3 : Nat) (w : World) (hR : Has w R a1 a2 a3) (hF : Fit R) :
    Calls Try.prog 85 #[.agg (lnkA s b R a1 a2 a3 k1 k2 k3)] w fun e w' => ∃ ad cap N, e = .returned (.slice ad N cap) ∧ N = (recsOf s b R).length ∧ Vec w' w.heap.size 64 9 ad N cap (fcells (recsOf s b R)) ∧ Below w.heap.size w w' := by
  have m1 := hF.n1; have m2 := hF.n2; have m3 := hF.n3
  have h0 : BoxL w s b R a1 a2 a3 k1 k2 k3 (w.alloc (.cells (lnkA s b R a1 a2 a3 k1 k2 k3) 75)) := Below.refl _ _
  have z0 : w.heap.size + 1 ≤ (w.alloc (.cells (lnkA s b R a1 a2 a3 k1 k2 k3) 75)).heap.size := by simp
  have hv0 : Vec ((w.alloc (.cells (lnkA s b R a1 a2 a3 k1 k2 k3) 75)).alloc (.cells (fdHead s b).cells.toArray 64)) (w.heap.size + 1) 64 9 (some ⟨w.heap.size + 1, 0, none⟩) 1 1 (fcells (recs1 s b R 0)) := by
    have := Vec.lit (w.alloc (.cells (lnkA s b R a1 a2 a3 k1 k2 k3) 75)) (w.heap.size + 1) 64 9 1 (fdHead s b).cells z0 (by omega) rfl
    rw [World.size_alloc] at this
    simpa [recs1, fcells] using this
  have h1 := h0.alloc z0 (.cells (fdHead s b).cells.toArray 64)
  have HV : Hid (Vec ((w.alloc (.cells (lnkA s b R a1 a2 a3 k1 k2 k3) 75)).alloc (.cells (fdHead s b).cells.toArray 64)) (w.heap.size + 1) 64 9 (some ⟨w.heap.size + 1, 0, none⟩) 1 1 (fcells (recs1 s b R 0))) := hv0
  have HB : Hid (BoxL w s b R a1 a2 a3 k1 k2 k3 ((w.alloc (.cells (lnkA s b R a1 a2 a3 k1 k2 k3) 75)).alloc (.cells (fdHead s b).cells.toArray 64))) := h1
  clear hv0 h0 h1 z0
  go_enter Try.func85, Try.ntmps85
  go_wp2_with fail
  go_loopw [3, 4, 5] (fun v u _ wr => ∃ (k : Nat) (ad : Option Addr) (cap N : Nat), k ≤ R.n1 ∧ u = .int .i64 k ∧ v = .slice ad N cap ∧ N = 1 + k ∧ Vec wr (w.heap.size + 1) 64 9 ad N cap (fcells (recs1 s b R k)) ∧ BoxL w s b R a1 a2 a3 k1 k2 k3 wr) (fun _ u _ _ => R.n1 - (intOf u).toNat)
  case atStart => exact ⟨0, _, _, 1, Nat.zero_le _, rfl, rfl, rfl, HV.out, HB.out⟩
  case round =>
    clear HV HB
    obtain ⟨k, ad, cap, N, hk, rfl, rfl, hN, hv, hb⟩ := hrel
    have HN : Hid (N = 1 + k) := hN
    have hNb : N ≤ 3000001 := by omega
    clear hN
    obtain ⟨x0, x1, x2, x3, x4⟩ := hb.cells
    have z1 : w.heap.size + 1 ≤ wr.heap.size := by have := hb.size; simpa using this
    by_cases hlt : k < R.n1
    · obtain ⟨bb, o, hbl, hix, cs, cc⟩ := (hR.below (box_old hb)).l1.clock k1 hlt
      have hvx : ∀ o1 o2, Vec ((wr.alloc o1).alloc o2) (w.heap.size + 1) 64 9 ad N cap (fcells (recs1 s b R k)) := fun o1 o2 => hv.keep (((Below.refl _ wr).alloc (Nat.le_refl _) _).alloc (by simp) _)
      have HX : Hid (∀ o1 o2, Vec ((wr.alloc o1).alloc o2) (w.heap.size + 1) 64 9 ad N cap (fcells (recs1 s b R k))) := hvx
      clear hvx
      go_wp2_with (at_builtin; refine wpList_push (by rfl) _ _ 57 (by rfl) (w.heap.size + 1) 64 9 80 (.agg #[.int .i64 0, .int .i64 0, .int .i64 0, .int .i64 0, .int .i64 0, .int .i64 0, .int .i64 0, .bool false, .string ⟨#[]⟩]) Try.underlying57 (by kernel_rfl) rfl (by decide) ad N cap _ (by rfl) (HX.out _ _) _ _ (fdClock (R.c k)).cells (by rfl) rfl ?_ ?_ ?_ ?_ ?_ ?_; exact new_cells2 _ _ _ _; (simp [Value.oneCell', fdClock]); (omega); (omega); (simp; omega); intro ad' cap' w' hv' hb' hs')
      have h2 : BoxL w s b R a1 a2 a3 k1 k2 k3 w' := ((hb.alloc z1 _).alloc (by simp; omega) _).trans hb'
      have hv2 : Vec w' (w.heap.size + 1) 64 9 ad' (N + 1) cap' (fcells (recs1 s b R (k + 1))) := by
        rw [recs1_succ, fcells_append, fcells_one]; exact hv'
      go_roundw
      case rel => exact ⟨k + 1, ad', cap', N + 1, by omega, by go_num, rfl, by have := HN.out; omega, hv2, h2⟩
      case measure => simp [intOf]; omega
    · have e1 : k = R.n1 := by omega
      have hv0 : Vec wr (w.heap.size + 1) 64 9 ad N cap (fcells (recs2 s b R 0)) := by
        rw [recs2_zero, ← e1]; exact hv
      have N1 : Hid (N = 1 + R.n1) := by have := HN.out; show _ = _; omega
      clear e1 hv HN hk z1
      go_wp2_with fail
      go_loopw [3, 6, 7] (fun v u _ wr => ∃ (k : Nat) (ad : Option Addr) (cap N : Nat), k ≤ R.n2 ∧ u = .int .i64 k ∧ v = .slice ad N cap ∧ N = 1 + R.n1 + k ∧ Vec wr (w.heap.size + 1) 64 9 ad N cap (fcells (recs2 s b R k)) ∧ BoxL w s b R a1 a2 a3 k1 k2 k3 wr) (fun _ u _ _ => R.n2 - (intOf u).toNat)
      case atStart => exact ⟨0, _, _, N, Nat.zero_le _, rfl, rfl, N1.out, hv0, hb⟩
      case round =>
        clear hv0 hb x0 x1 x2 x3 x4 N1 hNb hlt
        obtain ⟨k, ad, cap, N, hk, rfl, rfl, hN, hv, hb⟩ := hrel
        have HN : Hid (N = 1 + R.n1 + k) := hN
        have hNb : N ≤ 3000001 := by omega
        clear hN
        obtain ⟨x0, x1, x2, x3, x4⟩ := hb.cells
        have z1 : w.heap.size + 1 ≤ wr.heap.size := by have := hb.size; simpa using this
        by_cases hlt : k < R.n2
        · obtain ⟨bb, o, hbl, hix, c1, c2, c3, c4, c5⟩ := (hR.below (box_old hb)).l2.card k2 hlt
          have hvx : ∀ o1 o2, Vec ((wr.alloc o1).alloc o2) (w.heap.size + 1) 64 9 ad N cap (fcells (recs2 s b R k)) := fun o1 o2 => hv.keep (((Below.refl _ wr).alloc (Nat.le_refl _) _).alloc (by simp) _)
          have HX : Hid (∀ o1 o2, Vec ((wr.alloc o1).alloc o2) (w.heap.size + 1) 64 9 ad N cap (fcells (recs2 s b R k))) := hvx
          clear hvx
          go_wp2_with (at_builtin; refine wpList_push (by rfl) _ _ 57 (by rfl) (w.heap.size + 1) 64 9 80 (.agg #[.int .i64 0, .int .i64 0, .int .i64 0, .int .i64 0, .int .i64 0, .int .i64 0, .int .i64 0, .bool false, .string ⟨#[]⟩]) Try.underlying57 (by kernel_rfl) rfl (by decide) ad N cap _ (by rfl) (HX.out _ _) _ _ (fdCard (R.d k)).cells (by rfl) rfl ?_ ?_ ?_ ?_ ?_ ?_; exact new_cells2 _ _ _ _; (simp [Value.oneCell', fdCard]); (omega); (omega); (simp; omega); intro ad' cap' w' hv' hb' hs')
          have h2 : BoxL w s b R a1 a2 a3 k1 k2 k3 w' := ((hb.alloc z1 _).alloc (by simp; omega) _).trans hb'
          have hv2 : Vec w' (w.heap.size + 1) 64 9 ad' (N + 1) cap' (fcells (recs2 s b R (k + 1))) := by
            rw [recs2_succ, fcells_append, fcells_one]; exact hv'
          go_roundw
          case rel => exact ⟨k + 1, ad', cap', N + 1, by omega, by go_num, rfl, by have := HN.out; omega, hv2, h2⟩
          case measure => simp [intOf]; omega
        · have e1 : k = R.n2 := by omega
          have hv0 : Vec wr (w.heap.size + 1) 64 9 ad N cap (fcells (recs3 s b R 0)) := by
            rw [recs3_zero, ← e1]; exact hv
          have N1 : Hid (N = 1 + R.n1 + R.n2) := by have := HN.out; show _ = _; omega
          clear e1 hv HN hk z1
          go_wp2_with fail
          go_loopw [3, 8, 9] (fun v u _ wr => ∃ (k : Nat) (ad : Option Addr) (cap N : Nat), k ≤ R.n3 ∧ u = .int .i64 k ∧ v = .slice ad N cap ∧ N = 1 + R.n1 + R.n2 + k ∧ Vec wr (w.heap.size + 1) 64 9 ad N cap (fcells (recs3 s b R k)) ∧ BoxL w s b R a1 a2 a3 k1 k2 k3 wr) (fun _ u _ _ => R.n3 - (intOf u).toNat)
          case atStart => exact ⟨0, _, _, N, Nat.zero_le _, rfl, rfl, N1.out, hv0, hb⟩
          case round =>
            clear hv0 hb x0 x1 x2 x3 x4 N1 hNb hlt
            obtain ⟨k, ad, cap, N, hk, rfl, rfl, hN, hv, hb⟩ := hrel
            have HN : Hid (N = 1 + R.n1 + R.n2 + k) := hN
            have hNb : N ≤ 3000001 := by omega
            clear hN
            obtain ⟨x0, x1, x2, x3, x4⟩ := hb.cells
            have z1 : w.heap.size + 1 ≤ wr.heap.size := by have := hb.size; simpa using this
            by_cases hlt : k < R.n3
            · obtain ⟨bb, o, hbl, hix, c1, c2⟩ := (hR.below (box_old hb)).l3.edit k3 hlt
              have hvx : ∀ o1 o2, Vec ((wr.alloc o1).alloc o2) (w.heap.size + 1) 64 9 ad N cap (fcells (recs3 s b R k)) := fun o1 o2 => hv.keep (((Below.refl _ wr).alloc (Nat.le_refl _) _).alloc (by simp) _)
              have HX : Hid (∀ o1 o2, Vec ((wr.alloc o1).alloc o2) (w.heap.size + 1) 64 9 ad N cap (fcells (recs3 s b R k))) := hvx
              clear hvx
              go_wp2_with (at_builtin; refine wpList_push (by rfl) _ _ 57 (by rfl) (w.heap.size + 1) 64 9 80 (.agg #[.int .i64 0, .int .i64 0, .int .i64 0, .int .i64 0, .int .i64 0, .int .i64 0, .int .i64 0, .bool false, .string ⟨#[]⟩]) Try.underlying57 (by kernel_rfl) rfl (by decide) ad N cap _ (by rfl) (HX.out _ _) _ _ (fdEdit (R.e k)).cells (by rfl) rfl ?_ ?_ ?_ ?_ ?_ ?_; exact new_cells2 _ _ _ _; (simp [Value.oneCell', fdEdit]); (omega); (omega); (simp; omega); intro ad' cap' w' hv' hb' hs')
              have h2 : BoxL w s b R a1 a2 a3 k1 k2 k3 w' := ((hb.alloc z1 _).alloc (by simp; omega) _).trans hb'
              have hv2 : Vec w' (w.heap.size + 1) 64 9 ad' (N + 1) cap' (fcells (recs3 s b R (k + 1))) := by
                rw [recs3_succ, fcells_append, fcells_one]; exact hv'
              go_roundw
              case rel => exact ⟨k + 1, ad', cap', N + 1, by omega, by go_num, rfl, by have := HN.out; omega, hv2, h2⟩
              case measure => simp [intOf]; omega
            · have e1 : k = R.n3 := by omega
              have hv0 : Vec wr (w.heap.size + 1) 64 9 ad N cap (fcells (recsOf s b R)) := by
                unfold recsOf; rw [← e1]; exact hv
              have N1 : Hid (N = (recsOf s b R).length) := by have := HN.out; show _ = _; rw [recsOf_length]; omega
              clear e1 hv HN hk z1
              go_wp2_with fail
              go_ret
              exact ⟨ad, cap, N, rfl, N1.out, hv0.mono (by omega), box_old hb⟩
end Go.Proofs.Ytdjpkgaicmklmaa

/- The sum of bytes, plainly: a register of 32 bits; by bits, by bytes, and by long division. -/
namespace Go.Proofs.Ytdjpkgaicmklmaa

/-- One bit is taken in; p: the polynomial without its first term. -/
def cst (p r : Nat) (b : Bool) : Nat := if (r.testBit 31 != b) then (2 * r % 4294967296) ^^^ p else 2 * r % 4294967296
def crcB (p r : Nat) (l : List Bool) : Nat := l.foldl (cst p) r
def bitsOf (x : UInt8) : List Bool := [x.toNat.testBit 7, x.toNat.testBit 6, x.toNat.testBit 5, x.toNat.testBit 4, x.toNat.testBit 3, x.toNat.testBit 2, x.toNat.testBit 1, x.toNat.testBit 0]
def allBits (l : List UInt8) : List Bool := l.flatMap bitsOf
/-- The sum (or seal) of bytes. -/
def crc (p : Nat) (l : List UInt8) : Nat := crcB p 4294967295 (allBits l) ^^^ 4294967295
def pSum : Nat := 79764919
def pSeal : Nat := 517762881

theorem cst_lt {p r : Nat} {b : Bool} (hp : p < 4294967296) : cst p r b < 4294967296 := by
  unfold cst
  split
  · exact Nat.xor_lt_two_pow (n := 32) (by omega) hp
  · omega
theorem crcB_lt {p : Nat} (hp : p < 4294967296) : ∀ (l : List Bool) {r : Nat}, r < 4294967296 → crcB p r l < 4294967296
  | [], _, h => h
  | _ :: l, _, _ => crcB_lt hp l (cst_lt hp)
theorem crc_lt {p : Nat} (hp : p < 4294967296) (l : List UInt8) : crc p l < 4294967296 := Nat.xor_lt_two_pow (n := 32) (crcB_lt hp _ (by omega)) (by omega)
theorem crcB_append (p r : Nat) (a b : List Bool) : crcB p r (a ++ b) = crcB p (crcB p r a) b := by simp [crcB]

theorem allBits_append (a b : List UInt8) : allBits (a ++ b) = allBits a ++ allBits b := by simp [allBits]
theorem allBits_one (x : UInt8) : allBits [x] = bitsOf x := by simp [allBits]
theorem allBits_length (l : List UInt8) : (allBits l).length = 8 * l.length := by
  induction l with
  | nil => rfl
  | cons x l ih => rw [show x :: l = [x] ++ l from rfl, allBits_append, allBits_one]; simp [ih, bitsOf]; omega

/-- The program's way: the register is shifted; if it runs over, the polynomial (with its first term) is laid upon it. -/
def div1 (p r : Nat) : Nat := if 4294967295 < 2 * r then (2 * r) ^^^ (p + 4294967296) else 2 * r

/-- Bits from the bit 31 down. -/
def high : List Bool → Nat
  | [] => 0
  | b :: l => (if b then 2147483648 else 0) + high l / 2

theorem high_lt : ∀ l, high l < 4294967296
  | [] => by simp [high]
  | b :: l => by have := high_lt l; simp only [high]; split <;> omega

theorem bit_high_top (b : Bool) (l : List Bool) : (high (b :: l)).testBit 31 = b := by
  have := high_lt l
  cases b
  · simp only [high]; exact Nat.testBit_lt_two_pow (by simp; omega)
  · simp only [high, if_true]
    rw [show (2147483648 : Nat) = 2 ^ 31 by decide, Nat.testBit_two_pow_add_eq]
    rw [Nat.testBit_lt_two_pow (by omega)]; rfl

/-- As long as what lies behind has even values: 'high l' ends in a nought for l shorter than 32. -/
theorem high_even : ∀ (l : List Bool) (k : Nat), l.length ≤ k → k ≤ 32 → high l % 2 ^ (32 - k) = 0
  | [], k, _, _ => by simp [high]
  | b :: l, k, h, hk => by
    have hl := high_even l (k - 1) (by simp at h; omega) (by omega)
    simp only [List.length_cons] at h
    have e : 32 - (k - 1) = (32 - k) + 1 := by omega
    rw [e, Nat.pow_succ] at hl
    have h1 : 2 ^ (32 - k) * 2 ∣ high l := Nat.dvd_of_mod_eq_zero hl
    obtain ⟨c, hc⟩ := h1
    simp only [high]
    have h2 : high l / 2 = 2 ^ (32 - k) * c := by rw [hc, Nat.mul_assoc, Nat.mul_comm 2 c, ← Nat.mul_assoc]; exact Nat.mul_div_cancel _ (by omega)
    have h3 : 2 ^ (32 - k) ∣ 2147483648 := by
      rw [show (2147483648 : Nat) = 2 ^ 31 by decide]
      exact Nat.pow_dvd_pow 2 (by omega)
    rw [h2]
    apply Nat.mod_eq_zero_of_dvd
    refine Nat.dvd_add ?_ (Nat.dvd_mul_right _ _)
    split
    · exact h3
    · exact Nat.dvd_zero _

theorem high_shift (b : Bool) (l : List Bool) (h : l.length ≤ 31) : 2 * high (b :: l) % 4294967296 = high l := by
  have he := high_even l 31 h (by omega)
  have := high_lt l
  simp only [high]
  simp at he
  split <;> omega

theorem xor_two_mul (a b : Nat) : 2 * (a ^^^ b) = (2 * a) ^^^ (2 * b) := by
  apply Nat.eq_of_testBit_eq
  intro i
  cases i with
  | zero => simp
  | succ i =>
    rw [Nat.testBit_xor, Nat.testBit_succ, Nat.testBit_succ, Nat.testBit_succ, Nat.mul_div_cancel_left _ (by omega), Nat.mul_div_cancel_left _ (by omega), Nat.mul_div_cancel_left _ (by omega), Nat.testBit_xor]

theorem xor_mod (a b : Nat) : (a ^^^ b) % 4294967296 = (a % 4294967296) ^^^ (b % 4294967296) := Nat.xor_mod_two_pow (n := 32)

theorem div1_step (p r : Nat) (b : Bool) (l : List Bool) (hp : p < 4294967296) (hr : r < 4294967296) (hl : l.length ≤ 31) : div1 p (r ^^^ high (b :: l)) = cst p r b ^^^ high l := by
  have hs : r ^^^ high (b :: l) < 4294967296 := Nat.xor_lt_two_pow (n := 32) hr (high_lt _)
  have htop : (r ^^^ high (b :: l)).testBit 31 = (r.testBit 31 != b) := by
    rw [Nat.testBit_xor, bit_high_top]
  have hmod : 2 * (r ^^^ high (b :: l)) % 4294967296 = (2 * r % 4294967296) ^^^ high l := by
    rw [xor_two_mul, xor_mod, high_shift b l hl]
  generalize r ^^^ high (b :: l) = s at hs htop hmod
  have hgt : (4294967295 < 2 * s) ↔ s.testBit 31 = true := by
    constructor
    · intro h
      rw [show s = 2 ^ 31 + (s - 2 ^ 31) by omega, Nat.testBit_two_pow_add_eq, Nat.testBit_lt_two_pow (by omega)]; rfl
    · intro h
      have := Nat.ge_two_pow_of_testBit h
      omega
  unfold div1 cst
  rw [← htop]
  by_cases h : s.testBit 31 = true
  · rw [if_pos (hgt.2 h), if_pos h]
    have h2 : 2 * s = 2 * s % 4294967296 + 4294967296 := by have := hgt.2 h; omega
    have e : (2 * s % 4294967296 + 4294967296) ^^^ (p + 4294967296) = (2 * s % 4294967296) ^^^ p := by
      have h1 : 2 * s % 4294967296 < 2 ^ 32 := by omega
      apply Nat.eq_of_testBit_eq
      intro i
      rw [Nat.add_comm _ 4294967296, Nat.add_comm p 4294967296, show (4294967296 : Nat) = 2 ^ 32 by decide]
      rcases Nat.lt_trichotomy i 32 with hi | hi | hi
      · rw [Nat.testBit_xor, Nat.testBit_xor, Nat.testBit_two_pow_add_gt hi, Nat.testBit_two_pow_add_gt hi]
      · subst hi
        rw [Nat.testBit_xor, Nat.testBit_xor, Nat.testBit_two_pow_add_eq, Nat.testBit_two_pow_add_eq, Nat.testBit_lt_two_pow h1, Nat.testBit_lt_two_pow (by omega : p < 2 ^ 32)]; rfl
      · have ha : 2 ^ 32 + 2 * s % 2 ^ 32 < 2 ^ i := Nat.lt_of_lt_of_le (by omega : _ < 2 ^ 33) (Nat.pow_le_pow_right (by omega) (by omega))
        have hb : 2 ^ 32 + p < 2 ^ i := Nat.lt_of_lt_of_le (by omega : _ < 2 ^ 33) (Nat.pow_le_pow_right (by omega) (by omega))
        rw [Nat.testBit_xor, Nat.testBit_xor, Nat.testBit_lt_two_pow ha, Nat.testBit_lt_two_pow hb, Nat.testBit_lt_two_pow (by omega : 2 * s % 2 ^ 32 < 2 ^ i), Nat.testBit_lt_two_pow (by omega : p < 2 ^ i)]
    rw [← h2] at e
    rw [e, hmod, Nat.xor_assoc, Nat.xor_assoc, Nat.xor_comm (high l)]
  · rw [if_neg (fun hh => h (hgt.1 hh)), if_neg h, ← hmod]
    have : ¬ 4294967295 < 2 * s := fun hh => h (hgt.1 hh)
    omega

/-- So many shifts. -/
def divN (p : Nat) : Nat → Nat → Nat
  | 0, r => r
  | k + 1, r => divN p k (div1 p r)

theorem divN_high (p : Nat) (hp : p < 4294967296) (b : List Bool) : ∀ (a : List Bool) (r : Nat), r < 4294967296 → (a ++ b).length ≤ 32 → divN p a.length (r ^^^ high (a ++ b)) = crcB p r a ^^^ high b
  | [], r, _, _ => by simp [divN, crcB]
  | x :: a, r, hr, hl => by
    simp only [List.cons_append, List.length_cons] at hl ⊢
    rw [divN, div1_step p r x (a ++ b) hp hr (by omega), divN_high p hp b a _ (cst_lt hp) (by omega)]
    rfl

theorem byte_high (x : UInt8) : x.toNat * 16777216 = high (bitsOf x) := by
  have hx := x.toNat_lt
  have e : ∀ n : Nat, n < 256 → n * 16777216 = high [n.testBit 7, n.testBit 6, n.testBit 5, n.testBit 4, n.testBit 3, n.testBit 2, n.testBit 1, n.testBit 0] := by decide +kernel
  exact e _ (by simpa using hx)

theorem divN_byte (p : Nat) (hp : p < 4294967296) (x : UInt8) (r : Nat) (hr : r < 4294967296) : divN p 8 (r ^^^ (x.toNat * 16777216)) = crcB p r (bitsOf x) := by
  rw [byte_high]
  have := divN_high p hp [] (bitsOf x) r hr (by simp [bitsOf])
  rw [List.append_nil] at this
  rw [show (8 : Nat) = (bitsOf x).length from rfl, this]
  simp [high]

theorem bits_xor_i64 (a b : Nat) (ha : a < 9223372036854775808) (hb : b < 9223372036854775808) : bits .xor .i64 (a : Int) (b : Int) = ((a ^^^ b : Nat) : Int) := by
  have hx : a ^^^ b < 2 ^ 63 := Nat.xor_lt_two_pow (by omega) (by omega)
  have h1 : (BitVec.ofInt 64 (a : Int)).toNat = a := by
    rw [BitVec.ofInt_natCast, BitVec.toNat_ofNat]; exact Nat.mod_eq_of_lt (by omega)
  have h2 : (BitVec.ofInt 64 (b : Int)).toNat = b := by
    rw [BitVec.ofInt_natCast, BitVec.toNat_ofNat]; exact Nat.mod_eq_of_lt (by omega)
  show IntKind.i64.wrap ((BitVec.ofInt 64 (a : Int) ^^^ BitVec.ofInt 64 (b : Int)).toNat : Int) = _
  rw [BitVec.toNat_xor, h1, h2]
  simp [IntKind.wrap, IntKind.bits, IntKind.signed]
  omega

theorem bits_and_one (a : Nat) (ha : a < 9223372036854775808) : bits .and .i64 (a : Int) 1 = ((a % 2 : Nat) : Int) := by
  have h1 : (BitVec.ofInt 64 (a : Int)).toNat = a := by
    rw [BitVec.ofInt_natCast, BitVec.toNat_ofNat]; exact Nat.mod_eq_of_lt (by omega)
  show IntKind.i64.wrap ((BitVec.ofInt 64 (a : Int) &&& BitVec.ofInt 64 1).toNat : Int) = _
  have h2 : (BitVec.ofInt 64 (1 : Int)).toNat = 1 := by decide
  rw [BitVec.toNat_and, h1, h2, Nat.and_one_is_mod]
  simp [IntKind.wrap, IntKind.bits, IntKind.signed]
  omega

theorem bit_test (a k : Nat) (ha : a < 9223372036854775808) : (bits .and .i64 ((a : Int) / 2 ^ k) 1 == 1) = a.testBit k := by
  have e : ((a : Int) / 2 ^ k) = ((a / 2 ^ k : Nat) : Int) := by
    rw [Int.natCast_ediv, Int.natCast_pow]; rfl
  rw [e, bits_and_one _ (Nat.lt_of_le_of_lt (Nat.div_le_self _ _) ha), Nat.testBit_eq_decide_div_mod_eq]
  by_cases h : a / 2 ^ k % 2 = 1
  · simp [h]
  · have h0 : a / 2 ^ k % 2 = 0 := by omega
    simp [h0]

theorem bitsOf_at (x : UInt8) (j : Nat) (h : j < 8) : (bitsOf x)[j]? = some (x.toNat.testBit (7 - j)) := by
  have : j = 0 ∨ j = 1 ∨ j = 2 ∨ j = 3 ∨ j = 4 ∨ j = 5 ∨ j = 6 ∨ j = 7 := by omega
  rcases this with rfl | rfl | rfl | rfl | rfl | rfl | rfl | rfl <;> rfl
theorem bitsOf_take (x : UInt8) (j : Nat) (h : j < 8) : (bitsOf x).take (j + 1) = (bitsOf x).take j ++ [x.toNat.testBit (7 - j)] := by
  have hl : j < (bitsOf x).length := h
  rw [List.take_succ_eq_append_getElem hl]
  have := bitsOf_at x j h
  rw [List.getElem?_eq_getElem hl] at this
  simp at this
  rw [this]
end Go.Proofs.Ytdjpkgaicmklmaa

/- The reference's bits of bytes, walked. -/
namespace Go.Proofs.Ytdjpkgaicmklmaa
open Go.RowKit

set_option maxRecDepth 100000 in
set_option maxHeartbeats 2000000 in
theorem bits_any (s : List UInt8) (w : World) (hs : s.length ≤ 8796093022208) :
    Calls Try.prog 135 #[.string (str s)] w fun e w' => ∃ ad cap, e = .returned (.slice ad (8 * s.length) cap) ∧ Vec w' w.heap.size 4 1 ad (8 * s.length) cap ((allBits s).map Value.bool) ∧ Below w.heap.size w w' := by
  have hz := str_size s
  have HZ : Hid ((str s).size = s.length) := hz
  clear hz
  have hs2 : (str s).size ≤ 8796093022208 := by rw [HZ.out]; exact hs
  go_enter Try.func135, Try.ntmps135
  go_wp2
  go_loopw [3, 4, 5] (fun v u _ wr => ∃ (i : Nat) (ad : Option Addr) (cap N : Nat), i ≤ (str s).size ∧ u = .int .i64 i ∧ v = .slice ad N cap ∧ N = 8 * i ∧ Vec wr w.heap.size 4 1 ad N cap ((allBits (s.take i)).map Value.bool) ∧ Below w.heap.size w wr) (fun _ u _ _ => (str s).size - (intOf u).toNat)
  case atStart => exact ⟨0, none, 0, 0, Nat.zero_le _, rfl, rfl, rfl, Vec.nil _ _ _ _, Below.refl _ _⟩
  case round =>
    obtain ⟨i, ad, cap, N, hi, rfl, rfl, hN, hv, hb⟩ := hrel
    have HN : Hid (N = 8 * i) := hN
    clear hN
    by_cases hlt : i < (str s).size
    · have hlt2 : i < s.length := by rw [← HZ.out]; exact hlt
      have hd1 : decide ((i : Int) < ((str s).size : Int)) = true := by simp; omega
      go_wp2
      go_loopw [3, 5] (fun v u wr => ∃ (j : Nat) (ad : Option Addr) (cap M : Nat), j ≤ 8 ∧ u = .int .i64 (7 - (j : Int)) ∧ v = .slice ad M cap ∧ M = N + j ∧ Vec wr w.heap.size 4 1 ad M cap ((allBits (s.take i) ++ (bitsOf s[i]).take j).map Value.bool) ∧ Below w.heap.size w wr) (fun _ u _ => (intOf u + 1).toNat)
      case atStart => exact ⟨0, ad, cap, N, Nat.zero_le _, rfl, rfl, rfl, by simpa using hv, hb⟩
      case round =>
        clear hv hb
        obtain ⟨j, ad, cap, M, hj, rfl, rfl, hM, hv, hb⟩ := hrel
        have HM : Hid (M = N + j) := hM
        have hMb : M ≤ 70368744177664 + 8 := by have := HN.out; omega
        clear hM
        by_cases hjt : j < 8
        · have hz := hb.size
          have ew : wrap64 (((str s)[i]'hlt).toNat : Int) = ((s[i].toNat : Nat) : Int) := by
            have h8 := (s[i]).toNat_lt
            have e0 : ((str s)[i]'hlt).toNat = s[i].toNat := rfl
            rw [e0]; unfold wrap64; omega
          have h8 := (s[i]).toNat_lt
          have eb : (bits BinOp.and IntKind.i64 (wrap64 (((str s)[i]'hlt).toNat : Int) / 2 ^ (7 - j)) 1 == 1) = s[i].toNat.testBit (7 - j) := by
            rw [ew, bit_test _ _ (by omega)]
          have EB : Hid ((bits BinOp.and IntKind.i64 (wrap64 (((str s)[i]'hlt).toNat : Int) / 2 ^ (7 - j)) 1 == 1) = s[i].toNat.testBit (7 - j)) := eb
          clear eb ew h8
          go_wp2_with (at_builtin; rw [EB.out]; refine wpList_push (by rfl) _ _ 155 (by rfl) w.heap.size 4 1 1 (.bool false) Try.underlying155 (by kernel_rfl) rfl (by decide) ad M cap _ (by rfl) (hv.keep ((Below.refl _ _).alloc (Nat.le_refl _) _)) _ _ [.bool (s[i].toNat.testBit (7 - j))] (by rfl) rfl ?_ ?_ ?_ ?_ ?_ ?_; exact new_cells _ _ _; (simp [Value.oneCell']); (omega); (omega); (simp; omega); intro ad' cap' w' hv' hb' hs')
          have hb2 : Below w.heap.size w w' := hb.trans (((Below.refl _ wr).alloc (Nat.le_refl _) _).mono hz |>.trans hb')
          have hv2 : Vec w' w.heap.size 4 1 ad' (M + 1) cap' ((allBits (s.take i) ++ (bitsOf s[i]).take (j + 1)).map Value.bool) := by
            rw [bitsOf_take _ _ hjt]; simpa using hv'
          go_roundw
          case rel => exact ⟨j + 1, ad', cap', M + 1, by omega, by go_num, rfl, by have := HM.out; omega, hv2, hb2⟩
          case measure => simp [intOf]; omega
        · have e1 : j = 8 := by omega
          have e2 : M = 8 * (i + 1) := by have := HM.out; have := HN.out; omega
          have hv2 : Vec wr w.heap.size 4 1 ad M cap ((allBits (s.take (i + 1))).map Value.bool) := by
            have h := hv
            rw [e1, show (bitsOf s[i]).take 8 = bitsOf s[i] from rfl] at h
            rw [List.take_succ_eq_append_getElem hlt2, allBits_append, allBits_one]; exact h
          have E2 : Hid (M = 8 * (i + 1)) := e2
          clear e1 e2 hv
          go_wp2_with fail
          go_roundw
          case rel => exact ⟨i + 1, ad, cap, M, by omega, by go_num, rfl, E2.out, hv2, hb⟩
          case measure => simp [intOf]; omega
    · have e1 : i = s.length := by rw [← HZ.out]; omega
      have e2 : N = 8 * s.length := by have := HN.out; omega
      have hv2 : Vec wr w.heap.size 4 1 ad (8 * s.length) cap ((allBits s).map Value.bool) := by
        have h := hv
        rw [e1, List.take_of_length_le (Nat.le_refl _), e2] at h; exact h
      have E2 : Hid (N = 8 * s.length) := e2
      clear e1 e2 hv HN
      go_wp2_with fail
      rw [E2.out]
      go_ret
      exact ⟨ad, cap, rfl, hv2, hb⟩
end Go.Proofs.Ytdjpkgaicmklmaa

/- Long division of bits comes to the register: the plain mathematics. -/
namespace Go.Proofs.Ytdjpkgaicmklmaa

/-- Bit j of the register, the highest first; behind the 32nd nothing. -/
def reg (c j : Nat) : Bool := decide (j < 32) && c.testBit (31 - j)
/-- Bit t of the bytes; noughts behind. -/
def msg (m : List Bool) (t : Nat) : Bool := m.getD t false
/-- What long division holds at t behind i steps. -/
def lfun (p : Nat) (m : List Bool) (i t : Nat) : Bool := reg (crcB p 4294967295 (m.take i)) (t - i) != msg m t
/-- .. and k places into the i-th step, where the divisor is laid upon it. -/
def gfun (p : Nat) (m : List Bool) (i k t : Nat) : Bool := lfun p m i t != (decide (i + 32 < t + k ∧ t ≤ i + 32) && p.testBit (i + 32 - t))

theorem reg_ones (j : Nat) : reg 4294967295 j = decide (j < 32) := by
  unfold reg
  by_cases h : j < 32
  · have : (4294967295 : Nat).testBit (31 - j) = true := by
      rw [show (4294967295 : Nat) = 2 ^ 32 - 1 by decide, Nat.testBit_two_pow_sub_one]; simp; omega
    simp [h, this]
  · simp [h]

theorem lfun_start (p : Nat) (m : List Bool) (t : Nat) : lfun p m 0 t = (decide (t < 32) != msg m t) := by
  unfold lfun; simp [crcB, reg_ones]

theorem crcB_take (p : Nat) (m : List Bool) (i : Nat) (h : i < m.length) : crcB p 4294967295 (m.take (i + 1)) = cst p (crcB p 4294967295 (m.take i)) m[i] := by
  rw [List.take_succ_eq_append_getElem h, crcB_append]; rfl

theorem lfun_top (p : Nat) (m : List Bool) (i : Nat) (h : i < m.length) : lfun p m i i = ((crcB p 4294967295 (m.take i)).testBit 31 != m[i]) := by
  unfold lfun reg msg
  simp [List.getD, List.getElem?_eq_getElem h]

theorem shl_bit (c j : Nat) (hj : j < 32) : (2 * c % 4294967296).testBit (31 - j) = reg c (j + 1) := by
  rw [show (4294967296 : Nat) = 2 ^ 32 by decide, Nat.testBit_mod_two_pow]
  unfold reg
  by_cases h : j + 1 < 32
  · have e : 31 - j = (31 - (j + 1)) + 1 := by omega
    rw [e, Nat.testBit_succ, Nat.mul_div_cancel_left _ (by omega)]
    simp [h]
    intro _
    omega
  · have e : 31 - j = 0 := by omega
    rw [e]
    simp [h]

/-- A step at which the first bit is not set. -/
theorem lfun_no (p : Nat) (m : List Bool) (i t : Nat) (h : i < m.length) (ht : i < t) (h0 : lfun p m i i = false) : lfun p m (i + 1) t = lfun p m i t := by
  rw [lfun_top p m i h] at h0
  unfold lfun
  rw [crcB_take p m i h]
  unfold cst
  rw [h0, if_neg (by simp)]
  have e : t - i = (t - (i + 1)) + 1 := by omega
  rw [e]
  congr 1
  by_cases hj : t - (i + 1) < 32
  · rw [← shl_bit _ _ hj]; unfold reg; simp [hj]
  · unfold reg; simp [hj]; omega

/-- A step at which it is. -/
theorem lfun_yes (p : Nat) (m : List Bool) (i t : Nat) (h : i < m.length) (ht : i < t) (h0 : lfun p m i i = true) : lfun p m (i + 1) t = gfun p m i 32 t := by
  rw [lfun_top p m i h] at h0
  unfold gfun lfun
  rw [crcB_take p m i h]
  unfold cst
  rw [h0, if_pos rfl]
  have e : t - i = (t - (i + 1)) + 1 := by omega
  rw [e]
  by_cases hj : t - (i + 1) < 32
  · have e2 : i + 32 - t = 31 - (t - (i + 1)) := by omega
    have e3 : (decide (i + 32 < t + 32 ∧ t ≤ i + 32)) = true := by simp; omega
    rw [e2, e3, ← shl_bit _ _ hj]
    unfold reg
    rw [Nat.testBit_xor]
    simp only [hj, decide_true, Bool.true_and]
    generalize (2 * _ % 4294967296).testBit _ = a
    generalize p.testBit _ = b
    generalize msg m t = c
    cases a <;> cases b <;> cases c <;> rfl
  · have e3 : (decide (i + 32 < t + 32 ∧ t ≤ i + 32)) = false := by simp; omega
    rw [e3]
    unfold reg
    have h1 : ¬ t - (i + 1) + 1 < 32 := by omega
    simp [hj, h1]

theorem gfun_start (p : Nat) (m : List Bool) (i t : Nat) : gfun p m i 0 t = lfun p m i t := by
  unfold gfun
  have : (decide (i + 32 < t + 0 ∧ t ≤ i + 32)) = false := by simp
  rw [this]; simp

theorem gfun_step (p : Nat) (m : List Bool) (i k t : Nat) (hk : k < 32) : gfun p m i (k + 1) t = if t = i + 32 - k ∧ p.testBit k = true then !gfun p m i k t else gfun p m i k t := by
  unfold gfun
  by_cases ht : t = i + 32 - k
  · have e1 : (decide (i + 32 < t + (k + 1) ∧ t ≤ i + 32)) = true := by simp; omega
    have e2 : (decide (i + 32 < t + k ∧ t ≤ i + 32)) = false := by simp; omega
    have e3 : i + 32 - t = k := by omega
    rw [e1, e2, e3]
    cases hb : p.testBit k
    · simp
    · simp [ht]
  · have e1 : (decide (i + 32 < t + (k + 1) ∧ t ≤ i + 32)) = (decide (i + 32 < t + k ∧ t ≤ i + 32)) := by
      rw [Bool.eq_iff_iff]; simp; omega
    rw [e1, if_neg (fun h => ht h.1)]

/-- What is read at the end. -/
theorem lfun_end (p : Nat) (m : List Bool) (k : Nat) (hk : k < 32) : lfun p m m.length (m.length + k) = (crcB p 4294967295 m).testBit (31 - k) := by
  unfold lfun reg msg
  have e1 : m.length + k - m.length = k := by omega
  rw [e1, List.take_of_length_le (Nat.le_refl _)]
  simp [hk, List.getD]

theorem gather (x k : Nat) (hk : k < 32) : x / 2 ^ (32 - (k + 1)) = 2 * (x / 2 ^ (32 - k)) + (x.testBit (31 - k)).toNat := by
  have e : 32 - k = (31 - k) + 1 := by omega
  have e2 : 32 - (k + 1) = 31 - k := by omega
  rw [e, e2, Nat.pow_succ, ← Nat.div_div_eq_div_mul, Nat.testBit_eq_decide_div_mod_eq]
  generalize x / 2 ^ (31 - k) = y
  by_cases h : y % 2 = 1
  · simp [h]; omega
  · simp [h]; omega

theorem not_bit (c k : Nat) (hk : k < 32) : (c ^^^ 4294967295).testBit (31 - k) = !c.testBit (31 - k) := by
  rw [Nat.testBit_xor]
  have : (4294967295 : Nat).testBit (31 - k) = true := by
    rw [show (4294967295 : Nat) = 2 ^ 32 - 1 by decide, Nat.testBit_two_pow_sub_one]; simp; omega
  rw [this]; simp
end Go.Proofs.Ytdjpkgaicmklmaa

