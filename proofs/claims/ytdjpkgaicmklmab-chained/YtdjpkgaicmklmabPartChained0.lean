/- Texts of the proof, one behind the other; what each holds is said at its head. -/
import Derived.Test.YtdjpkgaicmklmabRows
import Derived.WalkKit
import Derived.WalkSpells
import Derived.WalkLawsBesides
import Derived.Deep.QuietTactic
import Derived.BigQuiet
import Derived.Laws.CopyOwn
import Derived.Deep.AppendLies
import Derived.Deep.RegionHeld3
import Derived.ProofKit
import Derived.OpenShut
import Derived.Carry
import Derived.SizedLaws
import Derived.Lib.SmallJoins
import Derived.Deep.Slices
/- What lies in memory: rows of records, and the plain data that they read as; searches by a bound. -/
namespace Go.Proofs.Ytdjpkgaicmklmab
open Go.RowKit

theorem ret_bool {a b : Bool} (h : a = b) : Ending.returned (.bool a) = .returned (.bool b) := by rw [h]
theorem ret_int {k : IntKind} {a b : Int} (h : a = b) : Ending.returned (.int k a) = .returned (.int k b) := by rw [h]

/-- Behind a call that makes memory alone all that was there reads as before. -/
theorem bcell {W w1 : World} (hb : Below W.heap.size W w1) : (∀ b o, b < W.heap.size → w1.cell? ⟨b, o, none⟩ = W.cell? ⟨b, o, none⟩) ∧ (∀ b o, b < W.heap.size → w1.frozen? ⟨b, o, none⟩ = W.frozen? ⟨b, o, none⟩) :=
  ⟨fun b o h => hb.cell (p := ⟨b, o, none⟩) h, fun b o h => hb.frozen (p := ⟨b, o, none⟩) h⟩

/-- Is there one below the bound? -/
def anyTo (p : Nat → Bool) : Nat → Bool
  | 0 => false
  | k + 1 => anyTo p k || p k

theorem anyTo_hit {p : Nat → Bool} {k : Nat} : ∀ {n : Nat}, k < n → p k = true → anyTo p n = true
  | 0, h, _ => by omega
  | n + 1, h, hp => by
    by_cases e : k = n
    · subst e; simp [anyTo, hp]
    · simp [anyTo, anyTo_hit (n := n) (by omega) hp]

theorem anyTo_iff {p : Nat → Bool} : ∀ {n : Nat}, anyTo p n = true ↔ ∃ k, k < n ∧ p k = true
  | 0 => by simp [anyTo]
  | n + 1 => by
    simp only [anyTo, Bool.or_eq_true, anyTo_iff (n := n)]
    constructor
    · rintro (⟨k, h, hp⟩ | h)
      · exact ⟨k, by omega, hp⟩
      · exact ⟨n, by omega, h⟩
    · rintro ⟨k, h, hp⟩
      by_cases e : k = n
      · subst e; exact Or.inr hp
      · exact Or.inl ⟨k, by omega, hp⟩

theorem anyTo_no {p : Nat → Bool} {k : Nat} (h : anyTo p k = false) (hp : p k = false) : anyTo p (k + 1) = false := by simp [anyTo, h, hp]

theorem anyTo_congr {p q : Nat → Bool} {n : Nat} (h : ∀ i, i < n → p i = q i) : anyTo p n = anyTo q n := by
  induction n with
  | zero => rfl
  | succ n ih => simp only [anyTo]; rw [ih (fun i hi => h i (by omega)), h n (by omega)]

/-- Clocks, cards, edits, as plain data. -/
structure Ck where
  site : Int
  count : Int
structure Cd where
  id : Int
  site : Int
  count : Int
  gone : Bool
  text : ByteArray
structure Ed where
  id : Int
  text : ByteArray

abbrev Ck.cells (x : Ck) : List Value := [.int .i64 x.site, .int .i64 x.count]
abbrev Cd.cells (x : Cd) : List Value := [.int .i64 x.id, .int .i64 x.site, .int .i64 x.count, .bool x.gone, .string x.text]
abbrev Ed.cells (x : Ed) : List Value := [.int .i64 x.id, .string x.text]

/-- At the address lie n elements of m cells each. -/
def Lies (w : World) (a : Option Addr) (n m : Nat) (f : Nat → List Value) : Prop :=
  n = 0 ∨ ∃ b off, a = some ⟨b, off, none⟩ ∧ b < w.heap.size ∧ ∀ i, i < n → ∀ j v, j < m → (f i)[j]? = some v → w.cell? ⟨b, off + i * m + j, none⟩ = some v

theorem Lies.below {w w' : World} {a : Option Addr} {n m : Nat} {f : Nat → List Value} (h : Lies w a n m f) (hb : Below w.heap.size w w') : Lies w' a n m f := by
  rcases h with h | ⟨b, off, ha, hlt, hc⟩
  · exact Or.inl h
  · refine Or.inr ⟨b, off, ha, Nat.lt_of_lt_of_le hlt hb.size, fun i hi j v hj hv => ?_⟩
    rw [hb.cell (p := ⟨b, off + i * m + j, none⟩) hlt]
    exact hc i hi j v hj hv

theorem Lies.at {w : World} {a : Option Addr} {n m : Nat} {f : Nat → List Value} (h : Lies w a n m f) {P : Program} {t : TypeId} (cap : Nat)
    (ht : P.underlying t = some (.slice (P.elem t))) (hs : (P.info? (P.elem t)).map (·.size) = some m) {k : Nat} (hk : k < n) :
    ∃ b o, b < w.heap.size ∧ (∀ w', (Instr.indexAt t (.slice a n cap) (.int .i64 (k : Int))).run P w' = .ok (.pointer (some ⟨b, o, none⟩)) w') ∧
      ∀ j v, j < m → (f k)[j]? = some v → w.cell? ⟨b, o + j, none⟩ = some v := by
  rcases h with h | ⟨b, off, rfl, hlt, hc⟩
  · omega
  · refine ⟨b, off + k * m, hlt, fun w' => ?_, fun j v hj hv => hc k hk j v hj hv⟩
    cases hq : P.info? (P.elem t) with
    | none => simp [hq] at hs
    | some i =>
      have hi : i.size = m := by simpa [hq] using hs
      rw [run_indexAt_slice w' t _ n cap .i64 (k : Int) ht, if_pos (by omega)]
      have hz : (sizeOf (P.elem t)).run P w' = .ok m w' := by simp [sizeOf, typeInfo, hq, hi]
      rw [hz]
      simp only [Result.andThen_ok, Addr.add, Int.toNat_natCast]
      by_cases h0 : k * m = 0
      · rw [if_pos h0, h0]; rfl
      · rw [if_neg h0]

theorem Lies.clock {w : World} {a : Option Addr} {n : Nat} {c : Nat → Ck} (h : Lies w a n 2 (fun i => (c i).cells)) (cap : Nat) {k : Nat} (hk : k < n) :
    ∃ b o, b < w.heap.size ∧ (∀ w', (Instr.indexAt 24 (.slice a n cap) (.int .i64 (k : Int))).run Try.prog w' = .ok (.pointer (some ⟨b, o, none⟩)) w') ∧
      w.cell? ⟨b, o, none⟩ = some (.int .i64 (c k).site) ∧ w.cell? ⟨b, o + 1, none⟩ = some (.int .i64 (c k).count) := by
  obtain ⟨b, o, hb, hi, hc⟩ := h.at cap (P := Try.prog) (t := 24) (by kernel_rfl) (by kernel_rfl) hk
  exact ⟨b, o, hb, hi, hc 0 _ (by omega) rfl, hc 1 _ (by omega) rfl⟩
theorem Lies.card {w : World} {a : Option Addr} {n : Nat} {c : Nat → Cd} (h : Lies w a n 5 (fun i => (c i).cells)) (cap : Nat) {k : Nat} (hk : k < n) :
    ∃ b o, b < w.heap.size ∧ (∀ w', (Instr.indexAt 25 (.slice a n cap) (.int .i64 (k : Int))).run Try.prog w' = .ok (.pointer (some ⟨b, o, none⟩)) w') ∧
      w.cell? ⟨b, o, none⟩ = some (.int .i64 (c k).id) ∧ w.cell? ⟨b, o + 1, none⟩ = some (.int .i64 (c k).site) ∧ w.cell? ⟨b, o + 2, none⟩ = some (.int .i64 (c k).count) ∧
      w.cell? ⟨b, o + 3, none⟩ = some (.bool (c k).gone) ∧ w.cell? ⟨b, o + 4, none⟩ = some (.string (c k).text) := by
  obtain ⟨b, o, hb, hi, hc⟩ := h.at cap (P := Try.prog) (t := 25) (by kernel_rfl) (by kernel_rfl) hk
  exact ⟨b, o, hb, hi, hc 0 _ (by omega) rfl, hc 1 _ (by omega) rfl, hc 2 _ (by omega) rfl, hc 3 _ (by omega) rfl, hc 4 _ (by omega) rfl⟩
theorem Lies.edit {w : World} {a : Option Addr} {n : Nat} {c : Nat → Ed} (h : Lies w a n 2 (fun i => (c i).cells)) (cap : Nat) {k : Nat} (hk : k < n) :
    ∃ b o, b < w.heap.size ∧ (∀ w', (Instr.indexAt 26 (.slice a n cap) (.int .i64 (k : Int))).run Try.prog w' = .ok (.pointer (some ⟨b, o, none⟩)) w') ∧
      w.cell? ⟨b, o, none⟩ = some (.int .i64 (c k).id) ∧ w.cell? ⟨b, o + 1, none⟩ = some (.string (c k).text) := by
  obtain ⟨b, o, hb, hi, hc⟩ := h.at cap (P := Try.prog) (t := 26) (by kernel_rfl) (by kernel_rfl) hk
  exact ⟨b, o, hb, hi, hc 0 _ (by omega) rfl, hc 1 _ (by omega) rfl⟩
end Go.Proofs.Ytdjpkgaicmklmab

/- The program's own tests of a replica (package sound), walked. -/
namespace Go.Proofs.Ytdjpkgaicmklmab
open Go.RowKit

/-- out of 1 .. m. -/
def outB (n m : Int) : Bool := decide (n < 1) || decide (m < n)

set_option maxHeartbeats 400000 in
theorem outOfRange_any (n m : Int) (w : World) :
    Calls Try.prog 72 #[.int .i64 n, .int .i64 m] w fun e w' => e = .returned (.bool (outB n m)) ∧ w' = w := by
  go_enter Try.func72, Try.ntmps72
  go_wp2
  all_goals (go_ret; refine ⟨ret_bool ?_, rfl⟩; simp [outB]; try omega)

/-- a Site or a Count that may not be. -/
def scB (s c : Int) : Bool := outB s 200 || outB c 4611686018427387904

set_option maxHeartbeats 400000 in
theorem wrongSiteOrCount_any (s c : Int) (w : World) :
    Calls Try.prog 71 #[.int .i64 s, .int .i64 c] w fun e w' => e = .returned (.bool (scB s c)) ∧ w' = w := by
  cases h : outB s 200
  · go_enter Try.func71, Try.ntmps71
    go_wp2_with (go_at_call 72; refine (outOfRange_any _ _ _).mono ?_; rintro e w' ⟨rfl, rfl⟩)
    go_ret; exact ⟨ret_bool (by simp [scB, h]), rfl⟩
  · go_enter Try.func71, Try.ntmps71
    go_wp2_with (go_at_call 72; refine (outOfRange_any _ _ _).mono ?_; rintro e w' ⟨rfl, rfl⟩)
    go_ret; exact ⟨ret_bool (by simp [scB, h]), rfl⟩

/-- A replica's three rows. -/
structure Rep where
  n1 : Nat
  n2 : Nat
  n3 : Nat
  c : Nat → Ck
  d : Nat → Cd
  e : Nat → Ed

/-- A replica lies in the world: its rows' addresses. -/
structure Has (w : World) (R : Rep) (a1 a2 a3 : Option Addr) : Prop where
  l1 : Lies w a1 R.n1 2 (fun i => (R.c i).cells)
  l2 : Lies w a2 R.n2 5 (fun i => (R.d i).cells)
  l3 : Lies w a3 R.n3 2 (fun i => (R.e i).cells)
  b1 : R.n1 ≤ 140737488355328
  b2 : R.n2 ≤ 140737488355328
  b3 : R.n3 ≤ 140737488355328
  y1 : 16 * R.n1 ≤ 140737488355328
  y2 : 48 * R.n2 ≤ 140737488355328
  y3 : 24 * R.n3 ≤ 140737488355328

theorem Has.below {w w' : World} {R : Rep} {a1 a2 a3 : Option Addr} (h : Has w R a1 a2 a3) (hb : Below w.heap.size w w') : Has w' R a1 a2 a3 :=
  ⟨h.l1.below hb, h.l2.below hb, h.l3.below hb, h.b1, h.b2, h.b3, h.y1, h.y2, h.y3⟩

abbrev repV (R : Rep) (a1 a2 a3 : Option Addr) (k1 k2 k3 : Nat) : Value := .agg #[.slice a1 R.n1 k1, .slice a2 R.n2 k2, .slice a3 R.n3 k3]

def Rep.num1 (R : Rep) (i : Nat) : Bool := scB (R.c i).site (R.c i).count
def Rep.num2 (R : Rep) (i : Nat) : Bool := scB (R.d i).site (R.d i).count || outB (R.d i).id 4611686018427387904
def Rep.num3 (R : Rep) (i : Nat) : Bool := outB (R.e i).id 4611686018427387904
/-- ErrNumber. -/
def Rep.numB (R : Rep) : Bool := anyTo R.num1 R.n1 || (anyTo R.num2 R.n2 || anyTo R.num3 R.n3)

/-- The box of a struct parameter, behind whatever was laid or drawn since. -/
theorem box3 {w wr : World} {x y z : Value} {t : TypeId} (hb : Below (w.heap.size + 1) (w.alloc (.cells #[x, y, z] t)) wr) :
    wr.cell? ⟨w.heap.size, 0, none⟩ = some x ∧ wr.cell? ⟨w.heap.size, 1, none⟩ = some y ∧ wr.cell? ⟨w.heap.size, 2, none⟩ = some z := by
  refine ⟨?_, ?_, ?_⟩
  · rw [hb.cell (p := ⟨w.heap.size, 0, none⟩) (by simp), World.cell?_alloc_new]; rfl
  · rw [hb.cell (p := ⟨w.heap.size, 1, none⟩) (by simp), World.cell?_alloc_new]; rfl
  · rw [hb.cell (p := ⟨w.heap.size, 2, none⟩) (by simp), World.cell?_alloc_new]; rfl

theorem below_box {w wr : World} {o : Obj} (hb : Below (w.heap.size + 1) (w.alloc o) wr) : Below w.heap.size w wr :=
  ((Below.refl _ _).alloc (Nat.le_refl _) o).trans (hb.mono (by omega))

/-- What each loop over a replica's rows carries. -/
abbrev BoxR (w : World) (R : Rep) (a1 a2 a3 : Option Addr) (k1 k2 k3 : Nat) (wr : World) : Prop :=
  Below (w.heap.size + 1) (w.alloc (.cells #[.slice a1 R.n1 k1, .slice a2 R.n2 k2, .slice a3 R.n3 k3] 28)) wr

/-- a text that is too long. -/
def longB (t : ByteArray) : Bool := decide ((60 : Int) < (t.size : Int))
def Rep.txt2 (R : Rep) (i : Nat) : Bool := longB (R.d i).text || ((R.d i).gone && !(R.d i).text.toList.isEmpty)
def Rep.txt3 (R : Rep) (i : Nat) : Bool := longB (R.e i).text
/-- ErrText. -/
def Rep.txtB (R : Rep) : Bool := anyTo R.txt2 R.n2 || anyTo R.txt3 R.n3

def Rep.ris1 (R : Rep) (i : Nat) : Bool := decide ((R.c (i + 1)).site ≤ (R.c i).site)
def Rep.ris2 (R : Rep) (i : Nat) : Bool := decide ((R.d (i + 1)).id ≤ (R.d i).id)
/-- ErrRise. -/
def Rep.risB (R : Rep) : Bool := anyTo R.ris1 (R.n1 - 1) || anyTo R.ris2 (R.n2 - 1)

/-- The Count of a site's clock, of the first k; 0 if there is none. -/
def clockTo (c : Nat → Ck) (site : Int) : Nat → Option Int
  | 0 => none
  | k + 1 => match clockTo c site k with
    | some x => some x
    | none => if (c k).site = site then some (c k).count else none
def Rep.clk (R : Rep) (site : Int) : Int := (clockTo R.c site R.n1).getD 0
def Rep.unc (R : Rep) (i : Nat) : Bool := decide (R.clk (R.d i).site < (R.d i).count)
/-- ErrStamp. -/
def Rep.uncB (R : Rep) : Bool := anyTo R.unc R.n2
def stampB (x y : Cd) : Bool := x.site == y.site && x.count == y.count
def Rep.clash (R : Rep) (i : Nat) : Bool := anyTo (fun k => stampB (R.d i) (R.d k)) i
/-- ErrClash. -/
def Rep.clashB (R : Rep) : Bool := anyTo R.clash R.n2
/-- ErrMany. -/
def Rep.manyB (R : Rep) : Bool := decide (8 < R.n1) || (decide (40 < R.n2) || decide (16 < R.n3))
/-- P3. -/
def Rep.chk (R : Rep) : Int :=
  if R.manyB then 1 else if R.numB then 2 else if R.txtB then 3 else if R.risB then 4 else if R.uncB then 5 else if R.clashB then 6 else 0

theorem clockTo_hit {c : Nat → Ck} {site : Int} {k : Nat} : ∀ {n : Nat}, k < n → clockTo c site k = none → (c k).site = site → clockTo c site n = some (c k).count
  | 0, h, _, _ => by omega
  | n + 1, h, h0, hp => by
    by_cases e : k = n
    · subst e; simp [clockTo, h0, hp]
    · simp [clockTo, clockTo_hit (n := n) (by omega) h0 hp]
theorem clockTo_no {c : Nat → Ck} {site : Int} {k : Nat} (h : clockTo c site k = none) (hp : ¬ (c k).site = site) : clockTo c site (k + 1) = none := by simp [clockTo, h, hp]

end Go.Proofs.Ytdjpkgaicmklmab

/- Rows that a call makes itself: make, copy and stores of whole records, as laws for the walk. -/
namespace Go.Proofs.Ytdjpkgaicmklmab
open Go.RowKit

/-! ### Rows of records of one length, laid flat -/
def Even (m : Nat) (rows : List (List Value)) : Prop := ∀ r, r ∈ rows → r.length = m

theorem Even.nil (m : Nat) : Even m [] := by intro r h; cases h
theorem Even.cons {m : Nat} {r : List Value} {rows : List (List Value)} (h : Even m (r :: rows)) : r.length = m ∧ Even m rows :=
  ⟨h r (by simp), fun x hx => h x (by simp [hx])⟩
theorem Even.append {m : Nat} {a b : List (List Value)} (ha : Even m a) (hb : Even m b) : Even m (a ++ b) := by
  intro r h; rcases List.mem_append.1 h with h | h
  · exact ha r h
  · exact hb r h
theorem Even.drop {m : Nat} {a : List (List Value)} (ha : Even m a) (k : Nat) : Even m (a.drop k) := fun r h => ha r (List.mem_of_mem_drop h)
theorem Even.take {m : Nat} {a : List (List Value)} (ha : Even m a) (k : Nat) : Even m (a.take k) := fun r h => ha r (List.mem_of_mem_take h)
theorem Even.set {m : Nat} {a : List (List Value)} (ha : Even m a) (k : Nat) {v : List Value} (hv : v.length = m) : Even m (a.set k v) := by
  intro r h; rcases List.mem_or_eq_of_mem_set h with h | h
  · exact ha r h
  · subst h; exact hv
theorem Even.range {m : Nat} {f : Nat → List Value} (n : Nat) (hf : ∀ i, i < n → (f i).length = m) : Even m ((List.range n).map f) := by
  intro r h
  obtain ⟨i, hi, rfl⟩ := List.mem_map.1 h
  exact hf i (List.mem_range.1 hi)
theorem Even.replicate {m : Nat} {z : List Value} (n : Nat) (hz : z.length = m) : Even m (List.replicate n z) := by
  intro r h; rw [List.eq_of_mem_replicate h]; exact hz

theorem Even.length {m : Nat} : ∀ {rows : List (List Value)}, Even m rows → rows.flatten.length = rows.length * m
  | [], _ => by simp
  | r :: rows, h => by
    have := h.cons
    simp only [List.flatten_cons, List.length_append, List.length_cons, this.1, this.2.length]
    rw [Nat.add_mul]; omega

theorem Even.at {m : Nat} : ∀ {rows : List (List Value)}, Even m rows → ∀ (i j : Nat), j < m → i < rows.length → rows.flatten[i * m + j]? = (rows.getD i [])[j]?
  | [], _, i, j, _, hi => by simp at hi
  | r :: rows, h, 0, j, hj, _ => by
    have := h.cons
    simp only [List.flatten_cons]
    rw [List.getElem?_append_left (by omega)]
    simp
  | r :: rows, h, i + 1, j, hj, hi => by
    have := h.cons
    simp only [List.flatten_cons]
    rw [List.getElem?_append_right (by rw [this.1, Nat.add_mul]; omega)]
    have e : (i + 1) * m + j - r.length = i * m + j := by rw [this.1, Nat.add_mul]; omega
    rw [e, this.2.at i j hj (by simpa using hi)]
    simp

theorem Even.takeFlat {m : Nat} : ∀ {rows : List (List Value)}, Even m rows → ∀ k, rows.flatten.take (k * m) = (rows.take k).flatten
  | [], _, k => by simp
  | r :: rows, h, 0 => by simp
  | r :: rows, h, k + 1 => by
    have := h.cons
    simp only [List.flatten_cons, List.take_succ_cons]
    rw [List.take_append, this.1]
    have e : (k + 1) * m - m = k * m := by rw [Nat.add_mul]; omega
    rw [e, this.2.takeFlat k, List.take_of_length_le (by rw [this.1, Nat.add_mul]; omega)]

theorem Even.dropFlat {m : Nat} : ∀ {rows : List (List Value)}, Even m rows → ∀ k, rows.flatten.drop (k * m) = (rows.drop k).flatten
  | [], _, k => by simp
  | r :: rows, h, 0 => by simp
  | r :: rows, h, k + 1 => by
    have := h.cons
    simp only [List.flatten_cons, List.drop_succ_cons]
    rw [List.drop_append, this.1]
    have e : (k + 1) * m - m = k * m := by rw [Nat.add_mul]; omega
    rw [e, this.2.dropFlat k, List.drop_of_length_le (by rw [this.1, Nat.add_mul]; omega)]
    simp

/-- One-cell values. -/
def Ones (rows : List (List Value)) : Prop := ∀ r, r ∈ rows → ∀ v, v ∈ r → v.oneCell' = true
theorem Ones.append {a b : List (List Value)} (ha : Ones a) (hb : Ones b) : Ones (a ++ b) := by
  intro r h; rcases List.mem_append.1 h with h | h
  · exact ha r h
  · exact hb r h
theorem Ones.drop {a : List (List Value)} (ha : Ones a) (k : Nat) : Ones (a.drop k) := fun r h => ha r (List.mem_of_mem_drop h)
theorem Ones.set {a : List (List Value)} (ha : Ones a) (k : Nat) {v : List Value} (hv : ∀ x, x ∈ v → x.oneCell' = true) : Ones (a.set k v) := by
  intro r h; rcases List.mem_or_eq_of_mem_set h with h | h
  · exact ha r h
  · subst h; exact hv
theorem Ones.range {f : Nat → List Value} (n : Nat) (hf : ∀ i, i < n → ∀ v, v ∈ f i → v.oneCell' = true) : Ones ((List.range n).map f) := by
  intro r h
  obtain ⟨i, hi, rfl⟩ := List.mem_map.1 h
  exact hf i (List.mem_range.1 hi)

/-- Block g holds these rows and nothing else; nothing of it is frozen. -/
structure Own (w : World) (g e m : Nat) (rows : List (List Value)) : Prop where
  even : Even m rows
  block : w.heap[g]? = some (.cells rows.flatten.toArray e (0, 0))

theorem Own.lt {w : World} {g e m : Nat} {rows : List (List Value)} (h : Own w g e m rows) : g < w.heap.size := (Array.getElem?_eq_some_iff.1 h.block).1

theorem Own.cell {w : World} {g e m : Nat} {rows : List (List Value)} (h : Own w g e m rows) (i j : Nat) (hi : i < rows.length) (hj : j < m) :
    w.cell? ⟨g, i * m + j, none⟩ = (rows.getD i [])[j]? := by
  rw [← h.even.at i j hj hi]
  simp [World.cell?, h.block]

theorem Own.lies {w : World} {g e m : Nat} {rows : List (List Value)} (h : Own w g e m rows) (n : Nat) (f : Nat → List Value) (hn : n ≤ rows.length) (hf : ∀ i, i < n → rows.getD i [] = f i) :
    Lies w (some ⟨g, 0, none⟩) n m f := by
  refine Or.inr ⟨g, 0, rfl, h.lt, fun i hi j v hj hv => ?_⟩
  rw [show 0 + i * m + j = i * m + j by omega, h.cell i j (by omega) hj, hf i hi]
  exact hv

theorem Own.below {w w' : World} {B g e m : Nat} {rows : List (List Value)} (h : Own w g e m rows) (hb : Below B w w') (hg : g < B) : Own w' g e m rows :=
  ⟨h.even, by rw [hb.block g hg]; exact h.block⟩

/-- Block g alone has turned. -/
structure Upd (g : Nat) (w w' : World) : Prop where
  os : w'.os = w.os
  tape : w'.tape = w.tape
  output : w'.output = w.output
  size : w'.heap.size = w.heap.size
  block : ∀ k, k ≠ g → w'.heap[k]? = w.heap[k]?

theorem Upd.below {g B : Nat} {w0 w w' : World} (h : Upd g w w') (hb : Below B w0 w) (hg : B ≤ g) : Below B w0 w' :=
  hb.trans ⟨h.os, h.tape, h.output, by rw [h.size]; exact Nat.le_refl _, fun k hk => h.block k (by omega)⟩

theorem Own.upd {w w' : World} {g g' e m : Nat} {rows : List (List Value)} (h : Own w g e m rows) (hb : Upd g' w w') (hg : g ≠ g') : Own w' g e m rows :=
  ⟨h.even, by rw [hb.block g hg]; exact h.block⟩

theorem Upd.setRow (w : World) (g : Nat) (c : Array Value) : Upd g w (w.setRow g c) :=
  ⟨rfl, rfl, rfl, by simp [World.setRow], fun k hk => setRow_other w g k c hk⟩

theorem Upd.refl (g : Nat) (w : World) : Upd g w w := ⟨rfl, rfl, rfl, rfl, fun _ _ => rfl⟩
theorem Upd.trans {g : Nat} {a b c : World} (h : Upd g a b) (k : Upd g b c) : Upd g a c :=
  ⟨k.os.trans h.os, k.tape.trans h.tape, k.output.trans h.output, k.size.trans h.size, fun i hi => (k.block i hi).trans (h.block i hi)⟩
theorem Upd.drew {g : Nat} {a b : World} (h : Upd g a b) : Upd g a b.drew := h.trans ⟨rfl, rfl, rfl, rfl, fun _ _ => rfl⟩
theorem Upd.drewN {g : Nat} {a b : World} (h : Upd g a b) (n : Nat) : Upd g a (b.drewN n) := h.trans ⟨rfl, rfl, rfl, rfl, fun _ _ => rfl⟩
theorem Upd.setCell {g : Nat} {a b : World} (h : Upd g a b) (p : Addr) (hp : p.block = g) (v : Value) : Upd g a (b.setCell p v) :=
  h.trans ⟨rfl, rfl, rfl, by simp [World.setCell], fun k hk => Below.heap_setCell _ _ _ _ (by omega)⟩

theorem addr_add (b off j : Nat) : (⟨b, off, none⟩ : Addr).add j = ⟨b, off + j, none⟩ := by
  unfold Addr.add
  by_cases h : j = 0 <;> simp [h]

section
variable {P : Program} {w : World} {ops : Array Oper} {rest : List Oper} {o : Oper} {a : Act} {Q : Exit → Act → World → Prop}

theorem madeCells_flat (zs : List Value) (m n : Nat) (hm : zs.length = m) (h0 : 0 < m) : madeCells zs.toArray (n * m) = (List.replicate n zs).flatten.toArray := by
  have hE := Even.replicate (m := m) n hm
  apply Array.ext_getElem?
  intro k
  by_cases hk : k < n * m
  · have h1 : (madeCells zs.toArray (n * m))[k]? = some (zs.toArray[k % zs.toArray.size]!) := by
      simp [madeCells, hk]
    rw [h1]
    have hq : k / m < n := Nat.div_lt_of_lt_mul (by rw [Nat.mul_comm]; exact hk)
    have hr : k % m < m := Nat.mod_lt _ h0
    have hk2 : k = k / m * m + k % m := by rw [Nat.mul_comm]; exact (Nat.div_add_mod k m).symm
    have h2 : (List.replicate n zs).flatten[k]? = zs[k % m]? := by
      have := hE.at (k / m) (k % m) hr (by simpa using hq)
      rw [← hk2] at this
      rw [this]
      simp [List.getD, hq]
    simp only [List.getElem?_toArray, h2, List.size_toArray, hm]
    rw [List.getElem?_eq_getElem (by omega)]
    simp [hm, hr]
  · have h1 : (madeCells zs.toArray (n * m)).size ≤ k := by rw [size_madeCells]; omega
    rw [Array.getElem?_eq_none h1]
    rw [List.getElem?_toArray, List.getElem?_eq_none]
    rw [hE.length]; simp; omega

/-- 'make([]T, n)', T of m cells. -/
theorem wpList_make_rows (hg : o.guard = none) (l c : Operand) (t : TypeId) (hop : o.op = Op.makeSlice t l c) (e : TypeId) (zs : List Value) (m bytes : Nat)
    (ht : P.underlying t = some (.slice e)) (hinfo : (P.info? e).map (fun i => (i.zero, i.size, i.bytes)) = some (some (.agg zs.toArray), m, bytes)) (hm : zs.length = m) (h0 : 0 < m)
    (n : Nat) (N : Int) (hN : N = (n : Int)) (hl : a.eval l = .int .i64 N) (hc : a.eval c = .int .i64 N) (hbytes : bytes * n ≤ 281474976710656) (h63 : n ≤ 9223372036854775807)
    (h : ∀ g ad w', Hid (ad = some ⟨g, 0, none⟩) → w.heap.size ≤ g → g < w'.heap.size → Own w' g e m (List.replicate n zs) → Below w.heap.size w w' → wpList P ops Q rest (a.put o.dst (.slice ad n n)) w') :
    wpList P ops Q (o :: rest) a w := by
  subst hN
  obtain ⟨i, hi, hzz⟩ := Option.map_eq_some_iff.1 hinfo
  simp only [Prod.mk.injEq] at hzz
  obtain ⟨hz, hs, hb⟩ := hzz
  refine wpList_plain hg fun K hK => ?_
  have hb' : (i.bytes : Int) * (n : Int) ≤ 281474976710656 := by
    have h : ((i.bytes * n : Nat) : Int) ≤ 281474976710656 := by rw [hb]; omega
    rwa [Int.natCast_mul] at h
  have hr := run_make (P := P) w t e i (.agg zs.toArray) ht hi hz .i64 .i64 (n : Int) (n : Int) (by omega) (Int.le_refl _) hb' (by omega)
  simp only [Int.toNat_natCast, hs, Value.cells, madeCells_flat zs m n hm h0] at hr
  unfold Oper.wp
  simp [execOp, hop, hl, hc, hr, Result.andThen]
  refine hK _ _ (h w.heap.size _ _ rfl (Nat.le_refl _) (by simp) ⟨Even.replicate n hm, ?_⟩ ((Below.refl _ _).alloc (Nat.le_refl _) _))
  show (w.heap.push _)[w.heap.size]? = _
  rw [Array.getElem?_push_size]

theorem run_copy_rows (w : World) (dT sT ty e : TypeId) (g N cap n scap m : Nat) (src : Option Addr) (f : Nat → List Value) (rows : List (List Value))
    (hu : P.underlying dT = some (.slice e)) (hs : (P.info? e).map (·.size) = some m) (hown : Own w g e m rows) (hN : rows.length = N) (hn : n ≤ N) (hL : Lies w src n m f)
    (hf : ∀ i, i < n → (f i).length = m) (h1 : ∀ i, i < n → ∀ v, v ∈ f i → v.oneCell' = true) :
    ∃ w', (Builtin.copy_ #[dT, sT] ty #[.slice (some ⟨g, 0, none⟩) N cap, .slice src n scap]).run P w = .ok (goInt n) w' ∧
      Own w' g e m ((List.range n).map f ++ rows.drop n) ∧ Upd g w w' := by
  have hE : Even m ((List.range n).map f) := Even.range n hf
  have hEl : ((List.range n).map f).flatten.length = n * m := by rw [hE.length]; simp
  have hmin : Nat.min n N = n := Nat.min_eq_left hn
  cases hq : P.info? e with
  | none => simp [hq] at hs
  | some i =>
    have hi : i.size = m := by simpa [hq] using hs
    have hst := run_storeCells_at P g 0 e ((List.range n).map f).flatten 0 rows.flatten.toArray w hown.block (by
        simp only [List.size_toArray, hown.even.length, hEl, hN, Nat.zero_add]; exact Nat.mul_le_mul_right _ hn) (by
        intro v hv
        obtain ⟨r, hr, hv⟩ := List.mem_flatten.1 hv
        exact Ones.range n h1 r hr v hv)
    refine ⟨w.setRow g (((List.range n).map f ++ rows.drop n).flatten).toArray, ?_, ⟨hE.append (hown.even.drop n), setRow_heap w g _ _ e _ hown.block⟩, Upd.setRow _ _ _⟩
    have e1 : (0 + 0 + ((List.range n).map f).flatten.length) = n * m := by rw [hEl]; omega
    rw [e1, show (0 + 0 : Nat) = 0 from rfl] at hst
    simp only [List.take_zero, List.nil_append, hown.even.dropFlat n] at hst
    rw [← List.flatten_append] at hst
    have hload : (Builtin.firstCells m n (.slice src n scap)).run P w = .ok ((List.range n).map f).flatten.toArray w := by
      rcases hL with h0 | ⟨b, off, rfl, _, hc⟩
      · subst h0
        cases src with
        | none => simp [Builtin.firstCells]
        | some ad => simp [Builtin.firstCells, loadCells, loadCellsFrom]
      · simp only [Builtin.firstCells]
        rw [← hEl]
        refine run_loadCells_list w _ _ fun j v hj => ?_
        have hjl : j < n * m := by
          rcases Nat.lt_or_ge j (n * m) with h | h
          · exact h
          · rw [List.getElem?_eq_none (by omega)] at hj; cases hj
        have h0 : 0 < m := by rcases Nat.eq_zero_or_pos m with h | h; (subst h; simp at hjl); exact h
        have hk2 : j = j / m * m + j % m := by rw [Nat.mul_comm]; exact (Nat.div_add_mod j m).symm
        have hqn : j / m < n := Nat.div_lt_of_lt_mul (by rw [Nat.mul_comm]; exact hjl)
        have hr : j % m < m := Nat.mod_lt _ h0
        have hat := hE.at (j / m) (j % m) hr (by simpa using hqn)
        rw [← hk2, hj] at hat
        have hget : ((List.range n).map f).getD (j / m) [] = f (j / m) := by simp [List.getD, hqn]
        rw [hget] at hat
        have hcell := hc (j / m) hqn (j % m) v hr hat.symm
        rw [addr_add]
        rw [show off + j / m * m + j % m = off + j by omega] at hcell
        exact hcell
    simp [Builtin.copy_, run_underlying hu, Builtin.lenOf, sizeOf, typeInfo, hq, hi, hmin, hload]
    simpa using congrArg (fun r => r.andThen fun _ w' => Result.ok (goInt n) w') hst

/-- 'copy(dst, src)', dst a row of the call's own that begins at its block's head. -/
theorem wpList_copy_rows (hgd : o.guard = none) (d s : Operand) (dT sT : TypeId) (ho : o.op = .call { callee := .builtin .copy, args := #[d, s], argTypes := #[dT, sT] }) (e m : Nat)
    (hu : P.underlying dT = some (.slice e)) (hs : (P.info? e).map (·.size) = some m) (g : Nat) (ad : Option Addr) (hg : Hid (ad = some ⟨g, 0, none⟩)) (N cap n scap : Nat) (src : Option Addr)
    (hd : a.eval d = .slice ad N cap) (hsrc : a.eval s = .slice src n scap) (f : Nat → List Value) (rows : List (List Value)) (hown : Own w g e m rows) (hN : rows.length = N) (hn : n ≤ N) (hL : Lies w src n m f)
    (hf : ∀ i, i < n → (f i).length = m) (h1 : ∀ i, i < n → ∀ v, v ∈ f i → v.oneCell' = true)
    (h : ∀ w', Own w' g e m ((List.range n).map f ++ rows.drop n) → Upd g w w' → wpList P ops Q rest (a.put o.dst (goInt n)) w') : wpList P ops Q (o :: rest) a w := by
  have hg' := hg.out
  subst hg'
  obtain ⟨w', hrun, h2, h3⟩ := run_copy_rows (P := P) w dT sT o.type e g N cap n scap m src f rows hu hs hown hN hn hL hf h1
  refine wpList_plain hgd fun K hK => ?_
  unfold Oper.wp
  simp [execOp, ho, resolve, invoke, builtin, hd, hsrc, hrun, Result.andThen]
  exact hK _ _ (h w' h2 h3)

/-- 's[i] = T{..}' into a row of the call's own. -/
theorem wpList_store_rows (hgd : o.guard = none) (p v : Operand) (t : TypeId) (ho : o.op = .store t p v) (e m : Nat) (hs : (P.info? t).map (·.size) = some m) (g i : Nat) (ad : Addr) (had : ad = ⟨g, i * m, none⟩)
    (hp : a.eval p = .pointer (some ad)) (vs : List Value) (hv : a.eval v = .agg vs.toArray) (hm : vs.length = m) (h1 : ∀ x, x ∈ vs → x.oneCell' = true) (rows : List (List Value)) (hown : Own w g e m rows) (hi : i < rows.length)
    (h : ∀ w', Own w' g e m (rows.set i vs) → Upd g w w' → wpList P ops Q rest (a.put o.dst undef) w') : wpList P ops Q (o :: rest) a w := by
  subst had
  refine wpList_plain hgd fun K hK => ?_
  have hfit : i * m + 0 + vs.length ≤ rows.flatten.toArray.size := by
    simp only [List.size_toArray, hown.even.length, hm, Nat.add_zero]
    have : (i + 1) * m ≤ rows.length * m := Nat.mul_le_mul_right _ hi
    rw [Nat.add_mul] at this; omega
  have hst := run_storeCells_at P g (i * m) e vs 0 rows.flatten.toArray w hown.block hfit h1
  have e1 : i * m + 0 + vs.length = (i + 1) * m := by rw [hm, Nat.add_mul]; omega
  have hset : rows.set i vs = rows.take i ++ vs :: rows.drop (i + 1) := by
    rw [List.set_eq_take_append_cons_drop, if_pos hi]
  have e2 : rows.flatten.toArray.toList.take (i * m + 0) ++ vs ++ rows.flatten.toArray.toList.drop (i * m + 0 + vs.length) = (rows.set i vs).flatten := by
    rw [e1, Nat.add_zero, hset]
    simp only [hown.even.takeFlat i, hown.even.dropFlat (i + 1)]
    simp
  rw [e2] at hst
  cases hq : P.info? t with
  | none => simp [hq] at hs
  | some inf =>
    have hi' : inf.size = m := by simpa [hq] using hs
    unfold Oper.wp
    simp [execOp, ho, hp, hv, Instr.storeAt, Instr.sureAddr, storeVar, sizeOf, typeInfo, hq, hi', Value.cells, hm, hst, Result.andThen]
    exact hK _ _ (h _ ⟨hown.even.set i hm, setRow_heap w g _ _ e _ hown.block⟩ (Upd.setRow _ _ _))
end

theorem Own.idx {ad : Option Addr} {g : Nat} (had : Hid (ad = some ⟨g, 0, none⟩)) {P : Program} {t : TypeId} {m : Nat} (n cap : Nat)
    (ht : P.underlying t = some (.slice (P.elem t))) (hs : (P.info? (P.elem t)).map (·.size) = some m) {k : Nat} (hk : k < n) (N : Int) (hN : N = (k : Int)) (w' : World) :
    (Instr.indexAt t (.slice ad n cap) (.int .i64 N)).run P w' = .ok (.pointer (some ⟨g, k * m, none⟩)) w' := by
  subst hN
  rw [had.out]
  cases hq : P.info? (P.elem t) with
  | none => simp [hq] at hs
  | some i =>
    have hi : i.size = m := by simpa [hq] using hs
    rw [run_indexAt_slice w' t _ n cap .i64 (k : Int) ht, if_pos (by omega)]
    have hz : (sizeOf (P.elem t)).run P w' = .ok m w' := by simp [sizeOf, typeInfo, hq, hi]
    rw [hz]
    simp only [Result.andThen_ok, Int.toNat_natCast, addr_add, Nat.zero_add]
end Go.Proofs.Ytdjpkgaicmklmab

/- Bytes and strings: a row of bytes made into a string. -/
namespace Go.Proofs.Ytdjpkgaicmklmab
open Go.RowKit

/-- The bytes of numbers. -/
def byt (n : Int) : UInt8 := UInt8.ofNat n.toNat
def str (l : List UInt8) : ByteArray := ⟨l.toArray⟩

theorem str_append (a b : List UInt8) : str a ++ str b = str (a ++ b) := ByteArray.mk_append_mk a b
theorem str_size (a : List UInt8) : (str a).size = a.length := by simp [str, ByteArray.size]
theorem str_toList (a : List UInt8) : (str a).toList = a := by rw [ByteArray.toList_eq]; rfl
theorem str_data (s : ByteArray) : str s.data.toList = s := by cases s; simp [str]
theorem str_inj {a b : List UInt8} (h : str a = str b) : a = b := by
  have := congrArg (fun s : ByteArray => s.data.toList) h
  simpa [str] using this

theorem foldl_push (ns : List Int) : ∀ s : List UInt8, ns.foldl (fun r n => r.push (UInt8.ofNat n.toNat)) (str s) = str (s ++ ns.map byt) := by
  induction ns with
  | nil => intro s; simp
  | cons n ns ih =>
    intro s
    have e : (str s).push (UInt8.ofNat n.toNat) = str (s ++ [byt n]) := by
      simp [str, ByteArray.push, byt]
    simp only [List.foldl_cons, e, ih, List.map_cons]
    congr 1; simp

section
variable {P : Program} {w : World} {ops : Array Oper} {rest : List Oper} {o : Oper} {a : Act} {Q : Exit → Act → World → Prop}

theorem run_toString (w : World) (src dst e : TypeId) (ad : Addr) (len cap : Nat) (ns : List Int) (hs : P.underlying src = some (.slice e)) (he : P.underlying e = some (.int .u8)) (hd : P.underlying dst = some .string)
    (hl : ns.length = len) (hc : ∀ j v, (ns.map (Value.int .u8))[j]? = some v → w.cell? (ad.add j) = some v) :
    (convert src dst (.slice (some ad) len cap)).run P w = .ok (.string (str (ns.map byt))) w := by
  rw [run_convert_bytes_string w src dst e _ _ _ hs he hd]
  have hload : (loadCells ad len).run P w = .ok (ns.map (Value.int .u8)).toArray w := by
    have := run_loadCells_list (P := P) w ad (ns.map (Value.int .u8)) hc
    simpa [hl] using this
  rw [run_bytesToString w ad len cap ns hload]
  have := foldl_push ns []
  simp only [List.nil_append] at this
  rw [← this]; rfl

/-- 'string(b)'. -/
theorem wpList_toString (hgd : o.guard = none) (src dst e : TypeId) (x : Operand) (ho : o.op = .convert src dst x) (hs : P.underlying src = some (.slice e)) (he : P.underlying e = some (.int .u8)) (hd : P.underlying dst = some .string)
    (ad : Addr) (len cap : Nat) (hx : a.eval x = .slice (some ad) len cap) (ns : List Int) (hl : ns.length = len) (hc : ∀ j v, (ns.map (Value.int .u8))[j]? = some v → w.cell? (ad.add j) = some v)
    (h : wpList P ops Q rest (a.put o.dst (.string (str (ns.map byt)))) w) : wpList P ops Q (o :: rest) a w := by
  refine wpList_plain hgd fun K hK => ?_
  have hrun := run_toString (P := P) w src dst e ad len cap ns hs he hd hl hc
  unfold Oper.wp
  simp [execOp, ho, hx, hrun, Result.andThen]
  exact hK _ _ h
end
end Go.Proofs.Ytdjpkgaicmklmab

/- Lists that a call grows by append: what they hold, one element more, an element read or written. -/
namespace Go.Proofs.Ytdjpkgaicmklmab
open Go.RowKit

/-- The slice (ad, n, cap) is nil or lies in a block of the call's own, from block number B on; xs: its cells, m an element. -/
def Vec (w : World) (B e m : Nat) (ad : Option Addr) (n cap : Nat) (xs : List Value) : Prop := w.ownsRow B e m (.slice ad n cap) n xs

theorem Vec.nil (w : World) (B e m : Nat) : Vec w B e m none 0 0 [] := World.ownsRow_nil w B e m
theorem Vec.length {w : World} {B e m : Nat} {ad : Option Addr} {n cap : Nat} {xs : List Value} (h : Vec w B e m ad n cap xs) : xs.length = n * m := h.1
theorem Vec.keep {w w' : World} {B e m : Nat} {ad : Option Addr} {n cap : Nat} {xs : List Value} (h : Vec w B e m ad n cap xs) (hb : Below w.heap.size w w') : Vec w' B e m ad n cap xs := by
  refine ⟨h.1, ?_⟩
  rcases h.2 with h2 | ⟨g, c, cur, hv, hB, hg, r⟩
  · exact Or.inl h2
  · exact Or.inr ⟨g, c, cur, hv, hB, by rw [hb.block g (Array.getElem?_eq_some_iff.1 hg).1]; exact hg, r⟩
theorem Vec.mono {w : World} {B B' e m : Nat} {ad : Option Addr} {n cap : Nat} {xs : List Value} (h : Vec w B e m ad n cap xs) (hB : B' ≤ B) : Vec w B' e m ad n cap xs := by
  refine ⟨h.1, ?_⟩
  rcases h.2 with h2 | ⟨g, c, cur, hv, hb, r⟩
  · exact Or.inl h2
  · exact Or.inr ⟨g, c, cur, hv, Nat.le_trans hB hb, r⟩

/-- A list literal. -/
theorem Vec.lit (w : World) (B e m n : Nat) (xs : List Value) (hB : B ≤ w.heap.size) (hn : n < 9223372036854775807) (hx : xs.length = n * m) : Vec (w.alloc (.cells xs.toArray e)) B e m (some ⟨w.heap.size, 0, none⟩) n n xs :=
  World.ownsRow_lit w xs.toArray n hB (by unfold maxLen; omega) (by simpa using hx)

/-- Its place, if it has an element. -/
theorem Vec.form {w : World} {B e m : Nat} {ad : Option Addr} {n cap : Nat} {xs : List Value} (h : Vec w B e m ad n cap xs) (hn : 0 < n) : ∃ g, ad = some ⟨g, 0, none⟩ ∧ B ≤ g ∧ g < w.heap.size := by
  obtain ⟨g, c, hv, hb, hl⟩ := World.ownsRow.form h hn
  simp at hv
  exact ⟨g, hv.1, hb, hl⟩

/-- Element i: where it lies, what it holds; and the list behind a store into it (elements of one cell). -/
theorem Vec.at {w : World} {B e m : Nat} {ad : Option Addr} {n cap : Nat} {xs : List Value} (h : Vec w B e m ad n cap xs) {P : Program} {t : TypeId}
    (ht : P.underlying t = some (.slice (P.elem t))) (hs : (P.info? (P.elem t)).map (·.size) = some m) {i : Nat} (hi : i < n) (N : Int) (hN : N = (i : Int)) :
    ∃ b o, B ≤ b ∧ b < w.heap.size ∧ (∀ w', (Instr.indexAt t (.slice ad n cap) (.int .i64 N)).run P w' = .ok (.pointer (some ⟨b, o, none⟩)) w') ∧
      (∀ j, j < m → w.cell? ⟨b, o + j, none⟩ = xs[i * m + j]?) ∧ (∀ j, w.frozen? ⟨b, o + j, none⟩ = false) ∧
      (∀ j u, Vec (w.setCell ⟨b, o + j, none⟩ u) B e m ad n cap (xs.set (i * m + j) u)) := by
  obtain ⟨g, rfl, hB, hl⟩ := h.form (by omega)
  refine ⟨g, i * m, hB, hl, fun w' => Own.idx (had := rfl) n cap ht hs hi N hN w', fun j hj => ?_, fun j => ?_, fun j u => ?_⟩
  · refine World.ownsRow.cellAt h (i * m + j) ?_
    have : (i + 1) * m ≤ n * m := Nat.mul_le_mul_right _ hi
    rw [Nat.add_mul] at this; omega
  · exact World.ownsRow.frozenAt h _
  · exact (World.ownsRow.stored h (i * m + j) u).1

/-- Where a list lies its elements can be read. -/
theorem Vec.lies {w : World} {B e m : Nat} {ad : Option Addr} {n cap : Nat} {rows : List (List Value)} (h : Vec w B e m ad n cap rows.flatten) (hE : Even m rows) (hn : rows.length = n) (f : Nat → List Value) (hf : ∀ i, i < n → rows.getD i [] = f i) : Lies w ad n m f := by
  by_cases h0 : n = 0
  · exact Or.inl h0
  · obtain ⟨g, rfl, hB, hl⟩ := h.form (by omega)
    refine Or.inr ⟨g, 0, rfl, hl, fun i hi j v hj hv => ?_⟩
    rw [show 0 + i * m + j = i * m + j by omega]
    have hc : w.cell? ⟨g, i * m + j, none⟩ = rows.flatten[i * m + j]? := by
      refine World.ownsRow.cellAt h (i * m + j) ?_
      have : (i + 1) * m ≤ n * m := Nat.mul_le_mul_right _ hi
      rw [Nat.add_mul] at this; omega
    rw [hc, hE.at i j hj (by omega), hf i hi, hv]

section
variable {P : Program} {w : World} {ops : Array Oper} {rest : List Oper} {o : Oper} {a : Act} {Q : Exit → Act → World → Prop}

/-- 'l = append(l, x)': one element more. -/
theorem wpList_push (hgd : o.guard = none) (s x : Operand) (t : TypeId) (ho : o.op = .call { callee := .builtin .append, args := #[s, x], argTypes := #[t, t] })
    (B e m bytes : Nat) (z : Value) (ht : P.underlying t = some (.slice e)) (hinfo : (P.info? e).map (fun i => (i.zero, i.size, i.bytes)) = some (some z, m, bytes)) (hzs : z.cells.size = m) (hm : 0 < m)
    (ad : Option Addr) (n cap : Nat) (xs : List Value) (hs : a.eval s = .slice ad n cap) (hown : Vec w B e m ad n cap xs)
    (ad1 : Addr) (c : Nat) (row : List Value) (hx : a.eval x = .slice (some ad1) 1 c) (hl : row.length = m) (hnews : ∀ j u, row[j]? = some u → w.cell? (ad1.add j) = some u) (h1 : ∀ u, u ∈ row → u.oneCell' = true)
    (hbytes : (n + 1) * bytes ≤ 140737488355328) (hn : n < 9223372036854775807) (hB : B ≤ w.heap.size)
    (h : ∀ ad' cap' w', Vec w' B e m ad' (n + 1) cap' (xs ++ row) → Below B w w' → w.heap.size ≤ w'.heap.size → wpList P ops Q rest (a.put o.dst (.slice ad' (n + 1) cap')) w') : wpList P ops Q (o :: rest) a w := by
  obtain ⟨i, hi, hzz⟩ := Option.map_eq_some_iff.1 hinfo
  simp only [Prod.mk.injEq] at hzz
  obtain ⟨hz, hsz, hby⟩ := hzz
  refine wpList_append_lies w hgd s x t ho B e i z m bytes ht hi hz hsz hby hzs hm (.slice ad n cap) n xs hs hown ad1 1 c row hx (by rw [hl, Nat.one_mul]) hnews h1 (by omega) (by unfold maxLen; omega) hbytes hB w.heap.size rfl ?_
  intro g cap' w' ho' hgr _ _
  refine h (some ⟨g, 0, none⟩) cap' w' ho' ?_ hgr.size
  exact (Below.refl _ _).grown hgr hB (fun k hk => (World.ownsRow.lt hown k hk).1)

/-- 'string(b)' of such a list. -/
theorem wpList_toString_vec (hgd : o.guard = none) (src dst e : TypeId) (x : Operand) (ho : o.op = .convert src dst x) (hs : P.underlying src = some (.slice e)) (he : P.underlying e = some (.int .u8)) (hd : P.underlying dst = some .string)
    (B n cap : Nat) (ad : Option Addr) (hx : a.eval x = .slice ad n cap) (ns : List Int) (hown : Vec w B e 1 ad n cap (ns.map (Value.int .u8))) (hn : 0 < n)
    (h : wpList P ops Q rest (a.put o.dst (.string (str (ns.map byt)))) w) : wpList P ops Q (o :: rest) a w := by
  obtain ⟨g, rfl, _, _⟩ := hown.form hn
  refine wpList_toString hgd src dst e x ho hs he hd ⟨g, 0, none⟩ n cap hx ns (by have := hown.length; simpa using this) ?_ h
  exact World.ownsRow.cells hown rfl
end

/-- The cells of a block that has just been laid. -/
theorem new_cells (w : World) (cs : List Value) (t : TypeId) : ∀ j u, cs[j]? = some u → (w.alloc (.cells cs.toArray t)).cell? ((⟨w.heap.size, 0, none⟩ : Addr).add j) = some u := by
  intro j u h
  rw [addr_add, World.cell?_alloc_new]
  simpa using h
end Go.Proofs.Ytdjpkgaicmklmab

/- More of lists that a call grows: append of a whole list, parts of lists. -/
namespace Go.Proofs.Ytdjpkgaicmklmab
open Go.RowKit

section
variable {P : Program} {w : World} {ops : Array Oper} {rest : List Oper} {o : Oper} {a : Act} {Q : Exit → Act → World → Prop}

theorem Lies.news {w : World} {ad : Addr} {n m : Nat} {f : Nat → List Value} (hL : Lies w (some ad) n m f) (hf : ∀ i, i < n → (f i).length = m) :
    ∀ j u, ((List.range n).map f).flatten[j]? = some u → w.cell? (ad.add j) = some u := by
  have hE : Even m ((List.range n).map f) := Even.range n hf
  have hEl : ((List.range n).map f).flatten.length = n * m := by rw [hE.length]; simp
  intro j v hj
  have hjl : j < n * m := by
    rcases Nat.lt_or_ge j (n * m) with h | h
    · exact h
    · rw [List.getElem?_eq_none (by omega)] at hj; cases hj
  rcases hL with h0 | ⟨b, off, had, _, hc⟩
  · subst h0; simp at hjl
  · simp at had
    subst had
    have h0 : 0 < m := by rcases Nat.eq_zero_or_pos m with h | h; (subst h; simp at hjl); exact h
    have hk2 : j = j / m * m + j % m := by rw [Nat.mul_comm]; exact (Nat.div_add_mod j m).symm
    have hqn : j / m < n := Nat.div_lt_of_lt_mul (by rw [Nat.mul_comm]; exact hjl)
    have hr : j % m < m := Nat.mod_lt _ h0
    have hat := hE.at (j / m) (j % m) hr (by simpa using hqn)
    rw [← hk2, hj] at hat
    have hget : ((List.range n).map f).getD (j / m) [] = f (j / m) := by simp [List.getD, hqn]
    rw [hget] at hat
    have hcell := hc (j / m) hqn (j % m) v hr hat.symm
    rw [addr_add]
    rw [show off + j / m * m + j % m = off + j by omega] at hcell
    exact hcell

/-- 'l = append(l, x...)'. -/
theorem wpList_pushAll (hgd : o.guard = none) (s x : Operand) (t : TypeId) (ho : o.op = .call { callee := .builtin .append, args := #[s, x], argTypes := #[t, t] })
    (B e m bytes : Nat) (z : Value) (ht : P.underlying t = some (.slice e)) (hinfo : (P.info? e).map (fun i => (i.zero, i.size, i.bytes)) = some (some z, m, bytes)) (hzs : z.cells.size = m) (hm : 0 < m)
    (ad : Option Addr) (n cap : Nat) (xs : List Value) (hs : a.eval s = .slice ad n cap) (hown : Vec w B e m ad n cap xs)
    (sa : Option Addr) (k c : Nat) (f : Nat → List Value) (hx : a.eval x = .slice sa k c) (hL : Lies w sa k m f) (hf : ∀ i, i < k → (f i).length = m) (h1 : ∀ i, i < k → ∀ u, u ∈ f i → u.oneCell' = true)
    (hbytes : (n + k) * bytes ≤ 140737488355328) (hn : n + k < 9223372036854775807) (hB : B ≤ w.heap.size) (N : Nat) (hN : n + k = N)
    (h : ∀ ad' cap' w', Vec w' B e m ad' N cap' (xs ++ ((List.range k).map f).flatten) → Below B w w' → w.heap.size ≤ w'.heap.size → wpList P ops Q rest (a.put o.dst (.slice ad' N cap')) w') : wpList P ops Q (o :: rest) a w := by
  subst hN
  obtain ⟨i, hi, hzz⟩ := Option.map_eq_some_iff.1 hinfo
  simp only [Prod.mk.injEq] at hzz
  obtain ⟨hz, hsz, hby⟩ := hzz
  cases sa with
  | none =>
    have hk : k = 0 := by
      rcases hL with h | ⟨b, off, he, _⟩
      · exact h
      · cases he
    subst hk
    refine wpList_plain hgd fun K hK => ?_
    have hrun : (Builtin.append_ #[t, t] o.type #[.slice ad n cap, .slice none 0 c]).run P w = .ok (.slice ad n cap) w := by
      rcases hown.2 with ⟨hh, rfl⟩ | ⟨g, cap, cur, hh, _, _, hnc, _⟩
      · rw [hh]; simp [Builtin.append_, run_underlying ht, sizeOf, typeInfo, hi, Builtin.lenOf, Builtin.firstCells]
      · rw [hh]; simp [Builtin.append_, run_underlying ht, sizeOf, typeInfo, hi, Builtin.lenOf, Builtin.firstCells, hnc, storeCells]
    unfold Oper.wp
    simp [execOp, ho, resolve, invoke, builtin, hs, hx, hrun, Result.andThen]
    refine hK _ _ (h ad cap w (by simpa using hown) (Below.refl _ _) (Nat.le_refl _))
  | some ad1 =>
    have hE : Even m ((List.range k).map f) := Even.range k hf
    refine wpList_append_own w hgd s x t ho B e i z m bytes ht hi hz hsz hby hzs hm (.slice ad n cap) n xs hs hown ad1 k c ((List.range k).map f).flatten hx (by rw [hE.length]; simp) (hL.news hf) (by
        intro v hv
        obtain ⟨r, hr, hv⟩ := List.mem_flatten.1 hv
        exact Ones.range k h1 r hr v hv) (by unfold maxLen; omega) hbytes hB ?_
    intro v' w' ho' hgr _
    have hbw : Below B w w' := (Below.refl _ _).grown hgr hB (fun k hk => (World.ownsRow.lt hown k hk).1)
    rcases ho'.2 with ⟨hh, hz0⟩ | ⟨g, cap', cur, hh, hrest⟩
    · have hv : v' = .slice none (n + k) 0 := by rw [hh, hz0]
      rw [hv] at ho' ⊢
      exact h none 0 w' ho' hbw hgr.size
    · rw [hh] at ho' ⊢
      exact h _ cap' w' ho' hbw hgr.size

end

/-- 'l[a:]': it lies behind. -/
theorem Lies.drop {w : World} {ad : Option Addr} {n m : Nat} {f : Nat → List Value} (h : Lies w ad n m f) (cap k : Nat) (hc : n ≤ cap) : Lies w (if cap = k then ad else ad.map (·.add (k * m))) (n - k) m (fun i => f (k + i)) := by
  rcases Nat.lt_or_ge k n with hk | hk
  · rcases h with h | ⟨b, off, rfl, hb, hcell⟩
    · omega
    · rw [if_neg (by omega)]
      refine Or.inr ⟨b, off + k * m, by simp [addr_add], hb, fun i hi j v hj hv => ?_⟩
      have := hcell (k + i) (by omega) j v hj hv
      rw [show off + k * m + i * m + j = off + (k + i) * m + j by rw [Nat.add_mul]; omega]
      exact this
  · exact Or.inl (by omega)
theorem Lies.drop' {w : World} {ad : Option Addr} {n m : Nat} {f : Nat → List Value} (h : Lies w ad n m f) (cap k : Nat) (hc : n ≤ cap) (hk : k < cap) : Lies w (ad.map (·.add (k * m))) (n - k) m (fun i => f (k + i)) := by
  have := h.drop cap k hc
  rwa [if_neg (by omega)] at this
theorem Lies.take {w : World} {ad : Option Addr} {n m : Nat} {f : Nat → List Value} (h : Lies w ad n m f) (k : Nat) (hk : k ≤ n) : Lies w ad k m f := by
  rcases h with h | ⟨b, off, had, hb, hcell⟩
  · exact Or.inl (by omega)
  · exact Or.inr ⟨b, off, had, hb, fun i hi => hcell i (by omega)⟩
theorem Vec.cap_le {w : World} {B e m : Nat} {ad : Option Addr} {n cap : Nat} {xs : List Value} (h : Vec w B e m ad n cap xs) : n ≤ cap := by
  rcases h.2 with ⟨h2, rfl⟩ | ⟨g, c, cur, hv, hB, hg, hnc, r⟩
  · omega
  · simp at hv; rw [hv.2]; exact hnc

end Go.Proofs.Ytdjpkgaicmklmab

/- replicas.SameStamp and sound.clashing, walked. -/
namespace Go.Proofs.Ytdjpkgaicmklmab
open Go.RowKit

abbrev cdV (x : Cd) : Value := .agg #[.int .i64 x.id, .int .i64 x.site, .int .i64 x.count, .bool x.gone, .string x.text]

set_option maxHeartbeats 1000000 in
theorem sameStamp_any (x y : Cd) (w : World) :
    Calls Try.prog 62 #[cdV x, cdV y] w fun e w' => e = .returned (.bool (stampB x y)) ∧ Below w.heap.size w w' := by
  go_enter Try.func62, Try.ntmps62
  go_wp2
  all_goals (go_ret; refine ⟨ret_bool ?_, ((Below.refl _ _).alloc (Nat.le_refl _) _).alloc (by simp) _⟩; unfold stampB; simp [*])

set_option maxHeartbeats 2000000 in
theorem clashing_any (a : Option Addr) (n cap : Nat) (d : Nat → Cd) (w : World) (hn : n ≤ 140737488355328) (hL : Lies w a n 5 (fun i => (d i).cells)) :
    Calls Try.prog 46 #[.slice a n cap] w fun e w' => e = .returned (.bool (anyTo (fun i => anyTo (fun k => stampB (d i) (d k)) i) n)) ∧ Below w.heap.size w w' := by
  go_enter Try.func46, Try.ntmps46
  go_wp2
  go_loopw [3, 4] (fun i _ wr => ∃ k : Nat, k ≤ n - 1 ∧ i = .int .i64 ((k : Int) + 1) ∧ (k < n → anyTo (fun i => anyTo (fun k => stampB (d i) (d k)) i) (k + 1) = false) ∧ Below w.heap.size w wr) (fun i _ _ => n - (intOf i).toNat)
  case atStart => exact ⟨0, Nat.zero_le _, rfl, fun _ => rfl, Below.refl _ _⟩
  case round =>
    obtain ⟨k, hk, rfl, hno, hb⟩ := hrel
    have HN : Hid (k < n → anyTo (fun i => anyTo (fun k => stampB (d i) (d k)) i) (k + 1) = false) := hno
    clear hno
    by_cases hlt : k + 1 < n
    · have hd1 : decide ((k : Int) + 1 < (n : Int)) = true := by simp; omega
      go_wp2
      go_loopw [4] (fun i wr => ∃ j : Nat, j ≤ k + 1 ∧ i = .int .i64 j ∧ anyTo (fun i => stampB (d (k + 1)) (d i)) j = false ∧ Below w.heap.size w wr) (fun i _ => k + 1 - (intOf i).toNat)
      case atStart => exact ⟨0, Nat.zero_le _, rfl, rfl, hb⟩
      case round =>
        clear hb
        obtain ⟨j, hj, rfl, hno, hb⟩ := hrel
        have HM : Hid (anyTo (fun i => stampB (d (k + 1)) (d i)) j = false) := hno
        clear hno
        by_cases hjt : j < k + 1
        · obtain ⟨b, o, hbl, hix, c1, c2, c3, c4, c5⟩ := (hL.below hb).card cap hlt
          obtain ⟨b', o', hbl', hix', c1', c2', c3', c4', c5'⟩ := (hL.below hb).card cap (show j < n by omega)
          rw [show ((k + 1 : Nat) : Int) = (k : Int) + 1 from by omega] at hix
          go_wp2
          go_region_held3 (fun w' => w'.cell? ⟨b, o, none⟩ = some (.int .i64 (d (k + 1)).id) ∧ w'.cell? ⟨b, o + 1, none⟩ = some (.int .i64 (d (k + 1)).site) ∧ w'.cell? ⟨b, o + 2, none⟩ = some (.int .i64 (d (k + 1)).count) ∧ w'.cell? ⟨b, o + 3, none⟩ = some (.bool (d (k + 1)).gone) ∧ w'.cell? ⟨b, o + 4, none⟩ = some (.string (d (k + 1)).text) ∧
             w'.cell? ⟨b', o', none⟩ = some (.int .i64 (d j).id) ∧ w'.cell? ⟨b', o' + 1, none⟩ = some (.int .i64 (d j).site) ∧ w'.cell? ⟨b', o' + 2, none⟩ = some (.int .i64 (d j).count) ∧ w'.cell? ⟨b', o' + 3, none⟩ = some (.bool (d j).gone) ∧ w'.cell? ⟨b', o' + 4, none⟩ = some (.string (d j).text)) (first | (go_keep; done) | (simp only [hcc b _ hbl, hcc b' _ hbl']; go_keep; done))
             (first | (go_at_call 62; refine (sameStamp_any (d (k + 1)) (d j) _).mono ?_; rintro e w' ⟨rfl, hb2⟩; obtain ⟨hcc, hff⟩ := bcell hb2))
          all_goals go_wp2
          · have hp : stampB (d (k + 1)) (d j) = true := by assumption
            go_ret
            refine ⟨ret_bool ?_, hb.trans ((below_drewN (Below.refl _ wr) 1).mono (Nat.le_refl _) |>.trans (hb2.mono hb.size))⟩
            exact (anyTo_hit (p := fun i => anyTo (fun k => stampB (d i) (d k)) i) hlt (anyTo_hit (p := fun i => stampB (d (k + 1)) (d i)) hjt hp)).symm
          · have hp : stampB (d (k + 1)) (d j) = false := by assumption
            go_roundw
            case rel => exact ⟨j + 1, by omega, by go_num, anyTo_no (p := fun i => stampB (d (k + 1)) (d i)) HM.out hp, hb.trans ((below_drewN (Below.refl _ wr) 1).mono (Nat.le_refl _) |>.trans (hb2.mono hb.size))⟩
            case measure => simp [intOf]; omega
        · have e1 : j = k + 1 := by omega
          have N1 : Hid (anyTo (fun i => stampB (d (k + 1)) (d i)) (k + 1) = false) := e1 ▸ HM.out
          clear HM e1
          go_wp2
          go_roundw
          case rel => exact ⟨k + 1, by omega, by go_num, fun _ => anyTo_no (p := fun i => anyTo (fun k => stampB (d i) (d k)) i) (HN.out (by omega)) N1.out, hb⟩
          case measure => simp [intOf]; omega
    · have N1 : Hid (anyTo (fun i => anyTo (fun k => stampB (d i) (d k)) i) n = false) := by
        by_cases h0 : n = 0
        · subst h0; rfl
        · have e1 : k + 1 = n := by omega
          exact e1 ▸ HN.out (by omega)
      clear HN
      go_wp2
      go_ret
      exact ⟨ret_bool N1.out.symm, hb⟩
end Go.Proofs.Ytdjpkgaicmklmab

/- The small functions of package parcelkeep, walked. -/
namespace Go.Proofs.Ytdjpkgaicmklmab
open Go.RowKit

/-- An int as it may be. -/
def I64 (n : Int) : Prop := -9223372036854775808 ≤ n ∧ n ≤ 9223372036854775807

/-- Which of n things. -/
def pickI (c n : Int) : Int := (if c < 0 then -(c + 1) else c) % n
theorem pickI_lt (c n : Int) (h : 0 < n) : 0 ≤ pickI c n ∧ pickI c n < n := ⟨Int.emod_nonneg _ (by omega), Int.emod_lt_of_pos _ h⟩

set_option maxHeartbeats 1000000 in
theorem pick_any (c n : Int) (w : World) (hc : I64 c) (hn : 0 < n) (hn2 : n ≤ 9223372036854775807) :
    Calls Try.prog 19 #[.int .i64 c, .int .i64 n] w fun e w' => e = .returned (.int .i64 (pickI c n)) ∧ w' = w := by
  obtain ⟨c1, c2⟩ := hc
  have hz : (n == 0) = false := by simp; omega
  by_cases h : c < 0
  · have E : Hid (pickI c n = (-(c + 1)) % n) := by show _ = _; unfold pickI; rw [if_pos h]
    go_enter Try.func19, Try.ntmps19
    go_wp2
    go_ret
    refine ⟨ret_int ?_, rfl⟩
    rw [E.out, ← Int.neg_tmod, Int.tmod_eq_emod_of_nonneg (by omega)]
  · have E : Hid (pickI c n = c % n) := by show _ = _; unfold pickI; rw [if_neg h]
    go_enter Try.func19, Try.ntmps19
    go_wp2
    go_ret
    exact ⟨ret_int E.out.symm, rfl⟩

/-- A list of ints in memory. -/
abbrev iCells (f : Nat → Int) : Nat → List Value := fun i => [.int .i64 (f i)]
theorem Lies.int {w : World} {a : Option Addr} {n : Nat} {f : Nat → Int} (h : Lies w a n 1 (iCells f)) (cap : Nat) {k : Nat} (hk : k < n) (N : Int) (hN : N = (k : Int)) :
    ∃ b o, b < w.heap.size ∧ (∀ w', (Instr.indexAt 23 (.slice a n cap) (.int .i64 N)).run Try.prog w' = .ok (.pointer (some ⟨b, o, none⟩)) w') ∧ w.cell? ⟨b, o, none⟩ = some (.int .i64 (f k)) := by
  subst hN
  obtain ⟨b, o, hb, hi, hc⟩ := h.at cap (P := Try.prog) (t := 23) (by kernel_rfl) (by kernel_rfl) hk
  exact ⟨b, o, hb, hi, hc 0 _ (by omega) rfl⟩

/-- How many writes are seen. -/
def seenI (n : Nat) (f : Nat → Int) (k : Nat) : Int := if k < n then pickI (f k) 60 else 0

set_option maxHeartbeats 1000000 in
theorem seen_any (a : Option Addr) (n cap : Nat) (f : Nat → Int) (k : Nat) (w : World) (hL : Lies w a n 1 (iCells f)) (hf : ∀ i, i < n → I64 (f i)) :
    Calls Try.prog 26 #[.slice a n cap, .int .i64 (k : Int)] w fun e w' => e = .returned (.int .i64 (seenI n f k)) ∧ w' = w := by
  by_cases h : k < n
  · have E : Hid (seenI n f k = pickI (f k) 60) := by show _ = _; unfold seenI; rw [if_pos h]
    have hw := hf k h
    obtain ⟨b, o, hb, hix, hc⟩ := hL.int cap h (k : Int) rfl
    go_enter Try.func26, Try.ntmps26
    go_wp2_with fail
    refine (pick_any _ 60 _ hw (by decide) (by decide)).mono ?_
    rintro e w' ⟨rfl, rfl⟩
    go_wp2_with fail
    go_ret
    exact ⟨ret_int E.out.symm, rfl⟩
  · have E : Hid (seenI n f k = 0) := by show _ = _; unfold seenI; rw [if_neg h]
    go_enter Try.func26, Try.ntmps26
    go_wp2_with fail
    go_ret
    exact ⟨ret_int E.out.symm, rfl⟩

/-- The twelve cards' numbers, the eight sites'. -/
def numL : List Int := [1, 2, 3, 4, 5, 6, 127, 128, 16384, 1099511627776, 4611686018427387903, 4611686018427387904]
def siteL : List Int := [1, 2, 3, 20, 30, 40, 127, 200]
def numOf (k : Int) : Int := numL.getD (pickI k 12).toNat 0
def siteOf (k : Int) : Int := siteL.getD (pickI k 8).toNat 0

/-- The lists that number and site make. -/
def numO : Obj := .cells #[Value.int .i64 1, .int .i64 2, .int .i64 3, .int .i64 4, .int .i64 5, .int .i64 6, .int .i64 127, .int .i64 128, .int .i64 16384, .int .i64 1099511627776, .int .i64 4611686018427387903, .int .i64 4611686018427387904] 3
def siteO : Obj := .cells #[Value.int .i64 1, .int .i64 2, .int .i64 3, .int .i64 20, .int .i64 30, .int .i64 40, .int .i64 127, .int .i64 200] 3

set_option maxRecDepth 100000 in
set_option maxHeartbeats 2000000 in
theorem number_keep (k : Int) (w : World) (hk : I64 k) :
    Calls Try.prog 27 #[.int .i64 k] w fun e w' => e = .returned (.int .i64 (numOf k)) ∧ w' = w.alloc numO := by
  obtain ⟨q0, q1⟩ := pickI_lt k 12 (by decide)
  obtain ⟨p, hp⟩ : ∃ p : Nat, pickI k 12 = (p : Int) := ⟨(pickI k 12).toNat, by omega⟩
  have hp12 : p < 12 := by omega
  have E : Hid (numOf k = numL.getD p 0) := by show _ = _; unfold numOf; rw [hp]; rfl
  have hc : ∀ j, j < 12 → (#[Value.int .i64 1, .int .i64 2, .int .i64 3, .int .i64 4, .int .i64 5, .int .i64 6, .int .i64 127, .int .i64 128, .int .i64 16384, .int .i64 1099511627776, .int .i64 4611686018427387903, .int .i64 4611686018427387904] : Array Value)[j]? = some (.int .i64 (numL.getD j 0)) := by
    intro j hj
    have : j = 0 ∨ j = 1 ∨ j = 2 ∨ j = 3 ∨ j = 4 ∨ j = 5 ∨ j = 6 ∨ j = 7 ∨ j = 8 ∨ j = 9 ∨ j = 10 ∨ j = 11 := by omega
    rcases this with rfl | rfl | rfl | rfl | rfl | rfl | rfl | rfl | rfl | rfl | rfl | rfl <;> rfl
  have hcp := hc p hp12
  have hcell : (w.alloc (.cells #[Value.int .i64 1, .int .i64 2, .int .i64 3, .int .i64 4, .int .i64 5, .int .i64 6, .int .i64 127, .int .i64 128, .int .i64 16384, .int .i64 1099511627776, .int .i64 4611686018427387903, .int .i64 4611686018427387904] 3)).cell? ⟨w.heap.size, p, none⟩ = some (.int .i64 (numL.getD p 0)) := by
    rw [World.cell?_alloc_new]; exact hcp
  generalize numL.getD p 0 = R at *
  clear hc hcp
  go_enter Try.func27, Try.ntmps27
  go_wp2_with fail
  refine (pick_any k 12 _ hk (by decide) (by decide)).mono ?_
  rintro e w' ⟨rfl, rfl⟩
  rw [hp]
  clear hp
  go_wp2_with fail
  go_ret
  exact ⟨ret_int E.out.symm, rfl⟩

set_option maxRecDepth 100000 in
set_option maxHeartbeats 2000000 in
theorem site_keep (k : Int) (w : World) (hk : I64 k) :
    Calls Try.prog 28 #[.int .i64 k] w fun e w' => e = .returned (.int .i64 (siteOf k)) ∧ w' = w.alloc siteO := by
  obtain ⟨q0, q1⟩ := pickI_lt k 8 (by decide)
  obtain ⟨p, hp⟩ : ∃ p : Nat, pickI k 8 = (p : Int) := ⟨(pickI k 8).toNat, by omega⟩
  have hp12 : p < 8 := by omega
  have E : Hid (siteOf k = siteL.getD p 0) := by show _ = _; unfold siteOf; rw [hp]; rfl
  have hc : ∀ j, j < 8 → (#[Value.int .i64 1, .int .i64 2, .int .i64 3, .int .i64 20, .int .i64 30, .int .i64 40, .int .i64 127, .int .i64 200] : Array Value)[j]? = some (.int .i64 (siteL.getD j 0)) := by
    intro j hj
    have : j = 0 ∨ j = 1 ∨ j = 2 ∨ j = 3 ∨ j = 4 ∨ j = 5 ∨ j = 6 ∨ j = 7 := by omega
    rcases this with rfl | rfl | rfl | rfl | rfl | rfl | rfl | rfl <;> rfl
  have hcp := hc p hp12
  have hcell : (w.alloc (.cells #[Value.int .i64 1, .int .i64 2, .int .i64 3, .int .i64 20, .int .i64 30, .int .i64 40, .int .i64 127, .int .i64 200] 3)).cell? ⟨w.heap.size, p, none⟩ = some (.int .i64 (siteL.getD p 0)) := by
    rw [World.cell?_alloc_new]; exact hcp
  generalize siteL.getD p 0 = R at *
  clear hc hcp
  go_enter Try.func28, Try.ntmps28
  go_wp2_with fail
  refine (pick_any k 8 _ hk (by decide) (by decide)).mono ?_
  rintro e w' ⟨rfl, rfl⟩
  rw [hp]
  clear hp
  go_wp2_with fail
  go_ret
  exact ⟨ret_int E.out.symm, rfl⟩

/-- The first bytes of a text. -/
def cutB (t : ByteArray) : ByteArray := if 60 < t.size then t.extract 0 60 else t
theorem cutB_size (t : ByteArray) : (cutB t).size ≤ 60 := by
  unfold cutB; split
  · rw [ByteArray.size_extract]; omega
  · omega

set_option maxHeartbeats 1000000 in
theorem cut_any (t : ByteArray) (w : World) :
    Calls Try.prog 29 #[.string t] w fun e w' => e = .returned (.string (cutB t)) ∧ w' = w := by
  by_cases h : 60 < t.size
  · have E : Hid (cutB t = t.extract 0 60) := by show _ = _; unfold cutB; rw [if_pos h]
    have h2 : (60 : Int) < (t.size : Int) := by omega
    have h3 : (60 : Int) ≤ (t.size : Int) := by omega
    go_enter Try.func29, Try.ntmps29
    go_wp2
    go_ret
    exact ⟨by rw [E.out]; rfl, rfl⟩
  · have E : Hid (cutB t = t) := by show _ = _; unfold cutB; rw [if_neg h]
    go_enter Try.func29, Try.ntmps29
    go_wp2
    go_ret
    exact ⟨by rw [E.out]; rfl, rfl⟩

set_option maxHeartbeats 1000000 in
theorem first_any (a : Option Addr) (n cap : Nat) (w : World) (hc : n ≤ cap) :
    Calls Try.prog 25 #[.slice a n cap] w fun e w' => e = .returned (.slice a (min n 40) cap) ∧ w' = w := by
  by_cases h : 40 < n
  · have E : Hid (min n 40 = 40) := by show _ = _; omega
    have h3 : (40 : Int) ≤ (cap : Int) := by omega
    go_enter Try.func25, Try.ntmps25
    go_wp2
    go_ret
    exact ⟨by rw [E.out]; rfl, rfl⟩
  · have E : Hid (min n 40 = n) := by show _ = _; omega
    go_enter Try.func25, Try.ntmps25
    go_wp2
    go_ret
    exact ⟨by rw [E.out]; rfl, rfl⟩

def laterB (x y : Cd) : Bool := decide (y.count < x.count) || (x.count == y.count && decide (y.site < x.site))

set_option maxHeartbeats 2000000 in
theorem later_any (x y : Cd) (w : World) :
    Calls Try.prog 41 #[cdV x, cdV y] w fun e w' => e = .returned (.bool (laterB x y)) ∧ Below w.heap.size w w' := by
  go_enter Try.func41, Try.ntmps41
  go_wp2
  all_goals (go_ret; refine ⟨ret_bool ?_, ((Below.refl _ _).alloc (Nat.le_refl _) _).alloc (by simp) _⟩; unfold laterB; rw [Bool.eq_iff_iff]; simp; try omega)
end Go.Proofs.Ytdjpkgaicmklmab

/- What the frames of the claims share: arguments opened one by one. -/
namespace Go.Proofs.Ytdjpkgaicmklmab
open Go.ChangeShapes Go.WideShapes Go.ChangeAt Go.RowKit

theorem Try.own : ownKnob Try.prog.godebug = none := by kernel_rfl
theorem Try.laidOut : laidOutB Try.prog = true := by kernel_rfl
theorem size_le {s : ByteArray} (h : s.size ≤ maxLen) : s.data.toList.length ≤ 9223372036854775807 := h

section
variable {H : Type} {enc : TypeId × Value → H} {w : World} {base : Nat} {spare : Nat → Bool} {held : Bool} {P : Program}
theorem lit_i64 {n : Int} (h : (Lit.int .i64 n).wf = true) : I64 n := by
  simp [Lit.wf] at h
  exact h
set_option maxRecDepth 100000 in
theorem open_num {v : Value} {d : DataW H} {p : List MemPlace} (hok : Value.okWide Try.prog w .any base 3 v) (h : DataW.Trod enc Try.prog w 0 (fun _ => true) held 3 v d p) : ∃ n : Int, v = .int .i64 n ∧ I64 n := by
  obtain ⟨n, rfl⟩ := okWide_int Try.underlying3 hok
  obtain ⟨fuel, hh⟩ := h
  obtain ⟨m, e0, _, w0⟩ := DataW.trod_int Try.underlying3 hh
  simp [Value.cells] at e0
  subst e0
  exact ⟨_, rfl, lit_i64 w0⟩
theorem trod4 {t0 t1 t2 t3 : TypeId} {args : Array Value} {ds : List (DataW H)} {ps : List MemPlace} (h : DataW.TrodAll enc P w base spare held [t0, t1, t2, t3] args.toList ds ps) :
    ∃ v0 v1 v2 v3 d0 d1 d2 d3 p0 p1 p2 p3, args = #[v0, v1, v2, v3] ∧ ds = [d0, d1, d2, d3] ∧ ps = p0 ++ (p1 ++ (p2 ++ p3)) ∧ DataW.Trod enc P w base spare held t0 v0 d0 p0 ∧ DataW.Trod enc P w base spare held t1 v1 d1 p1 ∧ DataW.Trod enc P w base spare held t2 v2 d2 p2 ∧ DataW.Trod enc P w base spare held t3 v3 d3 p3 := by
  obtain ⟨v0, vs0, d0, ds0, p0, q0, hargs, rfl, rfl, hd0, r0⟩ := trodAll_cons h
  obtain ⟨v1, vs1, d1, ds1, p1, q1, rfl, rfl, rfl, hd1, r1⟩ := trodAll_cons r0
  obtain ⟨v2, vs2, d2, ds2, p2, q2, rfl, rfl, rfl, hd2, r2⟩ := trodAll_cons r1
  obtain ⟨v3, vs3, d3, ds3, p3, q3, rfl, rfl, rfl, hd3, r3⟩ := trodAll_cons r2
  obtain ⟨rfl, rfl, rfl⟩ := trodAll_nil r3
  exact ⟨v0, v1, v2, v3, d0, d1, d2, d3, p0, p1, p2, p3, by cases args; simp_all, rfl, by simp, hd0, hd1, hd2, hd3⟩
theorem trod5 {t0 t1 t2 t3 t4 : TypeId} {args : Array Value} {ds : List (DataW H)} {ps : List MemPlace} (h : DataW.TrodAll enc P w base spare held [t0, t1, t2, t3, t4] args.toList ds ps) :
    ∃ v0 v1 v2 v3 v4 d0 d1 d2 d3 d4 p0 p1 p2 p3 p4, args = #[v0, v1, v2, v3, v4] ∧ ds = [d0, d1, d2, d3, d4] ∧ ps = p0 ++ (p1 ++ (p2 ++ (p3 ++ p4))) ∧ DataW.Trod enc P w base spare held t0 v0 d0 p0 ∧ DataW.Trod enc P w base spare held t1 v1 d1 p1 ∧ DataW.Trod enc P w base spare held t2 v2 d2 p2 ∧ DataW.Trod enc P w base spare held t3 v3 d3 p3 ∧ DataW.Trod enc P w base spare held t4 v4 d4 p4 := by
  obtain ⟨v0, vs0, d0, ds0, p0, q0, hargs, rfl, rfl, hd0, r0⟩ := trodAll_cons h
  obtain ⟨v1, vs1, d1, ds1, p1, q1, rfl, rfl, rfl, hd1, r1⟩ := trodAll_cons r0
  obtain ⟨v2, vs2, d2, ds2, p2, q2, rfl, rfl, rfl, hd2, r2⟩ := trodAll_cons r1
  obtain ⟨v3, vs3, d3, ds3, p3, q3, rfl, rfl, rfl, hd3, r3⟩ := trodAll_cons r2
  obtain ⟨v4, vs4, d4, ds4, p4, q4, rfl, rfl, rfl, hd4, r4⟩ := trodAll_cons r3
  obtain ⟨rfl, rfl, rfl⟩ := trodAll_nil r4
  exact ⟨v0, v1, v2, v3, v4, d0, d1, d2, d3, d4, p0, p1, p2, p3, p4, by cases args; simp_all, rfl, by simp, hd0, hd1, hd2, hd3, hd4⟩
theorem mk5 {t0 t1 t2 t3 t4 : TypeId} {v0 v1 v2 v3 v4 : Value} {d0 d1 d2 d3 d4 : DataW H} {p0 p1 p2 p3 p4 : List MemPlace} (h0 : DataW.Trod enc P w base spare held t0 v0 d0 p0) (h1 : DataW.Trod enc P w base spare held t1 v1 d1 p1) (h2 : DataW.Trod enc P w base spare held t2 v2 d2 p2)
    (h3 : DataW.Trod enc P w base spare held t3 v3 d3 p3) (h4 : DataW.Trod enc P w base spare held t4 v4 d4 p4) : DataW.TrodAll enc P w base spare held [t0, t1, t2, t3, t4] [v0, v1, v2, v3, v4] [d0, d1, d2, d3, d4] (p0 ++ (p1 ++ (p2 ++ (p3 ++ p4)))) :=
  ⟨p0, _, h0, trodAll_mk4 h1 h2 h3 h4, rfl⟩
theorem trod7 {t0 t1 t2 t3 t4 t5 t6 : TypeId} {args : Array Value} {ds : List (DataW H)} {ps : List MemPlace} (h : DataW.TrodAll enc P w base spare held [t0, t1, t2, t3, t4, t5, t6] args.toList ds ps) :
    ∃ v0 v1 v2 v3 v4 v5 v6 d0 d1 d2 d3 d4 d5 d6 p0 p1 p2 p3 p4 p5 p6, args = #[v0, v1, v2, v3, v4, v5, v6] ∧ ds = [d0, d1, d2, d3, d4, d5, d6] ∧ ps = p0 ++ (p1 ++ (p2 ++ (p3 ++ (p4 ++ (p5 ++ p6))))) ∧ DataW.Trod enc P w base spare held t0 v0 d0 p0 ∧ DataW.Trod enc P w base spare held t1 v1 d1 p1 ∧ DataW.Trod enc P w base spare held t2 v2 d2 p2 ∧ DataW.Trod enc P w base spare held t3 v3 d3 p3 ∧ DataW.Trod enc P w base spare held t4 v4 d4 p4 ∧ DataW.Trod enc P w base spare held t5 v5 d5 p5 ∧ DataW.Trod enc P w base spare held t6 v6 d6 p6 := by
  obtain ⟨v0, vs0, d0, ds0, p0, q0, hargs, rfl, rfl, hd0, r0⟩ := trodAll_cons h
  obtain ⟨v1, vs1, d1, ds1, p1, q1, rfl, rfl, rfl, hd1, r1⟩ := trodAll_cons r0
  obtain ⟨v2, vs2, d2, ds2, p2, q2, rfl, rfl, rfl, hd2, r2⟩ := trodAll_cons r1
  obtain ⟨v3, vs3, d3, ds3, p3, q3, rfl, rfl, rfl, hd3, r3⟩ := trodAll_cons r2
  obtain ⟨v4, vs4, d4, ds4, p4, q4, rfl, rfl, rfl, hd4, r4⟩ := trodAll_cons r3
  obtain ⟨v5, vs5, d5, ds5, p5, q5, rfl, rfl, rfl, hd5, r5⟩ := trodAll_cons r4
  obtain ⟨v6, vs6, d6, ds6, p6, q6, rfl, rfl, rfl, hd6, r6⟩ := trodAll_cons r5
  obtain ⟨rfl, rfl, rfl⟩ := trodAll_nil r6
  exact ⟨v0, v1, v2, v3, v4, v5, v6, d0, d1, d2, d3, d4, d5, d6, p0, p1, p2, p3, p4, p5, p6, by cases args; simp_all, rfl, by simp, hd0, hd1, hd2, hd3, hd4, hd5, hd6⟩
theorem mk7 {t0 t1 t2 t3 t4 t5 t6 : TypeId} {v0 v1 v2 v3 v4 v5 v6 : Value} {d0 d1 d2 d3 d4 d5 d6 : DataW H} {p0 p1 p2 p3 p4 p5 p6 : List MemPlace} (h0 : DataW.Trod enc P w base spare held t0 v0 d0 p0) (h1 : DataW.Trod enc P w base spare held t1 v1 d1 p1) (h2 : DataW.Trod enc P w base spare held t2 v2 d2 p2)
    (h3 : DataW.Trod enc P w base spare held t3 v3 d3 p3) (h4 : DataW.Trod enc P w base spare held t4 v4 d4 p4) (h5 : DataW.Trod enc P w base spare held t5 v5 d5 p5) (h6 : DataW.Trod enc P w base spare held t6 v6 d6 p6) : DataW.TrodAll enc P w base spare held [t0, t1, t2, t3, t4, t5, t6] [v0, v1, v2, v3, v4, v5, v6] [d0, d1, d2, d3, d4, d5, d6] (p0 ++ (p1 ++ (p2 ++ (p3 ++ (p4 ++ (p5 ++ p6)))))) :=
  ⟨p0, _, h0, ⟨p1, _, h1, mk5 h2 h3 h4 h5 h6, rfl⟩, rfl⟩
end
end Go.Proofs.Ytdjpkgaicmklmab

/- A replica that comes in, opened: its reading as data gives its rows. -/
namespace Go.Proofs.Ytdjpkgaicmklmab
open Go.ChangeShapes Go.WideShapes Go.ChangeAt Go.RowKit Go.Joins Go.Deep

section
variable {H : Type} {enc : TypeId × Value → H} {w : World} {base : Nat} {spare : Nat → Bool} {held : Bool}

theorem Try.cellsInt : Try.prog.cellsOf 3 = 1 := by kernel_rfl
theorem Try.cellsBool : Try.prog.cellsOf 4 = 1 := by kernel_rfl
theorem Try.cellsString : Try.prog.cellsOf 9 = 1 := by kernel_rfl
theorem Try.cellsClock : Try.prog.cellsOf 72 = 2 := by kernel_rfl
theorem Try.cellsCard : Try.prog.cellsOf 68 = 5 := by kernel_rfl
theorem Try.cellsEdit : Try.prog.cellsOf 61 = 2 := by kernel_rfl

theorem list2 {α : Type} {l : List α} (h : l.length = 2) : ∃ a b, l = [a, b] := by
  match l, h with
  | [a, b], _ => exact ⟨a, b, rfl⟩
theorem list5 {α : Type} {l : List α} (h : l.length = 5) : ∃ a b c d e, l = [a, b, c, d, e] := by
  match l, h with
  | [a, b, c, d, e], _ => exact ⟨a, b, c, d, e, rfl⟩

theorem read_clock {n : Nat} {cs : List Value} {x : DataW H × List MemPlace} (h : DataW.trod enc Try.prog w base spare held n 72 cs = some x) : ∃ c : Ck, cs = c.cells := by
  obtain ⟨xs, k, _, _, hl, hlen, hf⟩ := DataW.trod_struct Try.underlying72 h
  rw [Try.cellsClock] at hl
  obtain ⟨c0, c1, rfl⟩ := list2 hl
  obtain ⟨y0, y1, rfl⟩ := list2 (show xs.length = 2 from hlen)
  have g0 := hf 0 _ rfl
  have g1 := hf 1 _ rfl
  simp [Try.cellsInt] at g0 g1
  obtain ⟨n0, e0, _⟩ := DataW.trod_int Try.underlying3 g0
  obtain ⟨n1, e1, _⟩ := DataW.trod_int Try.underlying3 g1
  simp at e0 e1
  subst e0 e1
  exact ⟨⟨n0, n1⟩, rfl⟩

theorem read_edit {n : Nat} {cs : List Value} {x : DataW H × List MemPlace} (h : DataW.trod enc Try.prog w base spare held n 61 cs = some x) : ∃ c : Ed, cs = c.cells := by
  obtain ⟨xs, k, _, _, hl, hlen, hf⟩ := DataW.trod_struct Try.underlying61 h
  rw [Try.cellsEdit] at hl
  obtain ⟨c0, c1, rfl⟩ := list2 hl
  obtain ⟨y0, y1, rfl⟩ := list2 (show xs.length = 2 from hlen)
  have g0 := hf 0 _ rfl
  have g1 := hf 1 _ rfl
  simp [Try.cellsInt, Try.cellsString] at g0 g1
  obtain ⟨n0, e0, _⟩ := DataW.trod_int Try.underlying3 g0
  obtain ⟨n1, e1, _⟩ := DataW.trod_string Try.underlying9 g1
  simp at e0 e1
  subst e0 e1
  exact ⟨⟨n0, n1⟩, rfl⟩

theorem read_card {n : Nat} {cs : List Value} {x : DataW H × List MemPlace} (h : DataW.trod enc Try.prog w base spare held n 68 cs = some x) : ∃ c : Cd, cs = c.cells := by
  obtain ⟨xs, k, _, _, hl, hlen, hf⟩ := DataW.trod_struct Try.underlying68 h
  rw [Try.cellsCard] at hl
  obtain ⟨c0, c1, c2, c3, c4, rfl⟩ := list5 hl
  obtain ⟨y0, y1, y2, y3, y4, rfl⟩ := list5 (show xs.length = 5 from hlen)
  have g0 := hf 0 _ rfl
  have g1 := hf 1 _ rfl
  have g2 := hf 2 _ rfl
  have g3 := hf 3 _ rfl
  have g4 := hf 4 _ rfl
  simp [Try.cellsInt, Try.cellsString, Try.cellsBool] at g0 g1 g2 g3 g4
  obtain ⟨n0, e0, _⟩ := DataW.trod_int Try.underlying3 g0
  obtain ⟨n1, e1, _⟩ := DataW.trod_int Try.underlying3 g1
  obtain ⟨n2, e2, _⟩ := DataW.trod_int Try.underlying3 g2
  obtain ⟨n3, e3, _⟩ := DataW.trod_bool Try.underlying4 g3
  obtain ⟨n4, e4, _⟩ := DataW.trod_string Try.underlying9 g4
  simp at e0 e1 e2 e3 e4
  subst e0 e1 e2 e3 e4
  exact ⟨⟨n0, n1, n2, n3, n4⟩, rfl⟩

theorem addr_plus (b off j : Nat) : (⟨b, off, none⟩ : Addr).add j = ⟨b, off + j, none⟩ := by
  unfold Addr.add
  by_cases h : j = 0 <;> simp [h]

/-- A slice of records that comes in. -/
theorem read_rows {α : Type} [Inhabited α] (cells : α → List Value) (m : Nat) {t e : TypeId} {fuel : Nat} {v : Value} {x : DataW H × List MemPlace} (ht : Try.prog.underlying t = some (.slice e)) (hc : Try.prog.cellsOf e = m) (h0 : 0 < m)
    (hr : ∀ (n : Nat) (cs : List Value) (y : DataW H × List MemPlace), DataW.trod enc Try.prog w 0 (fun _ => true) held n e cs = some y → ∃ c : α, cs = cells c)
    (h : DataW.trod enc Try.prog w 0 (fun _ => true) held fuel t [v] = some x) :
    ∃ (a : Option Addr) (n k : Nat) (f : Nat → α), v = .slice a n k ∧ Lies w a n m (fun i => cells (f i)) ∧ n ≤ k ∧ ((x.1 = .nil ∧ n = 0) ∨ ∃ el sp : List (DataW H), x.1 = .slice el sp ∧ el.length + sp.length = k) := by
  rcases open_slice ht h with ⟨hcs, hx⟩ | ⟨a, len, cap, mm, n, D, Pl, hcs, _, hl, hm, hmm, hx, hel⟩
  · simp at hcs
    exact ⟨none, 0, 0, fun _ => default, hcs, Or.inl rfl, Nat.le_refl _, Or.inl ⟨by rw [hx], rfl⟩⟩
  · simp at hcs
    simp at hmm
    subst hmm
    rw [hc] at hel
    have hall : ∀ i, i < mm → ∃ c : α, w.cells? 0 (a.add (i * m)) m = some (cells c) := fun i hi => by
      obtain ⟨cs', h1, h2⟩ := hel i hi
      obtain ⟨c, rfl⟩ := hr _ _ _ h2
      exact ⟨c, h1⟩
    obtain ⟨f, hf⟩ := choose_lt (α := α) (p := fun i c => w.cells? 0 (a.add (i * m)) m = some (cells c)) hall
    refine ⟨some a, len, mm, f, hcs, ?_, hl, Or.inr ⟨_, _, by rw [hx], by simp; omega⟩⟩
    by_cases hz : len = 0
    · exact Or.inl hz
    · obtain ⟨b, off, spot⟩ := a
      obtain ⟨_, hlen0, hc0⟩ := World.cells?_some (hf 0 (by omega))
      have hcell : w.cell? ((Addr.add ⟨b, off, spot⟩ (0 * m)).add 0) = (cells (f 0))[0]? := hc0 0 h0
      rw [List.getElem?_eq_getElem (by omega)] at hcell
      have hspot : spot = none := by simpa [Addr.add] using World.cell?_spot hcell
      subst hspot
      have hblk : b < w.heap.size := by
        simp only [Nat.zero_mul, addr_plus, Nat.add_zero] at hcell
        unfold World.cell? at hcell
        rcases Nat.lt_or_ge b w.heap.size with h | h
        · exact h
        · simp [Array.getElem?_eq_none h] at hcell
      refine Or.inr ⟨b, off, rfl, hblk, fun i hi j v hj hv => ?_⟩
      obtain ⟨_, _, hci⟩ := World.cells?_some (hf i (by omega))
      have := hci j hj
      rw [addr_plus, addr_plus] at this
      rw [this, hv]

theorem Try.bytesClock : Try.prog.bytesOf 72 = 16 := by kernel_rfl
theorem Try.bytesCard : Try.prog.bytesOf 68 = 48 := by kernel_rfl
theorem Try.bytesEdit : Try.prog.bytesOf 61 = 24 := by kernel_rfl

/-- The bytes of a slice that came in. -/
theorem weigh {t e : TypeId} {d : DataW H} {n k b : Nat} (ht : Try.prog.underlying t = some (.slice e)) (hb : Try.prog.bytesOf e = b) (hn : n ≤ k)
    (hx : (d = .nil ∧ n = 0) ∨ ∃ el sp : List (DataW H), d = .slice el sp ∧ el.length + sp.length = k) (hw : ∀ q, q ∈ d.weights Try.prog t → q ≤ reachBytes) : n * b ≤ reachBytes := by
  rcases hx with ⟨_, rfl⟩ | ⟨el, sp, rfl, rfl⟩
  · simp
  · have := hw ((el.length + sp.length) * Try.prog.bytesOf e) (by simp [DataW.weights, ht])
    rw [hb] at this
    exact Nat.le_trans (Nat.mul_le_mul_right _ hn) this

set_option maxRecDepth 100000 in
/-- A replica that comes in. -/
theorem open_rep {r : Reach} {b0 : Nat} {v : Value} {d : DataW H} {p : List MemPlace} (hv : Value.okWide Try.prog w r b0 28 v)
    (h : DataW.Trod enc Try.prog w 0 (fun _ => true) held 28 v d p) (hw : ∀ q, q ∈ d.weights Try.prog 28 → q ≤ reachBytes) :
    ∃ (R : Rep) (a1 a2 a3 : Option Addr) (k1 k2 k3 : Nat), v = repV R a1 a2 a3 k1 k2 k3 ∧ Has w R a1 a2 a3 := by
  obtain ⟨v0, v1, v2, y0, y1, y2, n, rfl, rfl, _, h0, h1, h2⟩ := open_agg3 Try.underlying28 (by kernel_rfl) (by kernel_rfl) hv h
  have : Inhabited Ck := ⟨⟨0, 0⟩⟩
  have : Inhabited Cd := ⟨⟨0, 0, 0, false, ⟨#[]⟩⟩⟩
  have : Inhabited Ed := ⟨⟨0, ⟨#[]⟩⟩⟩
  obtain ⟨a1, n1, k1, c, rfl, l1, m1, x1⟩ := read_rows Ck.cells 2 Try.underlying24 Try.cellsClock (by omega) (fun _ _ _ hh => read_clock hh) h0
  obtain ⟨a2, n2, k2, dd, rfl, l2, m2, x2⟩ := read_rows Cd.cells 5 Try.underlying25 Try.cellsCard (by omega) (fun _ _ _ hh => read_card hh) h1
  obtain ⟨a3, n3, k3, e, rfl, l3, m3, x3⟩ := read_rows Ed.cells 2 Try.underlying26 Try.cellsEdit (by omega) (fun _ _ _ hh => read_edit hh) h2
  have hw' : ∀ q, q ∈ DataW.weightsEach Try.prog [24, 25, 26] [y0.1, y1.1, y2.1] → q ≤ reachBytes := fun q hq => hw q (by
    simp only [DataW.weights, Try.underlying28]; exact hq)
  simp only [DataW.weightsEach, List.mem_append] at hw'
  have z1 := weigh Try.underlying24 Try.bytesClock m1 x1 (fun q hq => hw' q (Or.inl hq))
  have z2 := weigh Try.underlying25 Try.bytesCard m2 x2 (fun q hq => hw' q (Or.inr (Or.inl hq)))
  have z3 := weigh Try.underlying26 Try.bytesEdit m3 x3 (fun q hq => hw' q (Or.inr (Or.inr (Or.inl hq))))
  unfold reachBytes at z1 z2 z3
  exact ⟨⟨n1, n2, n3, c, dd, e⟩, a1, a2, a3, k1, k2, k3, rfl, l1, l2, l3, by show n1 ≤ _; omega, by show n2 ≤ _; omega, by show n3 ≤ _; omega, by show 16 * n1 ≤ _; omega, by show 48 * n2 ≤ _; omega, by show 24 * n3 ≤ _; omega⟩
end
end Go.Proofs.Ytdjpkgaicmklmab

/- A card laid among cards: parcelkeep.placed, walked. -/
namespace Go.Proofs.Ytdjpkgaicmklmab
open Go.RowKit

def cd0 : Cd := ⟨0, 0, 0, false, ⟨#[]⟩⟩
def ccells (l : List Cd) : List Value := (l.map Cd.cells).flatten
theorem ccells_append (a b : List Cd) : ccells (a ++ b) = ccells a ++ ccells b := by simp [ccells]
theorem ccells_one (c : Cd) : ccells [c] = c.cells := by simp [ccells]
theorem ccells_even (l : List Cd) : Even 5 (l.map Cd.cells) := by intro r h; obtain ⟨y, _, rfl⟩ := List.mem_map.1 h; rfl
theorem ccells_range (l : List Cd) (a k : Nat) (h : a + k ≤ l.length) : ((List.range k).map fun i => (l.getD (a + i) cd0).cells).flatten = ccells ((l.drop a).take k) := by
  unfold ccells
  congr 1
  apply List.ext_getElem
  · simp; omega
  · intro i h1 h2
    simp at h1 h2
    simp [List.getD, List.getElem?_eq_getElem (show a + i < l.length by omega)]

theorem cvec_lies {w : World} {B : Nat} {la : Option Addr} {n cap : Nat} {L : List Cd} (h : Vec w B 68 5 la n cap (ccells L)) (hn : L.length = n) : Lies w la n 5 (fun i => (L.getD i cd0).cells) := by
  refine h.lies (ccells_even L) (by simpa using hn) _ fun i hi => ?_
  have hl : i < L.length := by omega
  simp [List.getD, hl]

theorem ones2' (x : Cd) : ∀ v, v ∈ x.cells → v.oneCell' = true := by intro v h; simp at h; rcases h with rfl | rfl | rfl | rfl | rfl <;> rfl

theorem new_cells5 (w : World) (cs : List Value) (t : TypeId) (N : Nat) {b : Nat} {v0 v1 v2 v3 v4 : Value} (hN : N = w.heap.size) : ∀ j u, cs[j]? = some u → ((((((w.setCell ⟨b, 0, none⟩ v0).setCell ⟨b, 1, none⟩ v1).setCell ⟨b, 2, none⟩ v2).setCell ⟨b, 3, none⟩ v3).setCell ⟨b, 4, none⟩ v4).alloc (.cells cs.toArray t)).cell? ((⟨N, 0, none⟩ : Addr).add j) = some u := by
  intro j u h
  have := new_cells (((((w.setCell ⟨b, 0, none⟩ v0).setCell ⟨b, 1, none⟩ v1).setCell ⟨b, 2, none⟩ v2).setCell ⟨b, 3, none⟩ v3).setCell ⟨b, 4, none⟩ v4) cs t j u h
  have e : (((((w.setCell ⟨b, 0, none⟩ v0).setCell ⟨b, 1, none⟩ v1).setCell ⟨b, 2, none⟩ v2).setCell ⟨b, 3, none⟩ v3).setCell ⟨b, 4, none⟩ v4).heap.size = N := by rw [hN]; simp [World.setCell]
  rw [e] at this
  exact this

/-- A card at its place. -/
def placedL : List Cd → Cd → List Cd
  | [], c => [c]
  | o :: l, c => if o.id < c.id then o :: placedL l c else if o.id = c.id then (if laterB c o then c else o) :: l else c :: o :: l

theorem placedL_split (c : Cd) : ∀ (k : Nat) (L : List Cd), k ≤ L.length → (∀ j, j < k → (L.getD j cd0).id < c.id) → placedL L c = L.take k ++ placedL (L.drop k) c
  | 0, L, _, _ => by simp
  | k + 1, [], h, _ => by simp at h
  | k + 1, o :: L, h, hj => by
    have h0 := hj 0 (by omega)
    simp at h0
    rw [placedL, if_pos h0, placedL_split c k L (by simpa using h) (fun j hjk => by have := hj (j + 1) (by omega); simpa using this)]
    simp

theorem placedL_length (L : List Cd) (c : Cd) : (placedL L c).length ≤ L.length + 1 := by
  induction L with
  | nil => simp [placedL]
  | cons o L ih =>
    simp only [placedL]
    split
    · simp; omega
    · split <;> simp

abbrev BoxC (w : World) (c : Cd) (wr : World) : Prop := Below (w.heap.size + 1) (w.alloc (.cells #[.int .i64 c.id, .int .i64 c.site, .int .i64 c.count, .bool c.gone, .string c.text] 68)) wr

theorem bC_old {w : World} {c : Cd} {wr : World} (hb : BoxC w c wr) : Below w.heap.size w wr := ((Below.refl _ _).alloc (Nat.le_refl _) _).trans (hb.mono (by omega))
theorem bC_step {w : World} {c : Cd} {wr w1 : World} (hb : BoxC w c wr) (h : Below wr.heap.size wr w1) : BoxC w c w1 := hb.trans (h.mono (by have := hb.size; simpa using this))
theorem bC_cells {w : World} {c : Cd} {wr : World} (hb : BoxC w c wr) : wr.cell? ⟨w.heap.size, 0, none⟩ = some (.int .i64 c.id) ∧ wr.cell? ⟨w.heap.size, 1, none⟩ = some (.int .i64 c.site) ∧ wr.cell? ⟨w.heap.size, 2, none⟩ = some (.int .i64 c.count) ∧ wr.cell? ⟨w.heap.size, 3, none⟩ = some (.bool c.gone) ∧ wr.cell? ⟨w.heap.size, 4, none⟩ = some (.string c.text) := by
  refine ⟨?_, ?_, ?_, ?_, ?_⟩
  · rw [hb.cell (p := ⟨w.heap.size, 0, none⟩) (by simp), World.cell?_alloc_new]; rfl
  · rw [hb.cell (p := ⟨w.heap.size, 1, none⟩) (by simp), World.cell?_alloc_new]; rfl
  · rw [hb.cell (p := ⟨w.heap.size, 2, none⟩) (by simp), World.cell?_alloc_new]; rfl
  · rw [hb.cell (p := ⟨w.heap.size, 3, none⟩) (by simp), World.cell?_alloc_new]; rfl
  · rw [hb.cell (p := ⟨w.heap.size, 4, none⟩) (by simp), World.cell?_alloc_new]; rfl
theorem bC_size {w : World} {c : Cd} {wr : World} (hb : BoxC w c wr) : w.heap.size + 1 ≤ wr.heap.size := by have := hb.size; simpa using this

set_option maxRecDepth 100000 in
set_option maxHeartbeats 8000000 in
theorem placed_any (L : List Cd) (c : Cd) (B : Nat) (la : Option Addr) (n lcap : Nat) (w : World) (hv : Vec w B 68 5 la n lcap (ccells L)) (hn : L.length = n) (hn2 : n ≤ 1000000) :
    Calls Try.prog 30 #[.slice la n lcap, cdV c] w fun e w' => ∃ ad cap N, e = .returned (.slice ad N cap) ∧ N = (placedL L c).length ∧ Vec w' w.heap.size 68 5 ad N cap (ccells (placedL L c)) ∧ Below w.heap.size w w' := by
  have hcap := hv.cap_le
  have HL : Hid (Lies w la n 5 (fun i => (L.getD i cd0).cells)) := cvec_lies hv hn
  have HN : Hid (L.length = n) := hn
  clear hn hv
  go_enter Try.func30, Try.ntmps30
  go_wp2
  go_loopw [5] (fun v wr => ∃ k : Nat, k ≤ n ∧ v = .int .i64 k ∧ (∀ j, j < k → (L.getD j cd0).id < c.id) ∧ BoxC w c wr) (fun v _ => n - (intOf v).toNat)
  case atStart => exact ⟨0, Nat.zero_le _, rfl, fun j h => by omega, Below.refl _ _⟩
  case round =>
    obtain ⟨k, hk, rfl, hlo, hb⟩ := hrel
    have HLO : Hid (∀ j, j < k → (L.getD j cd0).id < c.id) := hlo
    clear hlo
    obtain ⟨x0, x1, x2, x3, x4⟩ := bC_cells hb
    have hLr : Lies wr la n 5 (fun i => (L.getD i cd0).cells) := HL.out.below (bC_old hb)
    by_cases hlt : k < n
    · obtain ⟨b, o, hbl, hix, c0, c1, c2, c3, c4⟩ := hLr.card lcap hlt
      have hd1 : decide ((k : Int) < (n : Int)) = true := by simp; omega
      have HLr : Hid (Lies wr la n 5 (fun i => (L.getD i cd0).cells)) := hLr
      clear hLr
      generalize hoo : L.getD k cd0 = oo at *
      have HO : Hid (L.getD k cd0 = oo) := hoo
      clear hoo
      by_cases hid : oo.id < c.id
      · have hd2 : decide (oo.id < c.id) = true := by simp [hid]
        go_wp2
        go_quiet (fail)
        go_wp2
        go_roundw
        case rel => exact ⟨k + 1, by omega, by go_num, fun j hj => by
            by_cases e : j = k
            · subst e; rw [HO.out]; exact hid
            · exact HLO.out j (by omega), below_drewN hb _⟩
        case measure => simp [intOf]; omega
      · have hd2 : decide (oo.id < c.id) = false := by simp; omega
        go_wp2
        go_quiet (fail)
        have z0 := bC_size hb
        have HT : Hid (∀ i, i < n → ((fun i => (L.getD i cd0).cells) i).length = 5) := fun _ _ => rfl
        have HU : Hid (∀ i, i < n → ∀ u, u ∈ (fun i => (L.getD i cd0).cells) i → u.oneCell' = true) := fun i _ => ones2' _
        go_wp2_with (first
          | (at_builtin; refine wpList_pushAll (by rfl) _ _ 25 (by rfl) (w.heap.size + 1) 68 5 48 (.agg #[.int .i64 0, .int .i64 0, .int .i64 0, .bool false, .string ⟨#[]⟩]) Try.underlying25 (by kernel_rfl) rfl (by decide) none 0 0 [] (by rfl) (Vec.nil _ _ _ _) la k lcap (fun i => (L.getD i cd0).cells) (by rfl) ((HLr.out.below (below_drewN (Below.refl _ _) _)).take k hk) (fun i hi => HT.out i (by omega)) (fun i hi => HU.out i (by omega)) ?_ ?_ ?_ k ?_ ?_; (omega); (omega); (exact z0); (omega); intro ad1 cap1 w1 hv1 hb1 hs1; have hq1 : BoxC w c w1 := (below_drewN hb _).trans hb1; have z1 := bC_size hq1; clear x0 x1 x2 x3 x4; obtain ⟨x0, x1, x2, x3, x4⟩ := bC_cells hq1))
        clear hix c0 c1 c2 c3 c4 hbl
        have hv1' : Vec w1 (w.heap.size + 1) 68 5 ad1 k cap1 (ccells (L.take k)) := by
          have hr := ccells_range L 0 k (by rw [HN.out]; omega)
          simp only [Nat.zero_add, List.drop_zero] at hr
          rw [List.nil_append, hr] at hv1; exact hv1
        have hL1 : Lies w1 la n 5 (fun i => (L.getD i cd0).cells) := HL.out.below (bC_old hq1)
        obtain ⟨b, o, hbl, hix, c0, c1, c2, c3, c4⟩ := hL1.card lcap hlt
        rw [HO.out] at c0 c1 c2 c3 c4
        have HL1 : Hid (Lies w1 la n 5 (fun i => (L.getD i cd0).cells)) := hL1
        clear hL1 hv1 hb1 hb HLr
        have hsplit : placedL L c = L.take k ++ placedL (L.drop k) c := placedL_split c k L (by rw [HN.out]; omega) HLO.out
        have hdrop : L.drop k = oo :: L.drop (k + 1) := by
          have hkl : k < L.length := by rw [HN.out]; exact hlt
          rw [List.drop_eq_getElem_cons hkl, ← HO.out]; simp [List.getD, hkl]
        have HS : Hid (placedL L c = L.take k ++ placedL (L.drop k) c) := hsplit
        have HD : Hid (L.drop k = oo :: L.drop (k + 1)) := hdrop
        clear hsplit hdrop
        by_cases hide : oo.id = c.id
        · have hd3 : (oo.id == c.id) = true := by simp [hide]
          go_wp2_with fail
          go_quiet (fail)
          have hqW : BoxC w c (w1.drewN nq) := below_drewN hq1 nq
          have hvW : Vec (w1.drewN nq) (w.heap.size + 1) 68 5 ad1 k cap1 (ccells (L.take k)) := hv1'.keep (below_drewN (Below.refl _ _) _)
          have hLW : Lies (w1.drewN nq) la n 5 (fun i => (L.getD i cd0).cells) := HL1.out.below (below_drewN (Below.refl _ _) _)
          generalize w1.drewN nq = W at *
          clear hix c0 c1 c2 c3 c4 hbl x0 x1 x2 x3 x4 hv1' hq1 z1 HL1
          obtain ⟨x0, x1, x2, x3, x4⟩ := bC_cells hqW
          obtain ⟨b, o, hbl, hix, c0, c1, c2, c3, c4⟩ := hLW.card lcap hlt
          rw [HO.out] at c0 c1 c2 c3 c4
          have zW := bC_size hqW
          have hwW : w.heap.size < W.heap.size := by omega
          have HI : Hid (oo.id = c.id) := hide
          clear hide
          go_wp2_with fail
          refine (later_any c oo _).mono ?_
          rintro e w2 ⟨rfl, hh⟩
          have hq2 : BoxC W oo w2 := (Below.refl _ _).trans (hh.mono (by simp))
          have hbW2 : Below W.heap.size W w2 := bC_old hq2
          have hqC : BoxC w c w2 := bC_step hqW hbW2
          obtain ⟨y0, y1, y2, y3, y4⟩ := bC_cells hq2
          have fz : ∀ j, w2.frozen? ⟨W.heap.size, j, none⟩ = false := fun j => by
            rw [hq2.frozen (p := ⟨W.heap.size, j, none⟩) (by simp)]; simp
          have f0 := fz 0; have f1 := fz 1; have f2 := fz 2; have f3 := fz 3; have f4 := fz 4
          have z2 := bC_size hq2
          clear fz hh hix c0 c1 c2 c3 c4 hbl x0 x1 x2 x3 x4
          obtain ⟨x0, x1, x2, x3, x4⟩ := bC_cells hqC
          have hown2 : Own w2 W.heap.size 68 5 [oo.cells] := ⟨by intro r hr; simp at hr; subst hr; rfl, by
            rw [hq2.block W.heap.size (by omega)]
            show (W.heap.push _)[W.heap.size]? = _
            rw [Array.getElem?_push_size]; rfl⟩
          cases hla : laterB c oo
          · have HLA : Hid (laterB c oo = false) := hla
            have HV2 : Hid (∀ o, Vec (w2.alloc o) (w.heap.size + 1) 68 5 ad1 k cap1 (ccells (L.take k))) := fun o => hvW.keep (hbW2.alloc hbW2.size o)
            have HQ2 : Hid (∀ o, BoxC w c (w2.alloc o)) := fun o => Below.alloc hqC (by omega) o
            clear hown2
            go_wp2_with (first
              | (at_builtin; refine wpList_push (by rfl) _ _ 25 (by rfl) (w.heap.size + 1) 68 5 48 (.agg #[.int .i64 0, .int .i64 0, .int .i64 0, .bool false, .string ⟨#[]⟩]) Try.underlying25 (by kernel_rfl) rfl (by decide) ad1 k cap1 _ (by rfl) (HV2.out _) _ _ oo.cells (by rfl) rfl ?_ ?_ ?_ ?_ ?_ ?_; exact new_cells _ _ _; exact ones2' _; (omega); (omega); (simp; omega); intro ad2 cap2 w3 hv2 hb3 hs3; have hq3 : BoxC w c w3 := Below.trans (HQ2.out _) hb3; have z3 := bC_size hq3)
              | (at_builtin; refine wpList_pushAll (by rfl) _ _ 25 (by rfl) (w.heap.size + 1) 68 5 48 (.agg #[.int .i64 0, .int .i64 0, .int .i64 0, .bool false, .string ⟨#[]⟩]) Try.underlying25 (by kernel_rfl) rfl (by decide) ad2 (k + 1) cap2 _ (by rfl) hv2 _ (n - (k + 1)) (lcap - (k + 1)) (fun i => (L.getD (k + 1 + i) cd0).cells) (by rfl) ((HL.out.below (bC_old hq3)).drop lcap (k + 1) hcap) (fun _ _ => rfl) (fun _ _ => ones2' _) ?_ ?_ ?_ (k + 1 + (n - (k + 1))) rfl ?_; (omega); (omega); (exact z3); intro ad3 cap3 w4 hv3 hb4 hs4))
            all_goals
              have hfin : placedL L c = L.take k ++ ([oo] ++ L.drop (k + 1)) := by
                rw [HS.out, HD.out, placedL, if_neg (by have := HI.out; omega), if_pos HI.out, HLA.out]; rfl
              have HLen : Hid (k + 1 + (n - (k + 1)) = (placedL L c).length) := by
                show _ = _; rw [hfin]; simp [HN.out]; omega
              have hfinal : Vec w4 w.heap.size 68 5 ad3 (k + 1 + (n - (k + 1))) cap3 (ccells (placedL L c)) := by
                have hr := ccells_range L (k + 1) (n - (k + 1)) (by rw [HN.out]; omega)
                have ht : (L.drop (k + 1)).take (n - (k + 1)) = L.drop (k + 1) := List.take_of_length_le (by rw [List.length_drop, HN.out]; exact Nat.le_refl _)
                rw [hr, ht] at hv3
                have h := hv3.mono (show w.heap.size ≤ w.heap.size + 1 by omega)
                rw [hfin, ccells_append, ccells_append, ccells_one, ← List.append_assoc]; exact h
              clear hfin
              go_ret
              exact ⟨ad3, cap3, _, rfl, HLen.out, hfinal, bC_old (hq3.trans hb4)⟩
          · have HLA : Hid (laterB c oo = true) := hla
            go_wp2_with (first
              | (at_builtin; refine wpList_push (by rfl) _ _ 25 (by rfl) (w.heap.size + 1) 68 5 48 (.agg #[.int .i64 0, .int .i64 0, .int .i64 0, .bool false, .string ⟨#[]⟩]) Try.underlying25 (by kernel_rfl) rfl (by decide) ad1 k cap1 _ (by rfl) (HV2.out _) _ _ c.cells (by rfl) rfl ?_ ?_ ?_ ?_ ?_ ?_; exact new_cells _ _ _; exact ones2' _; (omega); (omega); (simp; omega); intro ad2 cap2 w3 hv2 hb3 hs3; have hq3 : BoxC w c w3 := Below.trans (HQ2.out _) hb3; have z3 := bC_size hq3)
              | (at_builtin; refine wpList_pushAll (by rfl) _ _ 25 (by rfl) (w.heap.size + 1) 68 5 48 (.agg #[.int .i64 0, .int .i64 0, .int .i64 0, .bool false, .string ⟨#[]⟩]) Try.underlying25 (by kernel_rfl) rfl (by decide) ad2 (k + 1) cap2 _ (by rfl) hv2 _ (n - (k + 1)) (lcap - (k + 1)) (fun i => (L.getD (k + 1 + i) cd0).cells) (by rfl) ((HL.out.below (bC_old hq3)).drop lcap (k + 1) hcap) (fun _ _ => rfl) (fun _ _ => ones2' _) ?_ ?_ ?_ (k + 1 + (n - (k + 1))) rfl ?_; (omega); (omega); (exact z3); intro ad3 cap3 w4 hv3 hb4 hs4)
              | (refine wpList_store_rows (by rfl) _ _ 68 (by rfl) 68 5 (by kernel_rfl) W.heap.size 0 _ (by rfl) (by rfl) c.cells (by rfl) rfl (ones2' c) [oo.cells] hown2 (by simp) ?_; intro w5 ow uw; have hbW5 : Below W.heap.size W w5 := uw.below hbW2 (Nat.le_refl _); have hqC5 : BoxC w c w5 := bC_step hqW hbW5; have y0' : w5.cell? ⟨W.heap.size, 0, none⟩ = some (.int .i64 c.id) := ow.cell 0 0 (by simp) (by omega); have y1' : w5.cell? ⟨W.heap.size, 1, none⟩ = some (.int .i64 c.site) := ow.cell 0 1 (by simp) (by omega); have y2' : w5.cell? ⟨W.heap.size, 2, none⟩ = some (.int .i64 c.count) := ow.cell 0 2 (by simp) (by omega); have y3' : w5.cell? ⟨W.heap.size, 3, none⟩ = some (.bool c.gone) := ow.cell 0 3 (by simp) (by omega); have y4' : w5.cell? ⟨W.heap.size, 4, none⟩ = some (.string c.text) := ow.cell 0 4 (by simp) (by omega); have z5 : w.heap.size + 1 ≤ w5.heap.size := bC_size hqC5; have HV2 : Hid (∀ o, Vec (w5.alloc o) (w.heap.size + 1) 68 5 ad1 k cap1 (ccells (L.take k))) := fun o => hvW.keep (hbW5.alloc hbW5.size o); have HQ2 : Hid (∀ o, BoxC w c (w5.alloc o)) := fun o => Below.alloc hqC5 z5 o; clear hown2 y0 y1 y2 y3 y4 f0 f1 f2 f3 f4 ow uw x0 x1 x2 x3 x4))
            all_goals
              have hfin : placedL L c = L.take k ++ ([c] ++ L.drop (k + 1)) := by
                rw [HS.out, HD.out, placedL, if_neg (by have := HI.out; omega), if_pos HI.out, HLA.out]; rfl
              have HLen : Hid (k + 1 + (n - (k + 1)) = (placedL L c).length) := by
                show _ = _; rw [hfin]; simp [HN.out]; omega
              have hfinal : Vec w4 w.heap.size 68 5 ad3 (k + 1 + (n - (k + 1))) cap3 (ccells (placedL L c)) := by
                have hr := ccells_range L (k + 1) (n - (k + 1)) (by rw [HN.out]; omega)
                have ht : (L.drop (k + 1)).take (n - (k + 1)) = L.drop (k + 1) := List.take_of_length_le (by rw [List.length_drop, HN.out]; exact Nat.le_refl _)
                rw [hr, ht] at hv3
                have h := hv3.mono (show w.heap.size ≤ w.heap.size + 1 by omega)
                rw [hfin, ccells_append, ccells_append, ccells_one, ← List.append_assoc]; exact h
              clear hfin
              go_ret
              exact ⟨ad3, cap3, _, rfl, HLen.out, hfinal, bC_old (hq3.trans hb4)⟩
        · have hd3 : (oo.id == c.id) = false := by simp [hide]
          have hfin : placedL L c = L.take k ++ ([c] ++ L.drop k) := by
            rw [HS.out, HD.out, placedL, if_neg (by omega), if_neg hide]; rfl
          have HF : Hid (placedL L c = L.take k ++ ([c] ++ L.drop k)) := hfin
          clear hfin hide
          go_wp2_with fail
          go_quiet (fail)
          go_wp2_with (first
            | (at_builtin; refine wpList_push (by rfl) _ _ 25 (by rfl) (w.heap.size + 1) 68 5 48 (.agg #[.int .i64 0, .int .i64 0, .int .i64 0, .bool false, .string ⟨#[]⟩]) Try.underlying25 (by kernel_rfl) rfl (by decide) ad1 k cap1 _ (by rfl) (hv1'.keep (((Below.refl _ w1).alloc (Nat.le_refl _) _).trans (below_drewN (Below.refl _ _) _))) _ _ c.cells (by rfl) rfl ?_ ?_ ?_ ?_ ?_ ?_; exact new_cells (w1.drewN _) _ _; exact ones2' _; (omega); (omega); (simp; omega); intro ad2 cap2 w2 hv2 hb2 hs2; have hq2 : BoxC w c w2 := (Below.alloc (below_drewN hq1 _) z1 _).trans hb2; have z2 := bC_size hq2; clear hv1')
            | (at_builtin; refine wpList_pushAll (by rfl) _ _ 25 (by rfl) (w.heap.size + 1) 68 5 48 (.agg #[.int .i64 0, .int .i64 0, .int .i64 0, .bool false, .string ⟨#[]⟩]) Try.underlying25 (by kernel_rfl) rfl (by decide) ad2 (k + 1) cap2 _ (by rfl) hv2 _ (n - k) (lcap - k) (fun i => (L.getD (k + i) cd0).cells) (by rfl) ((HL.out.below (bC_old hq2)).drop' lcap k hcap (by omega)) (fun _ _ => rfl) (fun _ _ => ones2' _) ?_ ?_ ?_ (k + 1 + (n - k)) rfl ?_; (omega); (omega); (exact z2); intro ad3 cap3 w3 hv3 hb3 hs3))
          have hfinal : Vec w3 w.heap.size 68 5 ad3 (k + 1 + (n - k)) cap3 (ccells (placedL L c)) := by
            have hr := ccells_range L k (n - k) (by rw [HN.out]; omega)
            have ht : (L.drop k).take (n - k) = L.drop k := List.take_of_length_le (by rw [List.length_drop, HN.out]; exact Nat.le_refl _)
            rw [hr, ht] at hv3
            have h := hv3.mono (show w.heap.size ≤ w.heap.size + 1 by omega)
            rw [HF.out, ccells_append, ccells_append, ccells_one, ← List.append_assoc]; exact h
          have hlen : k + 1 + (n - k) = (placedL L c).length := by
            rw [HF.out]; simp [HN.out]; omega
          have HLen : Hid (k + 1 + (n - k) = (placedL L c).length) := hlen
          clear hlen
          go_ret
          exact ⟨ad3, cap3, _, rfl, HLen.out, hfinal, bC_old (hq2.trans hb3)⟩
    · have hd1 : decide ((k : Int) < (n : Int)) = false := by simp; omega
      have HLr : Hid (Lies wr la n 5 (fun i => (L.getD i cd0).cells)) := hLr
      have z0 := bC_size hb
      have hkn : k = n := by omega
      have hfin : placedL L c = L.take k ++ ([c] ++ L.drop k) := by
        rw [placedL_split c k L (by rw [HN.out]; omega) HLO.out, List.drop_of_length_le (by rw [HN.out]; omega)]; rfl
      have HF : Hid (placedL L c = L.take k ++ ([c] ++ L.drop k)) := hfin
      have HKN : Hid (k = n) := hkn
      clear hLr hfin hkn
      go_wp2
      go_quiet (fail)
      go_wp2_with (first
        | (at_builtin; refine wpList_pushAll (by rfl) _ _ 25 (by rfl) (w.heap.size + 1) 68 5 48 (.agg #[.int .i64 0, .int .i64 0, .int .i64 0, .bool false, .string ⟨#[]⟩]) Try.underlying25 (by kernel_rfl) rfl (by decide) none 0 0 [] (by rfl) (Vec.nil _ _ _ _) la k lcap (fun i => (L.getD i cd0).cells) (by rfl) ((HLr.out.below (below_drewN (Below.refl _ _) _)).take k hk) (fun _ _ => rfl) (fun _ _ => ones2' _) ?_ ?_ ?_ k ?_ ?_; (omega); (omega); (exact z0); (omega); intro ad1 cap1 w1 hv1 hb1 hs1; have hq1 : BoxC w c w1 := (below_drewN hb _).trans hb1; have z1 := bC_size hq1; clear x0 x1 x2 x3 x4; obtain ⟨x0, x1, x2, x3, x4⟩ := bC_cells hq1))
      have hv1' : Vec w1 (w.heap.size + 1) 68 5 ad1 k cap1 (ccells (L.take k)) := by
        have hr := ccells_range L 0 k (by rw [HN.out]; omega)
        simp only [Nat.zero_add, List.drop_zero] at hr
        rw [List.nil_append, hr] at hv1; exact hv1
      clear hv1 hb1
      go_quiet (fail)
      have hqW : BoxC w c (w1.drewN nq) := below_drewN hq1 nq
      have hvW : Vec (w1.drewN nq) (w.heap.size + 1) 68 5 ad1 k cap1 (ccells (L.take k)) := hv1'.keep (below_drewN (Below.refl _ _) _)
      generalize w1.drewN nq = W at *
      clear x0 x1 x2 x3 x4 hv1' hq1 z1
      obtain ⟨x0, x1, x2, x3, x4⟩ := bC_cells hqW
      have zW := bC_size hqW
      go_wp2_with (first
        | (at_builtin; refine wpList_push (by rfl) _ _ 25 (by rfl) (w.heap.size + 1) 68 5 48 (.agg #[.int .i64 0, .int .i64 0, .int .i64 0, .bool false, .string ⟨#[]⟩]) Try.underlying25 (by kernel_rfl) rfl (by decide) ad1 k cap1 _ (by rfl) (hvW.keep ((Below.refl _ W).alloc (Nat.le_refl _) _)) _ _ c.cells (by rfl) rfl ?_ ?_ ?_ ?_ ?_ ?_; exact new_cells _ _ _; exact ones2' _; (omega); (omega); (simp; omega); intro ad2 cap2 w2 hv2 hb2 hs2; have hq2 : BoxC w c w2 := (Below.alloc hqW zW _).trans hb2; have z2 := bC_size hq2)
        | (at_builtin; refine wpList_pushAll (by rfl) _ _ 25 (by rfl) (w.heap.size + 1) 68 5 48 (.agg #[.int .i64 0, .int .i64 0, .int .i64 0, .bool false, .string ⟨#[]⟩]) Try.underlying25 (by kernel_rfl) rfl (by decide) ad2 (k + 1) cap2 _ (by rfl) hv2 _ (n - k) (lcap - k) (fun i => (L.getD (k + i) cd0).cells) (by rfl) ((HL.out.below (bC_old hq2)).drop lcap k hcap) (fun _ _ => rfl) (fun _ _ => ones2' _) ?_ ?_ ?_ (k + 1 + (n - k)) rfl ?_; (omega); (omega); (exact z2); intro ad3 cap3 w3 hv3 hb3 hs3))
      all_goals
        have hfinal : Vec w3 w.heap.size 68 5 ad3 (k + 1 + (n - k)) cap3 (ccells (placedL L c)) := by
          have hr := ccells_range L k (n - k) (by rw [HN.out]; omega)
          have ht : (L.drop k).take (n - k) = L.drop k := List.take_of_length_le (by rw [List.length_drop, HN.out]; exact Nat.le_refl _)
          rw [hr, ht] at hv3
          have h := hv3.mono (show w.heap.size ≤ w.heap.size + 1 by omega)
          rw [HF.out, ccells_append, ccells_append, ccells_one, ← List.append_assoc]; exact h
        have HLen : Hid (k + 1 + (n - k) = (placedL L c).length) := by
          show _ = _; rw [HF.out]; simp [HN.out]; omega
        go_ret
        exact ⟨ad3, cap3, _, rfl, HLen.out, hfinal, bC_old (hq2.trans hb3)⟩
end Go.Proofs.Ytdjpkgaicmklmab

/- Lists within regions that draw their order; a row of numbers of the call's own. -/
namespace Go.Proofs.Ytdjpkgaicmklmab
open Go.RowKit

section
variable {P : Program} {w : World} {ops : Array Oper} {rest : List Oper} {o : Oper} {a : Act} {Q : Exit → Act → World → Prop}

/-- 'l = append(l, x)' at a step of a region that draws its order. -/
theorem step_push {K : Act → World → Prop} {E : Prop} (hgd : o.guard = none) (s x : Operand) (t : TypeId) (ho : o.op = .call { callee := .builtin .append, args := #[s, x], argTypes := #[t, t] })
    (B e m bytes : Nat) (z : Value) (ht : P.underlying t = some (.slice e)) (hinfo : (P.info? e).map (fun i => (i.zero, i.size, i.bytes)) = some (some z, m, bytes)) (hzs : z.cells.size = m) (hm : 0 < m)
    (ad : Option Addr) (n cap : Nat) (xs : List Value) (hs : a.eval s = .slice ad n cap) (hown : Vec w B e m ad n cap xs)
    (ad1 : Addr) (c : Nat) (row : List Value) (hx : a.eval x = .slice (some ad1) 1 c) (hl : row.length = m) (hnews : ∀ j u, row[j]? = some u → w.cell? (ad1.add j) = some u) (h1 : ∀ u, u ∈ row → u.oneCell' = true)
    (hbytes : (n + 1) * bytes ≤ 140737488355328) (hn : n < 9223372036854775807) (hB : B ≤ w.heap.size)
    (h : ∀ ad' cap' w', Vec w' B e m ad' (n + 1) cap' (xs ++ row) → Below B w w' → w.heap.size ≤ w'.heap.size → K (a.put o.dst (.slice ad' (n + 1) cap')) w') :
    if Region.wanted o (yielded ops a.tmps) = true then Oper.wp P o a w K Q else E := by
  obtain ⟨i, hi, hzz⟩ := Option.map_eq_some_iff.1 hinfo
  simp only [Prod.mk.injEq] at hzz
  obtain ⟨hz, hsz, hby⟩ := hzz
  refine step_append_lies w hgd s x t ho B e i z m bytes ht hi hz hsz hby hzs hm (.slice ad n cap) n xs hs hown ad1 1 c row hx (by rw [hl, Nat.one_mul]) hnews h1 (by omega) (by unfold maxLen; omega) hbytes hB w.heap.size rfl ?_
  intro g cap' w' ho' hgr _ _
  refine h (some ⟨g, 0, none⟩) cap' w' ho' ?_ hgr.size
  exact (Below.refl _ _).grown hgr hB (fun k hk => (World.ownsRow.lt hown k hk).1)

/-- 'make([]T, n)', T of one cell. -/
theorem wpList_make_ones (hg : o.guard = none) (l c : Operand) (t : TypeId) (hop : o.op = Op.makeSlice t l c) (e : TypeId) (z : Value) (bytes : Nat)
    (ht : P.underlying t = some (.slice e)) (hinfo : (P.info? e).map (fun i => (i.zero, i.size, i.bytes)) = some (some z, 1, bytes)) (hz1 : z.cells = #[z])
    (n : Nat) (N : Int) (hN : N = (n : Int)) (hl : a.eval l = .int .i64 N) (hc : a.eval c = .int .i64 N) (hbytes : bytes * n ≤ 281474976710656) (h63 : n ≤ 9223372036854775807)
    (h : ∀ g ad w', Hid (ad = some ⟨g, 0, none⟩) → w.heap.size ≤ g → g < w'.heap.size → Own w' g e 1 (List.replicate n [z]) → Below w.heap.size w w' → wpList P ops Q rest (a.put o.dst (.slice ad n n)) w') :
    wpList P ops Q (o :: rest) a w := by
  subst hN
  obtain ⟨i, hi, hzz⟩ := Option.map_eq_some_iff.1 hinfo
  simp only [Prod.mk.injEq] at hzz
  obtain ⟨hz, hs, hb⟩ := hzz
  refine wpList_plain hg fun K hK => ?_
  have hb' : (i.bytes : Int) * (n : Int) ≤ 281474976710656 := by
    have h : ((i.bytes * n : Nat) : Int) ≤ 281474976710656 := by rw [hb]; omega
    rwa [Int.natCast_mul] at h
  have hr := run_make (P := P) w t e i z ht hi hz .i64 .i64 (n : Int) (n : Int) (by omega) (Int.le_refl _) hb' (by omega)
  rw [hz1, show (#[z] : Array Value) = [z].toArray from rfl] at hr
  simp only [Int.toNat_natCast, hs, madeCells_flat [z] 1 n rfl (by omega)] at hr
  unfold Oper.wp
  simp [execOp, hop, hl, hc, hr, Result.andThen]
  refine hK _ _ (h w.heap.size _ _ rfl (Nat.le_refl _) (by simp) ⟨Even.replicate n rfl, ?_⟩ ((Below.refl _ _).alloc (Nat.le_refl _) _))
  show (w.heap.push _)[w.heap.size]? = _
  rw [Array.getElem?_push_size]; simp
end

/-- A row of numbers. -/
abbrev irows (l : List Int) : List (List Value) := l.map fun x => [Value.int .i64 x]
theorem irows_at {w : World} {g : Nat} {e : TypeId} {l : List Int} (h : Own w g e 1 (irows l)) (k : Nat) (hk : k < l.length) : w.cell? ⟨g, k, none⟩ = some (.int .i64 (l.getD k 0)) ∧ w.frozen? ⟨g, k, none⟩ = false := by
  constructor
  · have := h.cell k 0 (by simpa using hk) (by omega)
    rw [Nat.add_zero, Nat.mul_one] at this
    rw [this]
    simp [List.getD, hk]
  · simp [World.frozen?, h.block]
theorem irows_set {w : World} {g : Nat} {e : TypeId} {l : List Int} (h : Own w g e 1 (irows l)) (k : Nat) (x : Int) : Own (w.setCell ⟨g, k, none⟩ (.int .i64 x)) g e 1 (irows (l.set k x)) := by
  refine ⟨by intro r hr; obtain ⟨y, _, rfl⟩ := List.mem_map.1 hr; rfl, ?_⟩
  rw [heap_setCell_same w g k _ e _ h.block]
  congr 2
  have e1 : ∀ l : List Int, (irows l).flatten = l.map (Value.int .i64) := by
    intro l; induction l with
    | nil => rfl
    | cons a l ih => simp [irows] at ih ⊢; exact ih
  rw [e1, e1, List.map_set]
  simp
theorem Vec.setBelow {w : World} {B e m : Nat} {ad : Option Addr} {n cap : Nat} {xs : List Value} (h : Vec w B e m ad n cap xs) (p : Addr) (hp : p.block < B) (v : Value) : Vec (w.setCell p v) B e m ad n cap xs := ownsRow_setCell_below h hp v
theorem Own.setOther {w : World} {g e m : Nat} {rows : List (List Value)} (h : Own w g e m rows) (p : Addr) (hp : p.block ≠ g) (v : Value) : Own (w.setCell p v) g e m rows :=
  ⟨h.even, by rw [Below.heap_setCell _ _ _ _ (fun e => hp e.symm)]; exact h.block⟩
end Go.Proofs.Ytdjpkgaicmklmab

