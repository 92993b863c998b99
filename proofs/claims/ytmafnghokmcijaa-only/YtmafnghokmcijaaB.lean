/- The program's own tests of a replica (package sound), walked. -/
import Derived.Test.YtmafnghokmcijaaA
namespace Go.Proofs.Ytmafnghokmcijaa
open Go.RowKit

/-- out of 1 .. m. -/
def outB (n m : Int) : Bool := decide (n < 1) || decide (m < n)

set_option maxHeartbeats 400000 in
theorem within_any (n lo hi : Int) (w : World) :
    Calls Try.prog 55 #[.int .i64 n, .int .i64 lo, .int .i64 hi] w fun e w' => e = .returned (.bool (decide (lo ≤ n) && decide (n ≤ hi))) ∧ w' = w := by
  go_enter Try.func55, Try.ntmps55
  go_wp2
  all_goals (go_ret; refine ⟨ret_bool ?_, rfl⟩; simp; try omega)

theorem within_out (n m : Int) (w : World) :
    Calls Try.prog 55 #[.int .i64 n, .int .i64 1, .int .i64 m] w fun e w' => e = .returned (.bool (!outB n m)) ∧ w' = w := by
  refine (within_any n 1 m w).mono ?_
  rintro e w' ⟨rfl, rfl⟩
  refine ⟨ret_bool ?_, rfl⟩
  unfold outB
  by_cases h1 : n < 1 <;> by_cases h2 : m < n <;> simp [h1, h2] <;> omega

set_option maxHeartbeats 400000 in
theorem outOfRange_any (n m : Int) (w : World) :
    Calls Try.prog 74 #[.int .i64 n, .int .i64 m] w fun e w' => e = .returned (.bool (outB n m)) ∧ w' = w := by
  go_enter Try.func74, Try.ntmps74
  go_wp2
  all_goals (go_ret; refine ⟨ret_bool ?_, rfl⟩; simp [outB]; try omega)

/-- a Site or a Count that may not be. -/
def scB (s c : Int) : Bool := outB s 200 || outB c 4611686018427387904

set_option maxHeartbeats 400000 in
theorem wrongSiteOrCount_any (s c : Int) (w : World) :
    Calls Try.prog 73 #[.int .i64 s, .int .i64 c] w fun e w' => e = .returned (.bool (scB s c)) ∧ w' = w := by
  cases h : outB s 200
  · go_enter Try.func73, Try.ntmps73
    go_wp2_with (go_at_call 74; refine (outOfRange_any _ _ _).mono ?_; rintro e w' ⟨rfl, rfl⟩)
    go_ret; exact ⟨ret_bool (by simp [scB, h]), rfl⟩
  · go_enter Try.func73, Try.ntmps73
    go_wp2_with (go_at_call 74; refine (outOfRange_any _ _ _).mono ?_; rintro e w' ⟨rfl, rfl⟩)
    go_ret; exact ⟨ret_bool (by simp [scB, h]), rfl⟩

/-- A replica's three rows. -/
structure Rep where
  n1 : Nat
  n2 : Nat
  n3 : Nat
  c : Nat → Ck
  d : Nat → Cd
  e : Nat → Ed

/-- A replica lies in the world: its rows' addresses. -/
structure Has (w : World) (R : Rep) (a1 a2 a3 : Option Addr) : Prop where
  l1 : Lies w a1 R.n1 2 (fun i => (R.c i).cells)
  l2 : Lies w a2 R.n2 5 (fun i => (R.d i).cells)
  l3 : Lies w a3 R.n3 2 (fun i => (R.e i).cells)
  b1 : R.n1 ≤ 140737488355328
  b2 : R.n2 ≤ 140737488355328
  b3 : R.n3 ≤ 140737488355328
  y1 : 16 * R.n1 ≤ 140737488355328
  y2 : 48 * R.n2 ≤ 140737488355328
  y3 : 24 * R.n3 ≤ 140737488355328

theorem Has.below {w w' : World} {R : Rep} {a1 a2 a3 : Option Addr} (h : Has w R a1 a2 a3) (hb : Below w.heap.size w w') : Has w' R a1 a2 a3 :=
  ⟨h.l1.below hb, h.l2.below hb, h.l3.below hb, h.b1, h.b2, h.b3, h.y1, h.y2, h.y3⟩

abbrev repV (R : Rep) (a1 a2 a3 : Option Addr) (k1 k2 k3 : Nat) : Value := .agg #[.slice a1 R.n1 k1, .slice a2 R.n2 k2, .slice a3 R.n3 k3]

def Rep.num1 (R : Rep) (i : Nat) : Bool := scB (R.c i).site (R.c i).count
def Rep.num2 (R : Rep) (i : Nat) : Bool := scB (R.d i).site (R.d i).count || outB (R.d i).id 4611686018427387904
def Rep.num3 (R : Rep) (i : Nat) : Bool := outB (R.e i).id 4611686018427387904
/-- ErrNumber. -/
def Rep.numB (R : Rep) : Bool := anyTo R.num1 R.n1 || (anyTo R.num2 R.n2 || anyTo R.num3 R.n3)

/-- The box of a struct parameter, behind whatever was laid or drawn since. -/
theorem box3 {w wr : World} {x y z : Value} {t : TypeId} (hb : Below (w.heap.size + 1) (w.alloc (.cells #[x, y, z] t)) wr) :
    wr.cell? ⟨w.heap.size, 0, none⟩ = some x ∧ wr.cell? ⟨w.heap.size, 1, none⟩ = some y ∧ wr.cell? ⟨w.heap.size, 2, none⟩ = some z := by
  refine ⟨?_, ?_, ?_⟩
  · rw [hb.cell (p := ⟨w.heap.size, 0, none⟩) (by simp), World.cell?_alloc_new]; rfl
  · rw [hb.cell (p := ⟨w.heap.size, 1, none⟩) (by simp), World.cell?_alloc_new]; rfl
  · rw [hb.cell (p := ⟨w.heap.size, 2, none⟩) (by simp), World.cell?_alloc_new]; rfl

theorem below_box {w wr : World} {o : Obj} (hb : Below (w.heap.size + 1) (w.alloc o) wr) : Below w.heap.size w wr :=
  ((Below.refl _ _).alloc (Nat.le_refl _) o).trans (hb.mono (by omega))

/-- What each loop over a replica's rows carries. -/
abbrev BoxR (w : World) (R : Rep) (a1 a2 a3 : Option Addr) (k1 k2 k3 : Nat) (wr : World) : Prop :=
  Below (w.heap.size + 1) (w.alloc (.cells #[.slice a1 R.n1 k1, .slice a2 R.n2 k2, .slice a3 R.n3 k3] 26)) wr

/-- a text that is too long. -/
def longB (t : ByteArray) : Bool := decide ((60 : Int) < (t.size : Int))
def Rep.txt2 (R : Rep) (i : Nat) : Bool := longB (R.d i).text || ((R.d i).gone && !(R.d i).text.toList.isEmpty)
def Rep.txt3 (R : Rep) (i : Nat) : Bool := longB (R.e i).text
/-- ErrText. -/
def Rep.txtB (R : Rep) : Bool := anyTo R.txt2 R.n2 || anyTo R.txt3 R.n3

def Rep.ris1 (R : Rep) (i : Nat) : Bool := decide ((R.c (i + 1)).site ≤ (R.c i).site)
def Rep.ris2 (R : Rep) (i : Nat) : Bool := decide ((R.d (i + 1)).id ≤ (R.d i).id)
/-- ErrRise. -/
def Rep.risB (R : Rep) : Bool := anyTo R.ris1 (R.n1 - 1) || anyTo R.ris2 (R.n2 - 1)

/-- The Count of a site's clock, of the first k; 0 if there is none. -/
def clockTo (c : Nat → Ck) (site : Int) : Nat → Option Int
  | 0 => none
  | k + 1 => match clockTo c site k with
    | some x => some x
    | none => if (c k).site = site then some (c k).count else none
def Rep.clk (R : Rep) (site : Int) : Int := (clockTo R.c site R.n1).getD 0
def Rep.unc (R : Rep) (i : Nat) : Bool := decide (R.clk (R.d i).site < (R.d i).count)
/-- ErrStamp. -/
def Rep.uncB (R : Rep) : Bool := anyTo R.unc R.n2
def stampB (x y : Cd) : Bool := x.site == y.site && x.count == y.count
def Rep.clash (R : Rep) (i : Nat) : Bool := anyTo (fun k => stampB (R.d i) (R.d k)) i
/-- ErrClash. -/
def Rep.clashB (R : Rep) : Bool := anyTo R.clash R.n2
/-- ErrMany. -/
def Rep.manyB (R : Rep) : Bool := decide (8 < R.n1) || (decide (40 < R.n2) || decide (16 < R.n3))
/-- P3. -/
def Rep.chk (R : Rep) : Int :=
  if R.manyB then 1 else if R.numB then 2 else if R.txtB then 3 else if R.risB then 4 else if R.uncB then 5 else if R.clashB then 6 else 0

theorem clockTo_hit {c : Nat → Ck} {site : Int} {k : Nat} : ∀ {n : Nat}, k < n → clockTo c site k = none → (c k).site = site → clockTo c site n = some (c k).count
  | 0, h, _, _ => by omega
  | n + 1, h, h0, hp => by
    by_cases e : k = n
    · subst e; simp [clockTo, h0, hp]
    · simp [clockTo, clockTo_hit (n := n) (by omega) h0 hp]
theorem clockTo_no {c : Nat → Ck} {site : Int} {k : Nat} (h : clockTo c site k = none) (hp : ¬ (c k).site = site) : clockTo c site (k + 1) = none := by simp [clockTo, h, hp]

end Go.Proofs.Ytmafnghokmcijaa
