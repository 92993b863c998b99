/- Texts of the proof, one behind the other; what each holds is said at its head. -/
import Derived.Test.YtdjpkgaicmklmabPartJoined0
import Derived.ProofKit
import Derived.SizedLaws
import Derived.Lib.SmallJoins
import Derived.Deep.Slices
import Derived.Test.YtdjpkgaicmklmabPartJoined7
import Derived.Carry
/- A replica that comes in, opened: its reading as data gives its rows. -/
namespace Go.Proofs.Ytdjpkgaicmklmab
open Go.ChangeShapes Go.WideShapes Go.ChangeAt Go.RowKit Go.Joins Go.Deep

section
variable {H : Type} {enc : TypeId × Value → H} {w : World} {base : Nat} {spare : Nat → Bool} {held : Bool}

theorem Try.cellsInt : Try.prog.cellsOf 3 = 1 := by kernel_rfl
theorem Try.cellsBool : Try.prog.cellsOf 4 = 1 := by kernel_rfl
theorem Try.cellsString : Try.prog.cellsOf 9 = 1 := by kernel_rfl
theorem Try.cellsClock : Try.prog.cellsOf 72 = 2 := by kernel_rfl
theorem Try.cellsCard : Try.prog.cellsOf 68 = 5 := by kernel_rfl
theorem Try.cellsEdit : Try.prog.cellsOf 61 = 2 := by kernel_rfl

theorem list2 {α : Type} {l : List α} (h : l.length = 2) : ∃ a b, l = [a, b] := by
  match l, h with
  | [a, b], _ => exact ⟨a, b, rfl⟩
theorem list5 {α : Type} {l : List α} (h : l.length = 5) : ∃ a b c d e, l = [a, b, c, d, e] := by
  match l, h with
  | [a, b, c, d, e], _ => exact ⟨a, b, c, d, e, rfl⟩

theorem read_clock {n : Nat} {cs : List Value} {x : DataW H × List MemPlace} (h : DataW.trod enc Try.prog w base spare held n 72 cs = some x) : ∃ c : Ck, cs = c.cells := by
  obtain ⟨xs, k, _, _, hl, hlen, hf⟩ := DataW.trod_struct Try.underlying72 h
  rw [Try.cellsClock] at hl
  obtain ⟨c0, c1, rfl⟩ := list2 hl
  obtain ⟨y0, y1, rfl⟩ := list2 (show xs.length = 2 from hlen)
  have g0 := hf 0 _ rfl
  have g1 := hf 1 _ rfl
  simp [Try.cellsInt] at g0 g1
  obtain ⟨n0, e0, _⟩ := DataW.trod_int Try.underlying3 g0
  obtain ⟨n1, e1, _⟩ := DataW.trod_int Try.underlying3 g1
  simp at e0 e1
  subst e0 e1
  exact ⟨⟨n0, n1⟩, rfl⟩

theorem read_edit {n : Nat} {cs : List Value} {x : DataW H × List MemPlace} (h : DataW.trod enc Try.prog w base spare held n 61 cs = some x) : ∃ c : Ed, cs = c.cells := by
  obtain ⟨xs, k, _, _, hl, hlen, hf⟩ := DataW.trod_struct Try.underlying61 h
  rw [Try.cellsEdit] at hl
  obtain ⟨c0, c1, rfl⟩ := list2 hl
  obtain ⟨y0, y1, rfl⟩ := list2 (show xs.length = 2 from hlen)
  have g0 := hf 0 _ rfl
  have g1 := hf 1 _ rfl
  simp [Try.cellsInt, Try.cellsString] at g0 g1
  obtain ⟨n0, e0, _⟩ := DataW.trod_int Try.underlying3 g0
  obtain ⟨n1, e1, _⟩ := DataW.trod_string Try.underlying9 g1
  simp at e0 e1
  subst e0 e1
  exact ⟨⟨n0, n1⟩, rfl⟩

theorem read_card {n : Nat} {cs : List Value} {x : DataW H × List MemPlace} (h : DataW.trod enc Try.prog w base spare held n 68 cs = some x) : ∃ c : Cd, cs = c.cells := by
  obtain ⟨xs, k, _, _, hl, hlen, hf⟩ := DataW.trod_struct Try.underlying68 h
  rw [Try.cellsCard] at hl
  obtain ⟨c0, c1, c2, c3, c4, rfl⟩ := list5 hl
  obtain ⟨y0, y1, y2, y3, y4, rfl⟩ := list5 (show xs.length = 5 from hlen)
  have g0 := hf 0 _ rfl
  have g1 := hf 1 _ rfl
  have g2 := hf 2 _ rfl
  have g3 := hf 3 _ rfl
  have g4 := hf 4 _ rfl
  simp [Try.cellsInt, Try.cellsString, Try.cellsBool] at g0 g1 g2 g3 g4
  obtain ⟨n0, e0, _⟩ := DataW.trod_int Try.underlying3 g0
  obtain ⟨n1, e1, _⟩ := DataW.trod_int Try.underlying3 g1
  obtain ⟨n2, e2, _⟩ := DataW.trod_int Try.underlying3 g2
  obtain ⟨n3, e3, _⟩ := DataW.trod_bool Try.underlying4 g3
  obtain ⟨n4, e4, _⟩ := DataW.trod_string Try.underlying9 g4
  simp at e0 e1 e2 e3 e4
  subst e0 e1 e2 e3 e4
  exact ⟨⟨n0, n1, n2, n3, n4⟩, rfl⟩

theorem addr_plus (b off j : Nat) : (⟨b, off, none⟩ : Addr).add j = ⟨b, off + j, none⟩ := by
  unfold Addr.add
  by_cases h : j = 0 <;> simp [h]

/-- A slice of records that comes in. -/
theorem read_rows {α : Type} [Inhabited α] (cells : α → List Value) (m : Nat) {t e : TypeId} {fuel : Nat} {v : Value} {x : DataW H × List MemPlace} (ht : Try.prog.underlying t = some (.slice e)) (hc : Try.prog.cellsOf e = m) (h0 : 0 < m)
    (hr : ∀ (n : Nat) (cs : List Value) (y : DataW H × List MemPlace), DataW.trod enc Try.prog w 0 (fun _ => true) held n e cs = some y → ∃ c : α, cs = cells c)
    (h : DataW.trod enc Try.prog w 0 (fun _ => true) held fuel t [v] = some x) :
    ∃ (a : Option Addr) (n k : Nat) (f : Nat → α), v = .slice a n k ∧ Lies w a n m (fun i => cells (f i)) ∧ n ≤ k ∧ ((x.1 = .nil ∧ n = 0) ∨ ∃ el sp : List (DataW H), x.1 = .slice el sp ∧ el.length + sp.length = k) := by
  rcases open_slice ht h with ⟨hcs, hx⟩ | ⟨a, len, cap, mm, n, D, Pl, hcs, _, hl, hm, hmm, hx, hel⟩
  · simp at hcs
    exact ⟨none, 0, 0, fun _ => default, hcs, Or.inl rfl, Nat.le_refl _, Or.inl ⟨by rw [hx], rfl⟩⟩
  · simp at hcs
    simp at hmm
    subst hmm
    rw [hc] at hel
    have hall : ∀ i, i < mm → ∃ c : α, w.cells? 0 (a.add (i * m)) m = some (cells c) := fun i hi => by
      obtain ⟨cs', h1, h2⟩ := hel i hi
      obtain ⟨c, rfl⟩ := hr _ _ _ h2
      exact ⟨c, h1⟩
    obtain ⟨f, hf⟩ := choose_lt (α := α) (p := fun i c => w.cells? 0 (a.add (i * m)) m = some (cells c)) hall
    refine ⟨some a, len, mm, f, hcs, ?_, hl, Or.inr ⟨_, _, by rw [hx], by simp; omega⟩⟩
    by_cases hz : len = 0
    · exact Or.inl hz
    · obtain ⟨b, off, spot⟩ := a
      obtain ⟨_, hlen0, hc0⟩ := World.cells?_some (hf 0 (by omega))
      have hcell : w.cell? ((Addr.add ⟨b, off, spot⟩ (0 * m)).add 0) = (cells (f 0))[0]? := hc0 0 h0
      rw [List.getElem?_eq_getElem (by omega)] at hcell
      have hspot : spot = none := by simpa [Addr.add] using World.cell?_spot hcell
      subst hspot
      have hblk : b < w.heap.size := by
        simp only [Nat.zero_mul, addr_plus, Nat.add_zero] at hcell
        unfold World.cell? at hcell
        rcases Nat.lt_or_ge b w.heap.size with h | h
        · exact h
        · simp [Array.getElem?_eq_none h] at hcell
      refine Or.inr ⟨b, off, rfl, hblk, fun i hi j v hj hv => ?_⟩
      obtain ⟨_, _, hci⟩ := World.cells?_some (hf i (by omega))
      have := hci j hj
      rw [addr_plus, addr_plus] at this
      rw [this, hv]

theorem Try.bytesClock : Try.prog.bytesOf 72 = 16 := by kernel_rfl
theorem Try.bytesCard : Try.prog.bytesOf 68 = 48 := by kernel_rfl
theorem Try.bytesEdit : Try.prog.bytesOf 61 = 24 := by kernel_rfl

/-- The bytes of a slice that came in. -/
theorem weigh {t e : TypeId} {d : DataW H} {n k b : Nat} (ht : Try.prog.underlying t = some (.slice e)) (hb : Try.prog.bytesOf e = b) (hn : n ≤ k)
    (hx : (d = .nil ∧ n = 0) ∨ ∃ el sp : List (DataW H), d = .slice el sp ∧ el.length + sp.length = k) (hw : ∀ q, q ∈ d.weights Try.prog t → q ≤ reachBytes) : n * b ≤ reachBytes := by
  rcases hx with ⟨_, rfl⟩ | ⟨el, sp, rfl, rfl⟩
  · simp
  · have := hw ((el.length + sp.length) * Try.prog.bytesOf e) (by simp [DataW.weights, ht])
    rw [hb] at this
    exact Nat.le_trans (Nat.mul_le_mul_right _ hn) this

set_option maxRecDepth 100000 in
/-- A replica that comes in. -/
theorem open_rep {r : Reach} {b0 : Nat} {v : Value} {d : DataW H} {p : List MemPlace} (hv : Value.okWide Try.prog w r b0 28 v)
    (h : DataW.Trod enc Try.prog w 0 (fun _ => true) held 28 v d p) (hw : ∀ q, q ∈ d.weights Try.prog 28 → q ≤ reachBytes) :
    ∃ (R : Rep) (a1 a2 a3 : Option Addr) (k1 k2 k3 : Nat), v = repV R a1 a2 a3 k1 k2 k3 ∧ Has w R a1 a2 a3 := by
  obtain ⟨v0, v1, v2, y0, y1, y2, n, rfl, rfl, _, h0, h1, h2⟩ := open_agg3 Try.underlying28 (by kernel_rfl) (by kernel_rfl) hv h
  have : Inhabited Ck := ⟨⟨0, 0⟩⟩
  have : Inhabited Cd := ⟨⟨0, 0, 0, false, ⟨#[]⟩⟩⟩
  have : Inhabited Ed := ⟨⟨0, ⟨#[]⟩⟩⟩
  obtain ⟨a1, n1, k1, c, rfl, l1, m1, x1⟩ := read_rows Ck.cells 2 Try.underlying24 Try.cellsClock (by omega) (fun _ _ _ hh => read_clock hh) h0
  obtain ⟨a2, n2, k2, dd, rfl, l2, m2, x2⟩ := read_rows Cd.cells 5 Try.underlying25 Try.cellsCard (by omega) (fun _ _ _ hh => read_card hh) h1
  obtain ⟨a3, n3, k3, e, rfl, l3, m3, x3⟩ := read_rows Ed.cells 2 Try.underlying26 Try.cellsEdit (by omega) (fun _ _ _ hh => read_edit hh) h2
  have hw' : ∀ q, q ∈ DataW.weightsEach Try.prog [24, 25, 26] [y0.1, y1.1, y2.1] → q ≤ reachBytes := fun q hq => hw q (by
    simp only [DataW.weights, Try.underlying28]; exact hq)
  simp only [DataW.weightsEach, List.mem_append] at hw'
  have z1 := weigh Try.underlying24 Try.bytesClock m1 x1 (fun q hq => hw' q (Or.inl hq))
  have z2 := weigh Try.underlying25 Try.bytesCard m2 x2 (fun q hq => hw' q (Or.inr (Or.inl hq)))
  have z3 := weigh Try.underlying26 Try.bytesEdit m3 x3 (fun q hq => hw' q (Or.inr (Or.inr (Or.inl hq))))
  unfold reachBytes at z1 z2 z3
  exact ⟨⟨n1, n2, n3, c, dd, e⟩, a1, a2, a3, k1, k2, k3, rfl, l1, l2, l3, by show n1 ≤ _; omega, by show n2 ≤ _; omega, by show n3 ≤ _; omega, by show 16 * n1 ≤ _; omega, by show 48 * n2 ≤ _; omega, by show 24 * n3 ≤ _; omega⟩
end
end Go.Proofs.Ytdjpkgaicmklmab

/- Lists of writes and of numbers that come in, opened. -/
namespace Go.Proofs.Ytdjpkgaicmklmab
open Go.ChangeShapes Go.WideShapes Go.ChangeAt Go.RowKit Go.Joins Go.Deep

section
variable {H : Type} {enc : TypeId × Value → H} {w : World} {base : Nat} {spare : Nat → Bool} {held : Bool}

theorem wf_i64 {n : Int} (h : (Lit.int .i64 n).wf = true) : I64 n := by
  simp [Lit.wf] at h
  exact h

theorem Try.cellsWrite : Try.prog.cellsOf 65 = 4 := by kernel_rfl
theorem Try.bytesWrite : Try.prog.bytesOf 65 = 40 := by kernel_rfl
theorem Try.bytesInt : Try.prog.bytesOf 3 = 8 := by kernel_rfl
theorem list4 {α : Type} {l : List α} (h : l.length = 4) : ∃ a b c d, l = [a, b, c, d] := by
  match l, h with
  | [a, b, c, d], _ => exact ⟨a, b, c, d, rfl⟩

/-- Writes whose numbers are ints. -/
def WrI : Type := { x : Wr // I64 x.site ∧ I64 x.id }
theorem read_write {n : Nat} {cs : List Value} {x : DataW H × List MemPlace} (h : DataW.trod enc Try.prog w base spare held n 65 cs = some x) : ∃ c : WrI, cs = c.1.cells := by
  obtain ⟨xs, k, _, _, hl, hlen, hf⟩ := DataW.trod_struct Try.underlying65 h
  rw [Try.cellsWrite] at hl
  obtain ⟨c0, c1, c2, c3, rfl⟩ := list4 hl
  obtain ⟨y0, y1, y2, y3, rfl⟩ := list4 (show xs.length = 4 from hlen)
  have g0 := hf 0 _ rfl
  have g1 := hf 1 _ rfl
  have g2 := hf 2 _ rfl
  have g3 := hf 3 _ rfl
  simp [Try.cellsInt, Try.cellsString, Try.cellsBool] at g0 g1 g2 g3
  obtain ⟨n0, e0, _, w0⟩ := DataW.trod_int Try.underlying3 g0
  obtain ⟨n1, e1, _, w1⟩ := DataW.trod_int Try.underlying3 g1
  obtain ⟨n2, e2, _⟩ := DataW.trod_bool Try.underlying4 g2
  obtain ⟨n3, e3, _⟩ := DataW.trod_string Try.underlying9 g3
  simp at e0 e1 e2 e3
  subst e0 e1 e2 e3
  exact ⟨⟨⟨n0, n1, n2, n3⟩, wf_i64 w0, wf_i64 w1⟩, rfl⟩
def IntI : Type := { x : Int // I64 x }
theorem read_int {n : Nat} {cs : List Value} {x : DataW H × List MemPlace} (h : DataW.trod enc Try.prog w base spare held n 3 cs = some x) : ∃ c : IntI, cs = [.int .i64 c.1] := by
  obtain ⟨n0, e0, _, w0⟩ := DataW.trod_int Try.underlying3 h
  exact ⟨⟨n0, wf_i64 w0⟩, e0⟩

set_option maxRecDepth 100000 in
/-- A list of writes. -/
theorem open_writes {r : Reach} {b0 : Nat} {v : Value} {d : DataW H} {p : List MemPlace} (hok : Value.okWide Try.prog w r b0 22 v) (h : DataW.Trod enc Try.prog w 0 (fun _ => true) held 22 v d p) (hw : ∀ q, q ∈ d.weights Try.prog 22 → q ≤ reachBytes) :
    ∃ (a : Option Addr) (n k : Nat) (f : Nat → Wr), v = .slice a n k ∧ Ws w a n f ∧ n ≤ k := by
  have : Inhabited WrI := ⟨⟨⟨0, 0, false, ⟨#[]⟩⟩, ⟨by decide, by decide⟩, ⟨by decide, by decide⟩⟩⟩
  obtain ⟨x, y, z, rfl⟩ := okWide_slice Try.underlying22 hok
  obtain ⟨fuel, hh⟩ := h
  obtain ⟨a, n, k, f, hv, hl, hk, hx⟩ := read_rows (fun c : WrI => c.1.cells) 4 Try.underlying22 Try.cellsWrite (by omega) (fun _ _ _ hh => read_write hh) hh
  have z := weigh Try.underlying22 Try.bytesWrite hk hx hw
  unfold reachBytes at z
  exact ⟨a, n, k, fun i => (f i).1, hv, ⟨hl, by omega, fun i _ => (f i).2⟩, hk⟩
set_option maxRecDepth 100000 in
/-- A list of numbers. -/
theorem open_nums {r : Reach} {b0 : Nat} {v : Value} {d : DataW H} {p : List MemPlace} (hok : Value.okWide Try.prog w r b0 23 v) (h : DataW.Trod enc Try.prog w 0 (fun _ => true) held 23 v d p) (hw : ∀ q, q ∈ d.weights Try.prog 23 → q ≤ reachBytes) :
    ∃ (a : Option Addr) (n k : Nat) (f : Nat → Int), v = .slice a n k ∧ Ns w a n f := by
  have : Inhabited IntI := ⟨⟨0, by decide, by decide⟩⟩
  obtain ⟨x, y, z, rfl⟩ := okWide_slice Try.underlying23 hok
  obtain ⟨fuel, hh⟩ := h
  obtain ⟨a, n, k, f, hv, hl, hk, hx⟩ := read_rows (fun c : IntI => [Value.int .i64 c.1]) 1 Try.underlying23 Try.cellsInt (by omega) (fun _ _ _ hh => read_int hh) hh
  have z := weigh Try.underlying23 Try.bytesInt hk hx hw
  unfold reachBytes at z
  exact ⟨a, n, k, fun i => (f i).1, hv, ⟨hl, by omega, fun i _ => (f i).2⟩⟩

variable {P : Program}
theorem trodAll_five {t0 t1 t2 t3 t4 : TypeId} {args : Array Value} {ds : List (DataW H)} {ps : List MemPlace} (h : DataW.TrodAll enc P w base spare held [t0, t1, t2, t3, t4] args.toList ds ps) :
    ∃ v0 v1 v2 v3 v4 d0 d1 d2 d3 d4 p0 p1 p2 p3 p4, args = #[v0, v1, v2, v3, v4] ∧ ds = [d0, d1, d2, d3, d4] ∧ ps = p0 ++ (p1 ++ (p2 ++ (p3 ++ p4))) ∧ DataW.Trod enc P w base spare held t0 v0 d0 p0 ∧ DataW.Trod enc P w base spare held t1 v1 d1 p1 ∧ DataW.Trod enc P w base spare held t2 v2 d2 p2 ∧ DataW.Trod enc P w base spare held t3 v3 d3 p3 ∧ DataW.Trod enc P w base spare held t4 v4 d4 p4 := by
  obtain ⟨v0, vs0, d0, ds0, p0, q0, hargs, rfl, rfl, hd0, r0⟩ := trodAll_cons h
  obtain ⟨v1, vs1, d1, ds1, p1, q1, rfl, rfl, rfl, hd1, r1⟩ := trodAll_cons r0
  obtain ⟨v2, vs2, d2, ds2, p2, q2, rfl, rfl, rfl, hd2, r2⟩ := trodAll_cons r1
  obtain ⟨v3, vs3, d3, ds3, p3, q3, rfl, rfl, rfl, hd3, r3⟩ := trodAll_cons r2
  obtain ⟨v4, vs4, d4, ds4, p4, q4, rfl, rfl, rfl, hd4, r4⟩ := trodAll_cons r3
  obtain ⟨rfl, rfl, rfl⟩ := trodAll_nil r4
  exact ⟨v0, v1, v2, v3, v4, d0, d1, d2, d3, d4, p0, p1, p2, p3, p4, by cases args; simp_all, rfl, by simp, hd0, hd1, hd2, hd3, hd4⟩
theorem trodAll_mk5 {t0 t1 t2 t3 t4 : TypeId} {v0 v1 v2 v3 v4 : Value} {d0 d1 d2 d3 d4 : DataW H} {p0 p1 p2 p3 p4 : List MemPlace} (h0 : DataW.Trod enc P w base spare held t0 v0 d0 p0) (h1 : DataW.Trod enc P w base spare held t1 v1 d1 p1) (h2 : DataW.Trod enc P w base spare held t2 v2 d2 p2)
    (h3 : DataW.Trod enc P w base spare held t3 v3 d3 p3) (h4 : DataW.Trod enc P w base spare held t4 v4 d4 p4) : DataW.TrodAll enc P w base spare held [t0, t1, t2, t3, t4] [v0, v1, v2, v3, v4] [d0, d1, d2, d3, d4] (p0 ++ (p1 ++ (p2 ++ (p3 ++ p4)))) :=
  ⟨p0, _, h0, trodAll_mk4 h1 h2 h3 h4, rfl⟩
end
end Go.Proofs.Ytdjpkgaicmklmab

