/- Lists of writes and of numbers that come in, opened. -/
import Derived.Test.YtmafnghokmcijaaI
import Derived.Test.YtmafnghokmcijaaSI
import Derived.Carry
namespace Go.Proofs.Ytmafnghokmcijaa
open Go.ChangeShapes Go.WideShapes Go.ChangeAt Go.RowKit Go.Joins Go.Deep

section
variable {H : Type} {enc : TypeId × Value → H} {w : World} {base : Nat} {spare : Nat → Bool} {held : Bool}

theorem wf_i64 {n : Int} (h : (Lit.int .i64 n).wf = true) : I64 n := by
  simp [Lit.wf] at h
  exact h

theorem Try.cellsWrite : Try.prog.cellsOf 76 = 4 := by kernel_rfl
theorem Try.bytesWrite : Try.prog.bytesOf 76 = 40 := by kernel_rfl
theorem Try.bytesInt : Try.prog.bytesOf 3 = 8 := by kernel_rfl
theorem list4 {α : Type} {l : List α} (h : l.length = 4) : ∃ a b c d, l = [a, b, c, d] := by
  match l, h with
  | [a, b, c, d], _ => exact ⟨a, b, c, d, rfl⟩

/-- Writes whose numbers are ints. -/
def WrI : Type := { x : Wr // I64 x.site ∧ I64 x.id }
theorem read_write {n : Nat} {cs : List Value} {x : DataW H × List MemPlace} (h : DataW.trod enc Try.prog w base spare held n 76 cs = some x) : ∃ c : WrI, cs = c.1.cells := by
  obtain ⟨xs, k, _, _, hl, hlen, hf⟩ := DataW.trod_struct Try.underlying76 h
  rw [Try.cellsWrite] at hl
  obtain ⟨c0, c1, c2, c3, rfl⟩ := list4 hl
  obtain ⟨y0, y1, y2, y3, rfl⟩ := list4 (show xs.length = 4 from hlen)
  have g0 := hf 0 _ rfl
  have g1 := hf 1 _ rfl
  have g2 := hf 2 _ rfl
  have g3 := hf 3 _ rfl
  simp [Try.cellsInt, Try.cellsString, Try.cellsBool] at g0 g1 g2 g3
  obtain ⟨n0, e0, _, w0⟩ := DataW.trod_int Try.underlying3 g0
  obtain ⟨n1, e1, _, w1⟩ := DataW.trod_int Try.underlying3 g1
  obtain ⟨n2, e2, _⟩ := DataW.trod_bool Try.underlying4 g2
  obtain ⟨n3, e3, _⟩ := DataW.trod_string Try.underlying9 g3
  simp at e0 e1 e2 e3
  subst e0 e1 e2 e3
  exact ⟨⟨⟨n0, n1, n2, n3⟩, wf_i64 w0, wf_i64 w1⟩, rfl⟩
def IntI : Type := { x : Int // I64 x }
theorem read_int {n : Nat} {cs : List Value} {x : DataW H × List MemPlace} (h : DataW.trod enc Try.prog w base spare held n 3 cs = some x) : ∃ c : IntI, cs = [.int .i64 c.1] := by
  obtain ⟨n0, e0, _, w0⟩ := DataW.trod_int Try.underlying3 h
  exact ⟨⟨n0, wf_i64 w0⟩, e0⟩

set_option maxRecDepth 100000 in
/-- A list of writes. -/
theorem open_writes {r : Reach} {b0 : Nat} {v : Value} {d : DataW H} {p : List MemPlace} (hok : Value.okWide Try.prog w r b0 44 v) (h : DataW.Trod enc Try.prog w 0 (fun _ => true) held 44 v d p) (hw : ∀ q, q ∈ d.weights Try.prog 44 → q ≤ reachBytes) :
    ∃ (a : Option Addr) (n k : Nat) (f : Nat → Wr), v = .slice a n k ∧ Ws w a n f ∧ n ≤ k := by
  have : Inhabited WrI := ⟨⟨⟨0, 0, false, ⟨#[]⟩⟩, ⟨by decide, by decide⟩, ⟨by decide, by decide⟩⟩⟩
  obtain ⟨x, y, z, rfl⟩ := okWide_slice Try.underlying44 hok
  obtain ⟨fuel, hh⟩ := h
  obtain ⟨a, n, k, f, hv, hl, hk, hx⟩ := read_rows (fun c : WrI => c.1.cells) 4 Try.underlying44 Try.cellsWrite (by omega) (fun _ _ _ hh => read_write hh) hh
  have z := weigh Try.underlying44 Try.bytesWrite hk hx hw
  unfold reachBytes at z
  exact ⟨a, n, k, fun i => (f i).1, hv, ⟨hl, by omega, fun i _ => (f i).2⟩, hk⟩
set_option maxRecDepth 100000 in
/-- A list of numbers. -/
theorem open_nums {r : Reach} {b0 : Nat} {v : Value} {d : DataW H} {p : List MemPlace} (hok : Value.okWide Try.prog w r b0 45 v) (h : DataW.Trod enc Try.prog w 0 (fun _ => true) held 45 v d p) (hw : ∀ q, q ∈ d.weights Try.prog 45 → q ≤ reachBytes) :
    ∃ (a : Option Addr) (n k : Nat) (f : Nat → Int), v = .slice a n k ∧ Ns w a n f := by
  have : Inhabited IntI := ⟨⟨0, by decide, by decide⟩⟩
  obtain ⟨x, y, z, rfl⟩ := okWide_slice Try.underlying45 hok
  obtain ⟨fuel, hh⟩ := h
  obtain ⟨a, n, k, f, hv, hl, hk, hx⟩ := read_rows (fun c : IntI => [Value.int .i64 c.1]) 1 Try.underlying45 Try.cellsInt (by omega) (fun _ _ _ hh => read_int hh) hh
  have z := weigh Try.underlying45 Try.bytesInt hk hx hw
  unfold reachBytes at z
  exact ⟨a, n, k, fun i => (f i).1, hv, ⟨hl, by omega, fun i _ => (f i).2⟩⟩

variable {P : Program}
theorem trodAll_five {t0 t1 t2 t3 t4 : TypeId} {args : Array Value} {ds : List (DataW H)} {ps : List MemPlace} (h : DataW.TrodAll enc P w base spare held [t0, t1, t2, t3, t4] args.toList ds ps) :
    ∃ v0 v1 v2 v3 v4 d0 d1 d2 d3 d4 p0 p1 p2 p3 p4, args = #[v0, v1, v2, v3, v4] ∧ ds = [d0, d1, d2, d3, d4] ∧ ps = p0 ++ (p1 ++ (p2 ++ (p3 ++ p4))) ∧ DataW.Trod enc P w base spare held t0 v0 d0 p0 ∧ DataW.Trod enc P w base spare held t1 v1 d1 p1 ∧ DataW.Trod enc P w base spare held t2 v2 d2 p2 ∧ DataW.Trod enc P w base spare held t3 v3 d3 p3 ∧ DataW.Trod enc P w base spare held t4 v4 d4 p4 := by
  obtain ⟨v0, vs0, d0, ds0, p0, q0, hargs, rfl, rfl, hd0, r0⟩ := trodAll_cons h
  obtain ⟨v1, vs1, d1, ds1, p1, q1, rfl, rfl, rfl, hd1, r1⟩ := trodAll_cons r0
  obtain ⟨v2, vs2, d2, ds2, p2, q2, rfl, rfl, rfl, hd2, r2⟩ := trodAll_cons r1
  obtain ⟨v3, vs3, d3, ds3, p3, q3, rfl, rfl, rfl, hd3, r3⟩ := trodAll_cons r2
  obtain ⟨v4, vs4, d4, ds4, p4, q4, rfl, rfl, rfl, hd4, r4⟩ := trodAll_cons r3
  obtain ⟨rfl, rfl, rfl⟩ := trodAll_nil r4
  exact ⟨v0, v1, v2, v3, v4, d0, d1, d2, d3, d4, p0, p1, p2, p3, p4, by cases args; simp_all, rfl, by simp, hd0, hd1, hd2, hd3, hd4⟩
theorem trodAll_mk5 {t0 t1 t2 t3 t4 : TypeId} {v0 v1 v2 v3 v4 : Value} {d0 d1 d2 d3 d4 : DataW H} {p0 p1 p2 p3 p4 : List MemPlace} (h0 : DataW.Trod enc P w base spare held t0 v0 d0 p0) (h1 : DataW.Trod enc P w base spare held t1 v1 d1 p1) (h2 : DataW.Trod enc P w base spare held t2 v2 d2 p2)
    (h3 : DataW.Trod enc P w base spare held t3 v3 d3 p3) (h4 : DataW.Trod enc P w base spare held t4 v4 d4 p4) : DataW.TrodAll enc P w base spare held [t0, t1, t2, t3, t4] [v0, v1, v2, v3, v4] [d0, d1, d2, d3, d4] (p0 ++ (p1 ++ (p2 ++ (p3 ++ p4)))) :=
  ⟨p0, _, h0, trodAll_mk4 h1 h2 h3 h4, rfl⟩
end
end Go.Proofs.Ytmafnghokmcijaa
