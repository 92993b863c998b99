/- Texts of the proof, one behind the other; what each holds is said at its head. -/
import Derived.Test.YtdjpkgaicmklmaaPartReplaysupto0
import Derived.Laws.Rows
import Derived.Test.YtdjpkgaicmklmaaPartReplaysupto2
import Derived.Test.YtdjpkgaicmklmaaPartReplaysupto1
/- Variables of the call's own that hold a struct: made, read, written, whole or by a field; the world stays a name. -/
namespace Go.Proofs.Ytdjpkgaicmklmaa
open Go.RowKit

/-- A variable of the call's own: its block and its cells. -/
structure Bx (w : World) (g e : Nat) (cs : List Value) : Prop where
  h : w.heap[g]? = some (.cells cs.toArray e)

theorem Bx.lt {w : World} {g e : Nat} {cs : List Value} (b : Bx w g e cs) : g < w.heap.size := (Array.getElem?_eq_some_iff.1 b.h).1
theorem Bx.cell {w : World} {g e : Nat} {cs : List Value} (b : Bx w g e cs) (k : Nat) : w.cell? ⟨g, k, none⟩ = cs[k]? := by
  simp [World.cell?, b.h]
theorem Bx.below {w w' : World} {B g e : Nat} {cs : List Value} (b : Bx w g e cs) (hb : Below B w w') (hg : g < B) : Bx w' g e cs := ⟨by rw [hb.block g hg]; exact b.h⟩
theorem Bx.own {w : World} {g e m : Nat} {cs : List Value} (b : Bx w g e cs) (hm : cs.length = m) : Own w g e m [cs] := ⟨by intro r hr; simp at hr; subst hr; exact hm, by simpa using b.h⟩
theorem Own.bx {w : World} {g e m : Nat} {cs : List Value} (b : Own w g e m [cs]) : Bx w g e cs := ⟨by simpa using b.block⟩
theorem Bx.upd {w w' : World} {g g' e : Nat} {cs : List Value} (b : Bx w g e cs) (hu : Upd g' w w') (hg : g ≠ g') : Bx w' g e cs := ((b.own rfl).upd hu hg).bx
theorem Bx.new (w : World) (e : Nat) (cs : Array Value) : Bx (w.alloc (.cells cs e)) w.heap.size e cs.toList := ⟨by show (w.heap.push _)[w.heap.size]? = _; simp⟩
theorem Bx.alloc {w : World} {g e : Nat} {cs : List Value} (b : Bx w g e cs) (o : Obj) : Bx (w.alloc o) g e cs := b.below ((Below.refl w.heap.size w).alloc (Nat.le_refl _) o) b.lt
theorem Bx.drewN {w : World} {g e : Nat} {cs : List Value} (b : Bx w g e cs) (n : Nat) : Bx (w.drewN n) g e cs := ⟨b.h⟩

section
variable {P : Program} {w : World} {ops : Array Oper} {rest : List Oper} {o : Oper} {a : Act} {Q : Exit → Act → World → Prop}

/-- 'var x T': a new variable. -/
theorem wpList_bnew (hgd : o.guard = none) (t : TypeId) (cs : List Value) (hz : ∀ w : World, (execOp a.eval o).run P w = .ok (.value (.pointer (some ⟨w.heap.size, 0, none⟩))) (w.alloc (.cells cs.toArray t)))
    (h : ∀ g w', g = w.heap.size → w'.heap.size = g + 1 → Bx w' g t cs → Below w.heap.size w w' → wpList P ops Q rest (a.put o.dst (.pointer (some ⟨g, 0, none⟩))) w') : wpList P ops Q (o :: rest) a w := by
  refine wpList_plain hgd fun K hK => ?_
  unfold Oper.wp
  rw [hz w]
  exact hK _ _ (h w.heap.size _ rfl (by show (w.heap.push _).size = _; simp) (by have := Bx.new w t cs.toArray; simpa using this) ((Below.refl _ _).alloc (Nat.le_refl _) _))

/-- A parameter's box: '&x' of a struct that was handed in. -/
theorem wpList_bbox (hgd : o.guard = none) (t : TypeId) (x : Operand) (ho : o.op = .box t x) (cs : List Value) (hx : a.eval x = .agg cs.toArray)
    (h : ∀ g w', g = w.heap.size → w'.heap.size = g + 1 → Bx w' g t cs → Below w.heap.size w w' → wpList P ops Q rest (a.put o.dst (.pointer (some ⟨g, 0, none⟩))) w') : wpList P ops Q (o :: rest) a w := by
  refine wpList_plain hgd fun K hK => ?_
  unfold Oper.wp execOp
  simp only [ho, hx, Value.cells, Sem.run_bind, Instr.box, newVar, newRow, run_newObj_alloc, Sem.run_pure, Result.andThen_ok]
  exact hK _ _ (h w.heap.size _ rfl (by show (w.heap.push _).size = _; simp) (by have := Bx.new w t cs.toArray; simpa using this) ((Below.refl _ _).alloc (Nat.le_refl _) _))

/-- The whole of it is read. -/
theorem wpList_bload (hgd : o.guard = none) (t : TypeId) (x : Operand) (ho : o.op = .load t x) (g e : Nat) (hx : a.eval x = .pointer (some ⟨g, 0, none⟩)) (cs : List Value) (hb : Bx w g e cs) (d : TypeDesc)
    (hu : P.underlying t = some d) (hd : (match d with | .struct _ | .array _ _ => true | _ => false) = true) (m : Nat) (hm : cs.length = m) (hi : (P.info? t).map (·.size) = some m)
    (h : wpList P ops Q rest (a.put o.dst (.agg cs.toArray)) w) : wpList P ops Q (o :: rest) a w :=
  wpList_load_row hgd t x ho g hx e cs.toArray _ d hb.h hu hd (by simpa [hm] using hi) h

/-- A field is read. -/
theorem wpList_bget (hgd : o.guard = none) (t : TypeId) (x : Operand) (ho : o.op = .load t x) (g e k : Nat) (hx : a.eval x = .pointer (some ⟨g, k, none⟩)) (cs : List Value) (hb : Bx w g e cs) (v : Value) (hv : cs[k]? = some v) (d : TypeDesc)
    (hu : P.underlying t = some d) (hd : (match d with | .struct _ | .array _ _ => true | _ => false) = false)
    (h : wpList P ops Q rest (a.put o.dst v) w) : wpList P ops Q (o :: rest) a w := by
  refine wpList_plain hgd fun K hK => ?_
  have hagg : (isAgg t).run P w = .ok false w := by
    unfold isAgg
    rw [Sem.run_bind, run_underlying hu w]
    cases d <;> simp_all
  have hc := hb.cell k
  rw [hv] at hc
  have hl : (load ⟨g, k, none⟩).run P w = .ok v w := by rw [run_load, hc]
  unfold Oper.wp execOp
  simp only [ho, hx, Instr.loadAt, Instr.sureAddr, Sem.run_bind, Sem.run_pure, Result.andThen_ok, loadVar, hagg]
  simp [hl, Result.andThen_ok]
  exact hK _ _ h

/-- The whole of it is written. -/
theorem wpList_bstore (hgd : o.guard = none) (p v : Operand) (t : TypeId) (ho : o.op = .store t p v) (g e : Nat) (hp : a.eval p = .pointer (some ⟨g, 0, none⟩)) (cs vs : List Value) (hv : a.eval v = .agg vs.toArray)
    (hb : Bx w g e cs) (m : Nat) (hm : vs.length = m) (hs : (P.info? t).map (·.size) = some m) (hl : cs.length = m) (h1 : ∀ x, x ∈ vs → x.oneCell' = true)
    (h : ∀ w', Bx w' g e vs → Upd g w w' → wpList P ops Q rest (a.put o.dst undef) w') : wpList P ops Q (o :: rest) a w := by
  refine wpList_store_rows hgd p v t ho e m hs g 0 ⟨g, 0, none⟩ (by simp) hp vs hv hm h1 [cs] (hb.own hl) (by simp) ?_
  intro w' ho' hu
  exact h w' (Own.bx (by simpa using ho')) hu

/-- A field is written. -/
theorem wpList_bput (hgd : o.guard = none) (p v : Operand) (t : TypeId) (ho : o.op = .store t p v) (g e k : Nat) (hp : a.eval p = .pointer (some ⟨g, k, none⟩)) (cs : List Value) (x : Value) (hv : a.eval v = x)
    (hb : Bx w g e cs) (hs : (P.info? t).map (·.size) = some 1) (hk : k < cs.length) (h1 : x.oneCell' = true) (hc : x.cells = #[x])
    (h : ∀ w', Bx w' g e (cs.set k x) → Upd g w w' → wpList P ops Q rest (a.put o.dst undef) w') : wpList P ops Q (o :: rest) a w := by
  refine wpList_plain hgd fun K hK => ?_
  have hst := run_storeCells_at P g k e [x] 0 cs.toArray w hb.h (by simp; omega) (by simpa using h1)
  have e2 : cs.toArray.toList.take (k + 0) ++ [x] ++ cs.toArray.toList.drop (k + 0 + [x].length) = cs.set k x := by
    simp [List.set_eq_take_append_cons_drop, hk]
  rw [e2] at hst
  cases hq : P.info? t with
  | none => simp [hq] at hs
  | some inf =>
    have hi' : inf.size = 1 := by simpa [hq] using hs
    unfold Oper.wp
    simp [execOp, ho, hp, hv, Instr.storeAt, Instr.sureAddr, storeVar, sizeOf, typeInfo, hq, hi', hc, hst, Result.andThen]
    exact hK _ _ (h _ ⟨setRow_heap w g _ _ e _ hb.h⟩ (Upd.setRow _ _ _))
end

/-- A call's results of which the first lies in a variable of the call's own. -/
theorem results_box2 {P : Program} {fn : Func} {p q : Nat} {ty : TypeId} (h : fn.results = #[.cell p ty, .tmp q]) (tmps : Array Value) (w : World) (g e : Nat) (cs : List Value) (d : TypeDesc) (v : Value)
    (hp : tmps.getD p undef = .pointer (some ⟨g, 0, none⟩)) (hb : Bx w g e cs) (hq : tmps.getD q undef = v)
    (hu : P.underlying ty = some d) (hd : (match d with | .struct _ | .array _ _ => true | _ => false) = true) (m : Nat) (hm : cs.length = m) (hi : (P.info? ty).map (·.size) = some m) :
    (results fn tmps).run P w = .ok (.tuple #[.agg cs.toArray, v]) w := by
  have hp' : tmps[p]?.getD undef = .pointer (some ⟨g, 0, none⟩) := by simpa using hp
  have hq' : tmps[q]?.getD undef = v := by simpa using hq
  simp [results, h, hp', hq', asAddr, run_loadVar_row w g e ty cs.toArray _ d hb.h hu hd (by simpa [hm] using hi)]
theorem results_box3 {P : Program} {fn : Func} {p q r : Nat} {ty : TypeId} (h : fn.results = #[.cell p ty, .tmp q, .tmp r]) (tmps : Array Value) (w : World) (g e : Nat) (cs : List Value) (d : TypeDesc) (v u : Value)
    (hp : tmps.getD p undef = .pointer (some ⟨g, 0, none⟩)) (hb : Bx w g e cs) (hq : tmps.getD q undef = v) (hr : tmps.getD r undef = u)
    (hu : P.underlying ty = some d) (hd : (match d with | .struct _ | .array _ _ => true | _ => false) = true) (m : Nat) (hm : cs.length = m) (hi : (P.info? ty).map (·.size) = some m) :
    (results fn tmps).run P w = .ok (.tuple #[.agg cs.toArray, v, u]) w := by
  have hp' : tmps[p]?.getD undef = .pointer (some ⟨g, 0, none⟩) := by simpa using hp
  have hq' : tmps[q]?.getD undef = v := by simpa using hq
  have hr' : tmps[r]?.getD undef = u := by simpa using hr
  simp [results, h, hp', hq', hr', asAddr, run_loadVar_row w g e ty cs.toArray _ d hb.h hu hd (by simpa [hm] using hi)]
theorem results_box1 {P : Program} {fn : Func} {p : Nat} {ty : TypeId} (h : fn.results = #[.cell p ty]) (tmps : Array Value) (w : World) (g e : Nat) (cs : List Value) (d : TypeDesc)
    (hp : tmps.getD p undef = .pointer (some ⟨g, 0, none⟩)) (hb : Bx w g e cs)
    (hu : P.underlying ty = some d) (hd : (match d with | .struct _ | .array _ _ => true | _ => false) = true) (m : Nat) (hm : cs.length = m) (hi : (P.info? ty).map (·.size) = some m) :
    (results fn tmps).run P w = .ok (.agg cs.toArray) w :=
  results_cell_row h tmps w g e cs.toArray _ d hp hb.h hu hd (by simpa [hm] using hi)
theorem two_boxes (w : World) (e1 e2 : Nat) (a b : Array Value) : Bx ((w.alloc (.cells a e1)).alloc (.cells b e2)) w.heap.size e1 a.toList ∧ Bx ((w.alloc (.cells a e1)).alloc (.cells b e2)) (w.heap.size + 1) e2 b.toList ∧
    ((w.alloc (.cells a e1)).alloc (.cells b e2)).heap.size = w.heap.size + 2 ∧ Below w.heap.size w ((w.alloc (.cells a e1)).alloc (.cells b e2)) := by
  have hs : (w.alloc (.cells a e1)).heap.size = w.heap.size + 1 := by show (w.heap.push _).size = _; simp
  have h2 := Bx.new (w.alloc (.cells a e1)) e2 b
  rw [hs] at h2
  exact ⟨(Bx.new w e1 a).alloc _, h2, by show ((w.alloc _).heap.push _).size = _; simp [hs], ((Below.refl _ _).alloc (Nat.le_refl _) _).alloc (by rw [hs]; omega) _⟩
theorem one_box (w : World) (e : Nat) (a : Array Value) : Bx (w.alloc (.cells a e)) w.heap.size e a.toList ∧ (w.alloc (.cells a e)).heap.size = w.heap.size + 1 ∧ Below w.heap.size w (w.alloc (.cells a e)) :=
  ⟨Bx.new w e a, by show (w.heap.push _).size = _; simp, (Below.refl _ _).alloc (Nat.le_refl _) _⟩

/-- A list that is not empty lies in such a variable. -/
theorem Vec.bx {w : World} {B e m : Nat} {ad : Option Addr} {n cap : Nat} {xs : List Value} (h : Vec w B e m ad n cap xs) (hn : 0 < n) : ∃ g sp, ad = some ⟨g, 0, none⟩ ∧ B ≤ g ∧ g < w.heap.size ∧ Bx w g e (xs ++ sp) := by
  rcases h.2 with ⟨h2, _⟩ | ⟨g, c, cur, hv, hB, hg, _, _, _, ht⟩
  · omega
  · simp at hv
    refine ⟨g, cur.toList.drop xs.length, hv.1, hB, (Array.getElem?_eq_some_iff.1 hg).1, ⟨?_⟩⟩
    have e : xs ++ cur.toList.drop xs.length = cur.toList := by
      have := List.take_append_drop xs.length cur.toList
      rw [show xs.length = n * m from h.1] at this ⊢
      rw [← this, ht]
      simp [show xs.length = n * m from h.1]
    rw [e, hg]
theorem Vec.upd {w w' : World} {B e m g : Nat} {ad : Option Addr} {n cap : Nat} {xs : List Value} (h : Vec w B e m ad n cap xs) (hu : Upd g w w') (hg : g < B) : Vec w' B e m ad n cap xs := by
  refine ⟨h.1, ?_⟩
  rcases h.2 with h2 | ⟨k, c, cur, hv, hB, hk, r⟩
  · exact Or.inl h2
  · exact Or.inr ⟨k, c, cur, hv, hB, by rw [hu.block k (by omega)]; exact hk, r⟩
end Go.Proofs.Ytdjpkgaicmklmaa

/- Records read back: the reference's four and record, walked. -/
namespace Go.Proofs.Ytdjpkgaicmklmaa
open Go.RowKit

/-- The number of four bytes. -/
def fourRd (s : List UInt8) : Int := ((s.getD 0 0).toNat : Int) * 16777216 + ((s.getD 1 0).toNat : Int) * 65536 + ((s.getD 2 0).toNat : Int) * 256 + ((s.getD 3 0).toNat : Int)

set_option maxRecDepth 100000 in
set_option maxHeartbeats 4000000 in
theorem rfour_rd (s : List UInt8) (w : World) (hs : s.length = 4) :
    Calls Try.prog 112 #[.string (str s)] w fun e w' => e = .returned (.int .i64 (fourRd s)) ∧ ∃ n, w' = w.drewN n := by
  have hz : (str s).size = 4 := by rw [str_size, hs]
  have HZ : Hid ((str s).size = 4) := hz
  have h0 : 0 < (str s).size := by omega
  have h1 : 1 < (str s).size := by omega
  have h2 : 2 < (str s).size := by omega
  have h3 : 3 < (str s).size := by omega
  have k0 : ((str s)[0]'h0) = s.getD 0 0 := by simp [List.getD, hs]; rfl
  have k1 : ((str s)[1]'h1) = s.getD 1 0 := by simp [List.getD, hs]; rfl
  have k2 : ((str s)[2]'h2) = s.getD 2 0 := by simp [List.getD, hs]; rfl
  have k3 : ((str s)[3]'h3) = s.getD 3 0 := by simp [List.getD, hs]; rfl
  have ha := (s.getD 0 0).toNat_lt; have hb := (s.getD 1 0).toNat_lt; have hc := (s.getD 2 0).toNat_lt; have hd := (s.getD 3 0).toNat_lt
  have HF : Hid (fourRd s = ((s.getD 0 0).toNat : Int) * 16777216 + ((s.getD 1 0).toNat : Int) * 65536 + ((s.getD 2 0).toNat : Int) * 256 + ((s.getD 3 0).toNat : Int)) := rfl
  generalize s.getD 0 0 = a at *
  generalize s.getD 1 0 = b at *
  generalize s.getD 2 0 = c at *
  generalize s.getD 3 0 = d at *
  clear hz hs
  go_enter Try.func112, Try.ntmps112
  go_wp2_with fail
  go_quiet (fail)
  go_wp2
  go_ret
  exact ⟨ret_int HF.out.symm, _, rfl⟩

/-- What bytes are, as a record. -/
def recRd : List UInt8 → Option Fd
  | [] => none
  | c :: s =>
    if c = 4 then match numsRd 1 s with
      | some ([q], r) => if q = 0 then (if r = [] then some (fdHead 0 0) else none) else if r.length = 4 then some (fdHead q (fourRd r)) else none
      | _ => none
    else if c = 1 then match numsRd 2 s with
      | some ([a, b], r) => if r = [] then some (fdClock ⟨a, b⟩) else none
      | _ => none
    else if c = 2 then match numsRd 3 s with
      | some ([a, b, d], g :: t) => if g.toNat ≤ 1 then some (fdCard ⟨a, b, d, g == 1, str t⟩) else none
      | _ => none
    else if c = 3 then match numsRd 1 s with
      | some ([a], t) => some (fdEdit ⟨a, str t⟩)
      | _ => none
    else none

abbrev fdV (f : Fd) : Value := .agg f.cells.toArray
def fd0 : Fd := ⟨0, 0, 0, 0, 0, 0, 0, false, ⟨#[]⟩⟩

/-- What record answers. -/
def RecAns (s : List UInt8) (e : Ending) : Prop := ∃ (f : Fd) (b : Bool), e = .returned (.tuple #[fdV f, .bool b]) ∧ recRd s = if b then some f else none


/-- A record of which the kind alone is known. -/
def fdK (k : Int) : Fd := ⟨0, k, 0, 0, 0, 0, 0, false, ⟨#[]⟩⟩

set_option maxRecDepth 100000 in
set_option maxHeartbeats 4000000 in
theorem rec_edit (s : List UInt8) (w : World) (hs : s.length ≤ 9223372036854775806) :
    Calls Try.prog 131 #[.string (str (3 :: s))] w fun e w' => RecAns (3 :: s) e ∧ Below w.heap.size w w' := by
  have h0 : 0 < (str (3 :: s)).size := by rw [str_size]; simp
  have hx : (str (3 :: s)).extract 1 (str (3 :: s)).size = str s := by rw [str_extract, str_size]; simp
  have hne : (str (3 :: s)).toList.isEmpty = false := by rw [str_toList]; rfl
  have hk : wrap64 (((str (3 :: s))[0]'h0).toNat : Int) = 3 := by
    have e : ((str (3 :: s))[0]'h0).toNat = 3 := rfl
    rw [e]; unfold wrap64; omega
  have hle : (1 : Int) ≤ ((str (3 :: s)).size : Int) := by omega
  go_enter Try.func131, Try.ntmps131
  go_wp2_with fail
  obtain ⟨hR, hF, hW, hB⟩ := two_boxes w 64 64 fd0.cells.toArray #[.int .i64 0, .int .i64 3, .int .i64 0, .int .i64 0, .int .i64 0, .int .i64 0, .int .i64 0, .bool false, .string ⟨#[]⟩]
  refine (rnums_any s 1 _ (by omega) (by omega)).mono ?_
  rintro e w2 ⟨hA, hb2⟩
  replace hF := hF.below hb2 hF.lt
  replace hR := hR.below hb2 hR.lt
  have hB2 : Below w.heap.size w w2 := hB.trans (hb2.mono (Nat.le_trans (by omega : w.heap.size ≤ w.heap.size + 2) (Nat.le_of_eq hW.symm)))
  clear hB hx hne hk hle
  unfold NumsAns at hA
  cases hn : numsRd 1 s with
  | none =>
    rw [hn] at hA
    obtain rfl := hA
    have HN : Hid (recRd (3 :: s) = none) := by show _ = _; simp [recRd, hn]
    clear hn
    go_wp2_with (first
      | (refine wpList_bput (by rfl) _ _ 3 (by rfl) (w.heap.size + 1) 64 _ (by rfl) _ (.int .i64 _) (by rfl) hF (by kernel_rfl) (by simp) (by rfl) (by rfl) ?_; intro w9 hF9 hU9; replace hF := hF9; replace hR := hR.upd hU9 (by omega); replace hB2 := hU9.below hB2 (by omega); clear hF9 hU9; dsimp only [List.set] at hF)
      | (refine wpList_bput (by rfl) _ _ 9 (by rfl) (w.heap.size + 1) 64 _ (by rfl) _ (.string _) (by rfl) hF (by kernel_rfl) (by simp) (by rfl) (by rfl) ?_; intro w9 hF9 hU9; replace hF := hF9; replace hR := hR.upd hU9 (by omega); replace hB2 := hU9.below hB2 (by omega); clear hF9 hU9; dsimp only [List.set] at hF)
      | (refine wpList_bput (by rfl) _ _ 4 (by rfl) (w.heap.size + 1) 64 _ (by rfl) _ (.bool _) (by rfl) hF (by kernel_rfl) (by simp) (by rfl) (by rfl) ?_; intro w9 hF9 hU9; replace hF := hF9; replace hR := hR.upd hU9 (by omega); replace hB2 := hU9.below hB2 (by omega); clear hF9 hU9; dsimp only [List.set] at hF)
      | (refine wpList_bload (by rfl) _ _ (by rfl) (w.heap.size + 1) 64 (by rfl) _ hF _ Try.underlying64 (by rfl) 9 (by rfl) (by kernel_rfl) ?_)
      | (refine wpList_bstore (by rfl) _ _ _ (by rfl) w.heap.size 64 (by rfl) _ _ (by rfl) hR 9 (by rfl) (by kernel_rfl) (by rfl) (by intro x hx; simp at hx; rcases hx with rfl | rfl | rfl | rfl | rfl | rfl | rfl | rfl | rfl <;> rfl) ?_; intro w9 hR9 hU9; replace hR := hR9; replace hF := hF.upd hU9 (by omega); replace hB2 := hU9.below hB2 (by omega); clear hR9 hU9)
      | (refine wpList_bget (by rfl) 3 _ (by rfl) (w.heap.size + 1) 64 _ (by rfl) _ hF _ (by rfl) _ Try.underlying3 (by rfl) ?_))
    exact bodyPost_ret (v := .tuple #[fdV (fdK 3), .bool false]) (results_box2 (by rfl) _ _ w.heap.size 64 _ _ _ (by rfl) hR (by rfl) Try.underlying64 (by rfl) 9 (by rfl) (by kernel_rfl)) rfl ⟨⟨_, false, rfl, HN.out⟩, hB2⟩
  | some p =>
    obtain ⟨l, r⟩ := p
    rw [hn] at hA
    obtain ⟨ad, cap, rfl, hv⟩ := hA
    replace hv := hv.mono (show w.heap.size + 2 ≤ _ from Nat.le_of_eq hW.symm)
    have hl := (numsRd_length 1 s hn).1
    have hrl := (numsRd_length 1 s hn).2
    have hvl := hv.length
    obtain ⟨g, sp, rfl, hg, hgl, hL⟩ := hv.bx (by omega)
    clear hv hvl
    obtain ⟨q, rfl⟩ : ∃ q, l = [q] := by match l, hl with | [q], _ => exact ⟨q, rfl⟩
    have HN : Hid (recRd (3 :: s) = some (fdEdit ⟨q, str r⟩)) := by show _ = _; simp [recRd, hn]
    clear hn hl
    go_wp2_with (first
      | (refine wpList_bput (by rfl) _ _ 3 (by rfl) (w.heap.size + 1) 64 _ (by rfl) _ (.int .i64 _) (by rfl) hF (by kernel_rfl) (by simp) (by rfl) (by rfl) ?_; intro w9 hF9 hU9; replace hF := hF9; replace hR := hR.upd hU9 (by omega); replace hL := hL.upd hU9 (by omega); replace hB2 := hU9.below hB2 (by omega); clear hF9 hU9; dsimp only [List.set] at hF)
      | (refine wpList_bput (by rfl) _ _ 9 (by rfl) (w.heap.size + 1) 64 _ (by rfl) _ (.string _) (by rfl) hF (by kernel_rfl) (by simp) (by rfl) (by rfl) ?_; intro w9 hF9 hU9; replace hF := hF9; replace hR := hR.upd hU9 (by omega); replace hL := hL.upd hU9 (by omega); replace hB2 := hU9.below hB2 (by omega); clear hF9 hU9; dsimp only [List.set] at hF)
      | (refine wpList_bput (by rfl) _ _ 4 (by rfl) (w.heap.size + 1) 64 _ (by rfl) _ (.bool _) (by rfl) hF (by kernel_rfl) (by simp) (by rfl) (by rfl) ?_; intro w9 hF9 hU9; replace hF := hF9; replace hR := hR.upd hU9 (by omega); replace hL := hL.upd hU9 (by omega); replace hB2 := hU9.below hB2 (by omega); clear hF9 hU9; dsimp only [List.set] at hF)
      | (refine wpList_bload (by rfl) _ _ (by rfl) (w.heap.size + 1) 64 (by rfl) _ hF _ Try.underlying64 (by rfl) 9 (by rfl) (by kernel_rfl) ?_)
      | (refine wpList_bstore (by rfl) _ _ _ (by rfl) w.heap.size 64 (by rfl) _ _ (by rfl) hR 9 (by rfl) (by kernel_rfl) (by rfl) (by intro x hx; simp at hx; rcases hx with rfl | rfl | rfl | rfl | rfl | rfl | rfl | rfl | rfl <;> rfl) ?_; intro w9 hR9 hU9; replace hR := hR9; replace hF := hF.upd hU9 (by omega); replace hB2 := hU9.below hB2 (by omega); clear hR9 hU9)
      | (refine wpList_bget (by rfl) 3 _ (by rfl) (w.heap.size + 1) 64 _ (by rfl) _ hF _ (by rfl) _ Try.underlying3 (by rfl) ?_)
      | (refine wpList_bget (by rfl) 3 _ (by rfl) g 3 _ (by rfl) _ hL _ (by rfl) _ Try.underlying3 (by rfl) ?_))
    exact bodyPost_ret (v := .tuple #[fdV (fdEdit ⟨q, str r⟩), .bool true]) (results_box2 (by rfl) _ _ w.heap.size 64 _ _ _ (by rfl) hR (by rfl) Try.underlying64 (by rfl) 9 (by rfl) (by kernel_rfl)) rfl ⟨⟨_, true, rfl, HN.out⟩, hB2⟩
end Go.Proofs.Ytdjpkgaicmklmaa

/- Numbers and sums read back, without the program: when the bytes that were added up are those that are written. -/
namespace Go.Proofs.Ytdjpkgaicmklmaa
open Go.RowKit

/-- Digits, the lowest first. -/
def valB : List UInt8 → Int
  | [] => 0
  | c :: s => ((c.toNat % 128 : Nat) : Int) + 128 * valB s
/-- All but the last byte have 128 added. -/
def wfB : List UInt8 → Prop
  | [] => False
  | [c] => c.toNat < 128
  | c :: d :: t => 128 ≤ c.toNat ∧ wfB (d :: t)

theorem valB_nonneg : ∀ l, 0 ≤ valB l
  | [] => by simp [valB]
  | c :: s => by have := valB_nonneg s; simp only [valB]; omega
theorem byt_of (c : UInt8) (n : Int) (h : n = (c.toNat : Int)) : byt n = c := by
  subst h; simp [byt]
theorem numB_wf : ∀ (k : Nat) (l : List UInt8), wfB l → l.length ≤ k + 1 → ((numI k (valB l)).map byt = l ↔ (l.length = 1 ∨ l.getLast? ≠ some 0))
  | k, [], h, _ => h.elim
  | k, [c], h, _ => by
    have h : c.toNat < 128 := h
    have e : valB [c] = (c.toNat : Int) := by simp only [valB]; omega
    rw [e, numI_small k _ (by omega)]
    simp [byt_of c _ rfl]
  | 0, c :: d :: t, h, hl => by simp at hl
  | k + 1, c :: d :: t, h, hl => by
    obtain ⟨h1, h2⟩ := h
    have ih := numB_wf k (d :: t) h2 (by simp at hl ⊢; omega)
    have hn := valB_nonneg (d :: t)
    have hc := c.toNat_lt
    have e : valB (c :: d :: t) = ((c.toNat % 128 : Nat) : Int) + 128 * valB (d :: t) := rfl
    have hlast : (c :: d :: t).getLast? = (d :: t).getLast? := by simp [List.getLast?_cons]
    rw [hlast]
    simp only [numI]
    by_cases hv : valB (c :: d :: t) < 128
    · rw [if_pos hv]
      have h0 : valB (d :: t) = 0 := by omega
      constructor
      · intro h; have := congrArg List.length h; simp at this
      · intro h
        exfalso
        rcases h with h | h
        · simp at h
        · rw [h0] at ih
          have e0 : (numI k 0).map byt = [0] := by rw [numI_small k 0 (by omega)]; rfl
          rw [e0] at ih
          have := ih.2 (Or.inr h)
          rw [← this] at h
          exact h rfl
    · rw [if_neg hv]
      have hq : valB (c :: d :: t) / 128 = valB (d :: t) := by omega
      have hr : valB (c :: d :: t) % 128 + 128 = (c.toNat : Int) := by omega
      rw [hq, hr, List.map_cons, byt_of c _ rfl]
      constructor
      · intro h
        have h' : (numI k (valB (d :: t))).map byt = d :: t := by simpa using h
        rcases ih.1 h' with h3 | h3
        · right
          have ht : t = [] := by simpa using h3
          subst ht
          intro hh
          have hd : d = 0 := by simpa using hh
          subst hd
          have : valB [0] = 0 := rfl
          omega
        · exact Or.inr h3
      · intro h
        have h3 : (d :: t).getLast? ≠ some 0 := by
          rcases h with h | h
          · simp at h
          · exact h
        rw [ih.2 (Or.inr h3)]

theorem rdAcc_val : ∀ (k i : Nat) (v : Int) (s : List UInt8) {v' : Int} {n : Nat}, rdAcc k i v s = some (v', n) → wfB (s.take (n - i)) ∧ v' = v + valB (s.take (n - i)) * 128 ^ i ∧ (s.take (n - i)).length = n - i ∧ i < n ∧ n ≤ i + k
  | 0, _, _, _, _, _, h => by simp [rdAcc] at h
  | _ + 1, _, _, [], _, _, h => by simp [rdAcc] at h
  | k + 1, i, v, c :: s, v', n, h => by
    simp only [rdAcc] at h
    split at h
    · rename_i hc
      simp at h
      obtain ⟨rfl, rfl⟩ := h
      have e1 : i + 1 - i = 1 := by omega
      have : ((c.toNat % 128 : Nat) : Int) = (c.toNat : Int) % 128 := by omega
      rw [e1]
      simp [wfB, valB, hc]
    · rename_i hc
      obtain ⟨h1, h2, h3, h4, h5⟩ := rdAcc_val k (i + 1) _ s h
      have e1 : n - i = (n - (i + 1)) + 1 := by omega
      rw [e1, List.take_succ_cons]
      refine ⟨?_, ?_, by simpa using h3, by omega, by omega⟩
      · cases ht : s.take (n - (i + 1)) with
        | nil => rw [ht] at h1; exact h1.elim
        | cons d t => rw [ht] at h1; exact ⟨by omega, h1⟩
      · rw [h2, valB, Int.pow_succ]
        have : ∀ a b c q : Int, a + b * q + c * (q * 128) = a + (b + 128 * c) * q := by intro a b c q; rw [Int.add_mul]; have : c * (q * 128) = 128 * c * q := by rw [Int.mul_comm 128 c, Int.mul_assoc, Int.mul_comm q 128]
                                                                                        rw [this]; omega
        exact this _ _ _ _

/-- Bytes that were added up are those that are written, but for a needless 0 at the end. -/
theorem numRd_last {s : List UInt8} {v : Int} {i : Nat} (h : rdAcc 9 0 0 s = some (v, i + 1)) (hi : i < s.length) : numRd s = if s[i].toNat % 128 = 0 ∧ 0 < i then none else some (v, i + 1) := by
  obtain ⟨h1, h2, h3, _, h5⟩ := rdAcc_val 9 0 0 s h
  simp only [Nat.sub_zero] at h1 h2 h3
  have hv : v = valB (s.take (i + 1)) := by rw [h2]; simp
  have hw := numB_wf 9 (s.take (i + 1)) h1 (by omega)
  rw [← hv] at hw
  have hlast : (s.take (i + 1)).getLast? = some s[i] := by
    rw [List.getLast?_eq_getElem?, h3]; simp [hi]
  have hlt : s[i].toNat < 128 := by
    have : ∀ l : List UInt8, wfB l → ∀ c, l.getLast? = some c → c.toNat < 128 := by
      intro l
      induction l with
      | nil => intro h; exact h.elim
      | cons a l ih =>
        cases l with
        | nil => intro h c hc; simp at hc; subst hc; exact h
        | cons b l => intro h c hc; exact ih h.2 c (by simpa [List.getLast?_cons] using hc)
    exact this _ h1 _ hlast
  unfold numRd
  rw [h]
  simp only
  rw [hlast, h3] at hw
  unfold numB
  by_cases hz : s[i].toNat % 128 = 0 ∧ 0 < i
  · rw [if_pos hz, if_neg]
    intro hh
    rcases hw.1 hh with h | h
    · omega
    · exact h (by rw [show s[i] = 0 from UInt8.toNat_inj.1 (by show s[i].toNat = 0; omega)])
  · rw [if_neg hz, if_pos]
    refine hw.2 ?_
    by_cases h0 : i = 0
    · left; omega
    · right
      intro hh
      have : s[i] = 0 := by simpa using hh
      rw [this] at hz
      exact hz ⟨rfl, by omega⟩

theorem byt_toNat (n : Int) (h0 : 0 ≤ n) (h1 : n < 256) : ((byt n).toNat : Int) = n := by
  simp [byt]; omega
theorem fourRd_four (n : Int) (h0 : 0 ≤ n) (h1 : n < 4294967296) : fourRd (fourI n) = n := by
  have a := byt_toNat (n / 16777216) (by omega) (by omega)
  have b := byt_toNat (n / 65536 % 256) (by omega) (by omega)
  have c := byt_toNat (n / 256 % 256) (by omega) (by omega)
  have d := byt_toNat (n % 256) (by omega) (by omega)
  simp only [fourRd, fourI, List.getD_cons_zero, List.getD_cons_succ]
  rw [a, b, c, d]
  omega
theorem four_fourRd {s : List UInt8} (h : s.length = 4) : fourI (fourRd s) = s := by
  match s, h with
  | [a, b, c, d], _ =>
    have := a.toNat_lt; have := b.toNat_lt; have := c.toNat_lt; have := d.toNat_lt
    simp only [fourRd, fourI, List.getD_cons_zero, List.getD_cons_succ]
    rw [byt_of a _ (by omega), byt_of b _ (by omega), byt_of c _ (by omega), byt_of d _ (by omega)]
theorem fourRd_iff {s : List UInt8} (h : s.length = 4) (n : Int) (h0 : 0 ≤ n) (h1 : n < 4294967296) : fourRd s = n ↔ fourI n = s := by
  constructor
  · intro e; rw [← e]; exact four_fourRd h
  · intro e; rw [← e]; exact fourRd_four n h0 h1
theorem fourRd_bound {s : List UInt8} (h : s.length = 4) : 0 ≤ fourRd s ∧ fourRd s < 4294967296 := by
  match s, h with
  | [a, b, c, d], _ =>
    have := a.toNat_lt; have := b.toNat_lt; have := c.toNat_lt; have := d.toNat_lt
    simp only [fourRd, List.getD_cons_zero, List.getD_cons_succ]
    omega
end Go.Proofs.Ytdjpkgaicmklmaa

/- The program's firstNumber and fromFourBytes, walked. -/
namespace Go.Proofs.Ytdjpkgaicmklmaa
open Go.RowKit

set_option maxRecDepth 100000 in
set_option maxHeartbeats 4000000 in
theorem firstNumber_any (s : List UInt8) (w : World) (hs : s.length ≤ 9223372036854775807) :
    Calls Try.prog 173 #[.string (str s)] w fun e w' => e = .returned (rdV (numRd s)) ∧ w' = w := by
  have hz := str_size s
  have HZ : Hid ((str s).size = s.length) := hz
  clear hz
  have hs2 : (str s).size ≤ 9223372036854775807 := by rw [HZ.out]; exact hs
  go_enter Try.func173, Try.ntmps173
  go_wp2
  go_loopw [4, 5, 6] (fun u q _ wr => ∃ (i : Nat) (v : Int), i ≤ 9 ∧ i ≤ (str s).size ∧ q = .int .i64 i ∧ u = .int .i64 v ∧ 0 ≤ v ∧ v < 128 ^ i ∧ rdAcc (9 - i) i v (s.drop i) = rdAcc 9 0 0 s ∧ wr = w) (fun _ q _ _ => 9 - (intOf q).toNat)
  case atStart => exact ⟨0, 0, by omega, by omega, rfl, rfl, by omega, by omega, rfl, rfl⟩
  case round =>
    obtain ⟨i, v, hi9, hi, rfl, rfl, v0, v1, hr, hw⟩ := hrel
    obtain rfl := hw.symm
    have HR : Hid (rdAcc (9 - i) i v (s.drop i) = rdAcc 9 0 0 s) := hr
    clear hr
    by_cases hlt : i < (str s).size
    · by_cases hl9 : i < 9
      · have hlt2 : i < s.length := by rw [← HZ.out]; exact hlt
        have hp := pow128 i (by omega)
        have HV : Hid (v < 128 ^ i) := v1
        clear v1
        have hb := (s[i]).toNat_lt
        have e0 : ((str s)[i]'hlt).toNat = s[i].toNat := rfl
        have hb2 : ((str s)[i]'hlt).toNat < 256 := by rw [e0]; exact hb
        have e2 : wrap64 (((str s)[i]'hlt).toNat : Int) = (((str s)[i]'hlt).toNat : Int) := by unfold wrap64; omega
        have hm0 : ((s[i].toNat % 128 : Nat) : Int) = (s[i].toNat : Int) % 128 := by omega
        have ev : wrap64 (v + wrap64 ((((str s)[i]'hlt).toNat : Int) % 128 * 2 ^ (7 * i))) = v + ((s[i].toNat % 128 : Nat) : Int) * 128 ^ i := by
          have e1 : (2 : Int) ^ (7 * i) = 128 ^ i := by rw [Int.pow_mul]; rfl
          rw [e0, e1, ← hm0]
          have h1 : ((s[i].toNat % 128 : Nat) : Int) * 128 ^ i ≤ 127 * 128 ^ i := Int.mul_le_mul_of_nonneg_right (by omega) (by omega)
          have h0 : 0 ≤ ((s[i].toNat % 128 : Nat) : Int) * 128 ^ i := Int.mul_nonneg (by omega) (by omega)
          have h2 := HV.out
          generalize ((s[i].toNat % 128 : Nat) : Int) * 128 ^ i = m at *
          generalize (128 : Int) ^ i = q at *
          unfold wrap64
          omega
        have hv' : 0 ≤ v + ((s[i].toNat % 128 : Nat) : Int) * 128 ^ i ∧ v + ((s[i].toNat % 128 : Nat) : Int) * 128 ^ i < 128 ^ (i + 1) ∧ v + ((s[i].toNat % 128 : Nat) : Int) * 128 ^ i ≤ 9223372036854775807 := by
          have h1 : ((s[i].toNat % 128 : Nat) : Int) * 128 ^ i ≤ 127 * 128 ^ i := Int.mul_le_mul_of_nonneg_right (by omega) (by omega)
          have h0 : 0 ≤ ((s[i].toNat % 128 : Nat) : Int) * 128 ^ i := Int.mul_nonneg (by omega) (by omega)
          have h2 := HV.out
          rw [Int.pow_succ]
          generalize ((s[i].toNat % 128 : Nat) : Int) * 128 ^ i = m at *
          generalize (128 : Int) ^ i = q at *
          omega
        have hstep : rdAcc 9 0 0 s = if s[i].toNat < 128 then some (v + ((s[i].toNat % 128 : Nat) : Int) * 128 ^ i, i + 1) else rdAcc (9 - (i + 1)) (i + 1) (v + ((s[i].toNat % 128 : Nat) : Int) * 128 ^ i) (s.drop (i + 1)) := by
          rw [← HR.out, List.drop_eq_getElem_cons hlt2, show 9 - i = (9 - (i + 1)) + 1 by omega]
          rfl
        have HS : Hid (rdAcc 9 0 0 s = if s[i].toNat < 128 then some (v + ((s[i].toNat % 128 : Nat) : Int) * 128 ^ i, i + 1) else rdAcc (9 - (i + 1)) (i + 1) (v + ((s[i].toNat % 128 : Nat) : Int) * 128 ^ i) (s.drop (i + 1))) := hstep
        have HE2 : Hid (wrap64 (v + wrap64 ((((str s)[i]'hlt).toNat : Int) % 128 * 2 ^ (7 * i))) = v + ((s[i].toNat % 128 : Nat) : Int) * 128 ^ i) := ev
        clear hstep ev HR hm0 e0
        generalize hV : v + ((s[i].toNat % 128 : Nat) : Int) * 128 ^ i = V at *
        clear hV
        by_cases hc : ((str s)[i]'hlt).toNat < 128
        · have HA : Hid (rdAcc 9 0 0 s = some (V, i + 1)) := by show _ = _; rw [HS.out]; exact if_pos hc
          have HN := numRd_last HA.out hlt2
          have hc' : ¬ (128 ≤ ((str s)[i]'hlt).toNat) := by omega
          by_cases hd : ((str s)[i]'hlt).toNat % 128 = 0
          · have hd' : ((((str s)[i]'hlt).toNat : Int) % 128 == 0) = true := by simp; omega
            by_cases hi0 : 0 < i
            · have HN2 : Hid (numRd s = none) := by show _ = _; rw [HN, if_pos ⟨hd, hi0⟩]
              clear HN HA HS
              go_wp2_with fail
              go_ret2
              exact ⟨by rw [HN2.out]; rfl, by first | rfl | trivial⟩
            · have HN2 : Hid (numRd s = some (V, i + 1)) := by show _ = _; rw [HN, if_neg (fun h => hi0 h.2)]
              clear HN HA HS
              go_wp2_with fail
              go_ret2
              exact ⟨by rw [HN2.out, ← HE2.out]; rfl, by first | rfl | trivial⟩
          · have hd' : ((((str s)[i]'hlt).toNat : Int) % 128 == 0) = false := by rw [beq_eq_false_iff_ne]; omega
            have HN2 : Hid (numRd s = some (V, i + 1)) := by show _ = _; rw [HN, if_neg (fun h => hd h.1)]
            clear HN HA HS
            go_wp2_with fail
            go_ret2
            exact ⟨by rw [HN2.out, ← HE2.out]; rfl, by first | rfl | trivial⟩
        · have HA : Hid (rdAcc (9 - (i + 1)) (i + 1) V (s.drop (i + 1)) = rdAcc 9 0 0 s) := by show _ = _; rw [HS.out]; exact (if_neg hc).symm
          clear HS
          go_wp2_with fail
          rw [HE2.out]
          go_roundw
          case rel => exact ⟨i + 1, V, by omega, by omega, by go_num, rfl, hv'.1, hv'.2.1, HA.out, by first | rfl | trivial⟩
          case measure => simp [intOf]; omega
      · have HN : Hid (numRd s = none) := by
          have : 9 - i = 0 := by omega
          have h := HR.out
          rw [this] at h
          show _ = _; unfold numRd; rw [← h]; rfl
        go_wp2_with fail
        go_ret2
        exact ⟨by rw [HN.out]; rfl, by first | rfl | trivial⟩
    · have HN : Hid (numRd s = none) := by
        have h := HR.out
        rw [List.drop_of_length_le (by rw [← HZ.out]; omega)] at h
        have : rdAcc (9 - i) i v [] = none := by cases 9 - i <;> rfl
        show _ = _; unfold numRd; rw [← h, this]
      go_wp2_with fail
      go_ret2
      exact ⟨by rw [HN.out]; rfl, by first | rfl | trivial⟩
end Go.Proofs.Ytdjpkgaicmklmaa

/- The program's fromFourBytes, walked. -/
namespace Go.Proofs.Ytdjpkgaicmklmaa
open Go.RowKit

def fold4 (l : List UInt8) : Int := l.foldl (fun n c => n * 256 + (c.toNat : Int)) 0
theorem fold4_four {s : List UInt8} (h : s.length = 4) : fold4 s = fourRd s := by
  match s, h with
  | [a, b, c, d], _ => simp only [fold4, fourRd, List.foldl, List.getD_cons_zero, List.getD_cons_succ]; omega
theorem fold4_step (s : List UInt8) (i : Nat) (h : i < s.length) : fold4 (s.take (i + 1)) = fold4 (s.take i) * 256 + (s[i].toNat : Int) := by
  unfold fold4
  rw [List.take_add_one, List.foldl_append, List.getElem?_eq_getElem h]
  rfl

set_option maxRecDepth 100000 in
set_option maxHeartbeats 4000000 in
theorem fromFour_any (s : List UInt8) (w : World) (hs : s.length = 4) :
    Calls Try.prog 145 #[.string (str s)] w fun e w' => e = .returned (.int .i64 (fourRd s)) ∧ w' = w := by
  have hz : (str s).size = 4 := by rw [str_size, hs]
  have HZ : Hid ((str s).size = 4) := hz
  have hz2 : (str s).size ≤ 4 := by omega
  have hz3 : 4 ≤ (str s).size := by omega
  have HS : Hid (s.length = 4) := hs
  clear hz hs
  go_enter Try.func145, Try.ntmps145
  go_wp2
  go_loopw [3, 4] (fun u q wr => ∃ (i : Nat) (v : Int), i ≤ (str s).size ∧ q = .int .i64 i ∧ u = .int .i64 v ∧ 0 ≤ v ∧ v < 256 ^ i ∧ v = fold4 (s.take i) ∧ wr = w) (fun _ q _ => 4 - (intOf q).toNat)
  case atStart => exact ⟨0, 0, by omega, rfl, rfl, by omega, by omega, rfl, rfl⟩
  case round =>
    obtain ⟨i, v, hi, rfl, rfl, v0, v1, hr, hw⟩ := hrel
    obtain rfl := hw.symm
    have HR : Hid (v = fold4 (s.take i)) := hr
    clear hr
    have hp : (256 : Int) ^ i ≤ 4294967296 ∧ 0 < (256 : Int) ^ i := by
      have : i = 0 ∨ i = 1 ∨ i = 2 ∨ i = 3 ∨ i = 4 := by omega
      rcases this with rfl | rfl | rfl | rfl | rfl <;> decide
    by_cases hlt : i < (str s).size
    · have hlt2 : i < s.length := by have := HS.out; omega
      have hb : ((str s)[i]'hlt).toNat < 256 := (s[i]).toNat_lt
      have hv2 : v * 256 + (((str s)[i]'hlt).toNat : Int) < 256 ^ (i + 1) := by rw [Int.pow_succ]; omega
      have hp2 : (256 : Int) ^ (i + 1) ≤ 4294967296 := by
        have : i = 0 ∨ i = 1 ∨ i = 2 ∨ i = 3 := by omega
        rcases this with rfl | rfl | rfl | rfl <;> decide
      have HN : Hid (v * 256 + (((str s)[i]'hlt).toNat : Int) = fold4 (s.take (i + 1))) := by
        show _ = _; rw [fold4_step s i hlt2, ← HR.out]; rfl
      go_wp2_with fail
      refine ⟨⟨i + 1, _, by omega, by go_num, rfl, by omega, hv2, HN.out, trivial⟩, ?_⟩
      simp [intOf]; omega
    · have HN : Hid (v = fourRd s) := by
        have h := HR.out
        rw [List.take_of_length_le (by have := HS.out; omega), fold4_four HS.out] at h
        exact h
      go_wp2_with fail
      go_ret
      exact ⟨ret_int HN.out, by first | rfl | trivial⟩
end Go.Proofs.Ytdjpkgaicmklmaa

/- The program's cursor: what it takes off a record's front, walked. -/
namespace Go.Proofs.Ytdjpkgaicmklmaa
open Go.RowKit

/-- A cursor: what is left, and whether it has failed. -/
abbrev Cu := List UInt8 × Bool
abbrev Cu.cells (c : Cu) : List Value := [.string (str c.1), .bool c.2]
abbrev CuAt (w : World) (g : Nat) (c : Cu) : Prop := Bx w g 178 c.cells
def cuNum (c : Cu) : Int × Cu := match numRd c.1 with
  | some (v, n) => (v, c.1.drop n, c.2)
  | none => (0, c.1, true)
def cuFour (c : Cu) : Int × Cu := if c.1.length < 4 then (0, c.1, true) else (fourRd (c.1.take 4), c.1.drop 4, c.2)
def cuEnd (c : Cu) : Cu := if c.1 = [] then c else (c.1, true)
def cuFlag (c : Cu) : Bool × Cu := match c.1 with
  | [] => (false, c.1, true)
  | x :: t => if 1 < x.toNat then (false, c.1, true) else (x == 1, t, c.2)

set_option maxRecDepth 100000 in
set_option maxHeartbeats 4000000 in
theorem cuNum_any (c : Cu) (g : Nat) (w : World) (hc : CuAt w g c) (hs : c.1.length ≤ 9223372036854775807) :
    Calls Try.prog 169 #[.pointer (some ⟨g, 0, none⟩)] w fun e w' => e = .returned (.int .i64 (cuNum c).1) ∧ CuAt w' g (cuNum c).2 ∧ Upd g w w' := by
  obtain ⟨s, d⟩ := c
  have hU : Upd g w w := Upd.refl g w
  have c0 := hc.cell 0
  dsimp only [Cu.cells, List.getElem?_cons_zero] at c0
  go_enter Try.func169, Try.ntmps169
  go_wp2_with fail
  refine (firstNumber_any s _ hs).mono ?_
  rintro e w1 ⟨rfl, rfl⟩
  cases hn : numRd s with
  | none =>
    have HN : Hid (cuNum (s, d) = (0, s, true)) := by show _ = _; simp [cuNum, hn]
    clear hn
    simp only [rdV]
    go_wp2_with (refine wpList_bput (by rfl) _ _ 4 (by rfl) g 178 1 (by rfl) _ (.bool true) (by rfl) hc (by kernel_rfl) (by simp) (by rfl) (by rfl) ?_; intro w9 hc9 hU9; replace hc := hc9; replace hU := hU.trans hU9; clear hc9 hU9 c0; dsimp only [List.set] at hc)
    go_ret
    rw [HN.out]
    exact ⟨rfl, hc, hU⟩
  | some p =>
    obtain ⟨v, n⟩ := p
    obtain ⟨n0, n1, nv, -⟩ := numRd_le hn
    have HN : Hid (cuNum (s, d) = (v, s.drop n, d)) := by show _ = _; simp [cuNum, hn]
    clear hn
    have hnz : ((n : Int) == 0) = false := by simp; omega
    have hle : (n : Int) ≤ ((str s).size : Int) := by rw [str_size]; omega
    have hx : (str s).extract n (str s).size = str (s.drop n) := by rw [str_extract, str_size, List.take_of_length_le (by simp)]
    simp only [rdV]
    go_wp2_with (refine wpList_bput (by rfl) _ _ 9 (by rfl) g 178 0 (by rfl) _ (.string _) (by rfl) hc (by kernel_rfl) (by simp) (by rfl) (by rfl) ?_; intro w9 hc9 hU9; replace hc := hc9; replace hU := hU.trans hU9; clear hc9 hU9 c0; dsimp only [List.set] at hc)
    go_ret
    rw [HN.out]
    exact ⟨rfl, hc, hU⟩

set_option maxRecDepth 100000 in
set_option maxHeartbeats 4000000 in
theorem cuFour_any (c : Cu) (g : Nat) (w : World) (hc : CuAt w g c) (hs : c.1.length ≤ 9223372036854775807) :
    Calls Try.prog 170 #[.pointer (some ⟨g, 0, none⟩)] w fun e w' => e = .returned (.int .i64 (cuFour c).1) ∧ CuAt w' g (cuFour c).2 ∧ Upd g w w' := by
  obtain ⟨s, d⟩ := c
  have hU : Upd g w w := Upd.refl g w
  have c0 := hc.cell 0
  dsimp only [Cu.cells, List.getElem?_cons_zero] at c0
  have hz := str_size s
  have HZ : Hid ((str s).size = s.length) := hz
  by_cases h4 : (str s).size < 4
  · have HN : Hid (cuFour (s, d) = (0, s, true)) := by show _ = _; simp only [cuFour, if_pos (show s.length < 4 by omega)]
    clear hz
    go_enter Try.func170, Try.ntmps170
    go_wp2_with (refine wpList_bput (by rfl) _ _ 4 (by rfl) g 178 1 (by rfl) _ (.bool true) (by rfl) hc (by kernel_rfl) (by simp) (by rfl) (by rfl) ?_; intro w9 hc9 hU9; replace hc := hc9; replace hU := hU.trans hU9; clear hc9 hU9 c0; dsimp only [List.set] at hc)
    go_ret
    rw [HN.out]
    exact ⟨rfl, hc, hU⟩
  · have HN : Hid (cuFour (s, d) = (fourRd (s.take 4), s.drop 4, d)) := by show _ = _; simp only [cuFour, if_neg (show ¬ s.length < 4 by omega)]
    have hle : (4 : Int) ≤ ((str s).size : Int) := by omega
    have hx : (str s).extract 4 (str s).size = str (s.drop 4) := by rw [str_extract, str_size, List.take_of_length_le (by simp)]
    have hx2 : (str s).extract 0 4 = str (s.take 4) := by rw [str_extract]; simp
    have hl4 : (s.take 4).length = 4 := by simp; omega
    clear hz
    go_enter Try.func170, Try.ntmps170
    go_wp2_with fail
    refine (fromFour_any (s.take 4) _ hl4).mono ?_
    rintro e w1 ⟨rfl, rfl⟩
    go_wp2_with (refine wpList_bput (by rfl) _ _ 9 (by rfl) g 178 0 (by rfl) _ (.string _) (by rfl) hc (by kernel_rfl) (by simp) (by rfl) (by rfl) ?_; intro w9 hc9 hU9; replace hc := hc9; replace hU := hU.trans hU9; clear hc9 hU9 c0; dsimp only [List.set] at hc)
    go_ret
    rw [HN.out]
    exact ⟨rfl, hc, hU⟩

set_option maxRecDepth 100000 in
set_option maxHeartbeats 4000000 in
theorem cuEnd_any (c : Cu) (g : Nat) (w : World) (hc : CuAt w g c) :
    Calls Try.prog 171 #[.pointer (some ⟨g, 0, none⟩)] w fun e w' => (∃ v, e = .returned v) ∧ CuAt w' g (cuEnd c) ∧ Upd g w w' := by
  obtain ⟨s, d⟩ := c
  have hU : Upd g w w := Upd.refl g w
  have c0 := hc.cell 0
  dsimp only [Cu.cells, List.getElem?_cons_zero] at c0
  cases s with
  | nil =>
    have hre : (str []).toList.isEmpty = true := by rw [str_toList]; rfl
    have HN : Hid (cuEnd ([], d) = ([], d)) := rfl
    go_enter Try.func171, Try.ntmps171
    go_wp2_with fail
    exact bodyPost_end (results_none rfl _ _ _) rfl ⟨⟨_, rfl⟩, by rw [HN.out]; exact hc, hU⟩
  | cons x t =>
    have hre : (str (x :: t)).toList.isEmpty = false := by rw [str_toList]; rfl
    have HN : Hid (cuEnd (x :: t, d) = (x :: t, true)) := rfl
    go_enter Try.func171, Try.ntmps171
    go_wp2_with (refine wpList_bput (by rfl) _ _ 4 (by rfl) g 178 1 (by rfl) _ (.bool true) (by rfl) hc (by kernel_rfl) (by simp) (by rfl) (by rfl) ?_; intro w9 hc9 hU9; replace hc := hc9; replace hU := hU.trans hU9; clear hc9 hU9 c0; dsimp only [List.set] at hc)
    exact bodyPost_end (results_none rfl _ _ _) rfl ⟨⟨_, rfl⟩, by rw [HN.out]; exact hc, hU⟩

set_option maxRecDepth 100000 in
set_option maxHeartbeats 4000000 in
theorem cuFlag_any (c : Cu) (g : Nat) (w : World) (hc : CuAt w g c) :
    Calls Try.prog 172 #[.pointer (some ⟨g, 0, none⟩)] w fun e w' => e = .returned (.bool (cuFlag c).1) ∧ CuAt w' g (cuFlag c).2 ∧ Upd g w w' := by
  obtain ⟨s, d⟩ := c
  have hU : Upd g w w := Upd.refl g w
  have c0 := hc.cell 0
  dsimp only [Cu.cells, List.getElem?_cons_zero] at c0
  cases s with
  | nil =>
    have hz : (str []).size = 0 := rfl
    have HN : Hid (cuFlag ([], d) = (false, [], true)) := rfl
    go_enter Try.func172, Try.ntmps172
    go_wp2_with (refine wpList_bput (by rfl) _ _ 4 (by rfl) g 178 1 (by rfl) _ (.bool true) (by rfl) hc (by kernel_rfl) (by simp) (by rfl) (by rfl) ?_; intro w9 hc9 hU9; replace hc := hc9; replace hU := hU.trans hU9; clear hc9 hU9 c0; dsimp only [List.set] at hc)
    go_ret
    rw [HN.out]
    exact ⟨rfl, hc, hU⟩
  | cons x t =>
    have hr0 : 0 < (str (x :: t)).size := by rw [str_size]; simp
    have hrx : (str (x :: t)).extract 1 (str (x :: t)).size = str t := by rw [str_extract, str_size]; simp
    have hrl2 : (1 : Int) ≤ ((str (x :: t)).size : Int) := by omega
    by_cases hx : 1 < x.toNat
    · have hk : 1 < ((str (x :: t))[0]'hr0).toNat := by have e : ((str (x :: t))[0]'hr0).toNat = x.toNat := rfl; omega
      have HN : Hid (cuFlag (x :: t, d) = (false, x :: t, true)) := by show _ = _; simp only [cuFlag, if_pos hx]
      go_enter Try.func172, Try.ntmps172
      go_wp2_with (refine wpList_bput (by rfl) _ _ 4 (by rfl) g 178 1 (by rfl) _ (.bool true) (by rfl) hc (by kernel_rfl) (by simp) (by rfl) (by rfl) ?_; intro w9 hc9 hU9; replace hc := hc9; replace hU := hU.trans hU9; clear hc9 hU9 c0; dsimp only [List.set] at hc)
      go_ret
      rw [HN.out]
      exact ⟨rfl, hc, hU⟩
    · by_cases h0 : x = 0
      · subst h0
        have hk : ((str (0 :: t))[0]'hr0).toNat = 0 := rfl
        have HN : Hid (cuFlag (0 :: t, d) = (false, t, d)) := rfl
        go_enter Try.func172, Try.ntmps172
        go_wp2_with (refine wpList_bput (by rfl) _ _ 9 (by rfl) g 178 0 (by rfl) _ (.string _) (by rfl) hc (by kernel_rfl) (by simp) (by rfl) (by rfl) ?_; intro w9 hc9 hU9; replace hc := hc9; replace hU := hU.trans hU9; clear hc9 hU9 c0; dsimp only [List.set] at hc)
        go_ret
        rw [HN.out]
        exact ⟨rfl, hc, hU⟩
      · have hc1 : x = 1 := by have : x.toNat ≠ 0 := fun h => h0 (UInt8.toNat_inj.1 h); exact UInt8.toNat_inj.1 (by show x.toNat = 1; omega)
        subst hc1
        have hk : ((str (1 :: t))[0]'hr0).toNat = 1 := rfl
        have HN : Hid (cuFlag (1 :: t, d) = (true, t, d)) := rfl
        go_enter Try.func172, Try.ntmps172
        go_wp2_with (refine wpList_bput (by rfl) _ _ 9 (by rfl) g 178 0 (by rfl) _ (.string _) (by rfl) hc (by kernel_rfl) (by simp) (by rfl) (by rfl) ?_; intro w9 hc9 hU9; replace hc := hc9; replace hU := hU.trans hU9; clear hc9 hU9 c0; dsimp only [List.set] at hc)
        go_ret
        rw [HN.out]
        exact ⟨rfl, hc, hU⟩
end Go.Proofs.Ytdjpkgaicmklmaa

/- The program's takeHead, takeClock, takeCard, takeEdit, foundIn, walked. -/
namespace Go.Proofs.Ytdjpkgaicmklmaa
open Go.RowKit

/-- The worlds part in block g alone, and in blocks from B on. -/
structure But (g B : Nat) (w w' : World) : Prop where
  os : w'.os = w.os
  tape : w'.tape = w.tape
  output : w'.output = w.output
  size : w.heap.size ≤ w'.heap.size
  block : ∀ k, k < B → k ≠ g → w'.heap[k]? = w.heap[k]?
theorem But.of_below {g B : Nat} {w w' : World} (h : Below B w w') : But g B w w' := ⟨h.os, h.tape, h.output, h.size, fun k hk _ => h.block k hk⟩
theorem But.upd {g B g' : Nat} {w w1 w2 : World} (h : But g B w w1) (hu : Upd g' w1 w2) (hg : g' = g ∨ B ≤ g') : But g B w w2 :=
  ⟨hu.os.trans h.os, hu.tape.trans h.tape, hu.output.trans h.output, by rw [hu.size]; exact h.size, fun k hk hn => (hu.block k (by omega)).trans (h.block k hk hn)⟩
theorem Bx.but {w w' : World} {g B k e : Nat} {cs : List Value} (b : Bx w k e cs) (h : But g B w w') (hk : k < B) (hn : k ≠ g) : Bx w' k e cs := ⟨by rw [h.block k hk hn]; exact b.h⟩
theorem But.below {g B B' : Nat} {w0 w w' : World} (h : But g B w w') (hb : Below B' w0 w) (h1 : B' ≤ B) (h2 : B' ≤ g) : Below B' w0 w' :=
  ⟨h.os.trans hb.os, h.tape.trans hb.tape, h.output.trans hb.output, Nat.le_trans hb.size h.size, fun k hk => (h.block k (by omega) (by omega)).trans (hb.block k hk)⟩

theorem cuNum_le (c : Cu) : (cuNum c).2.1.length ≤ c.1.length := by
  unfold cuNum; split <;> simp
theorem cuFour_le (c : Cu) : (cuFour c).2.1.length ≤ c.1.length := by
  unfold cuFour; split <;> simp

def tkHead (c : Cu) : Fd × Cu :=
  let a := cuNum c
  let b := if a.1 = 0 then (0, a.2) else cuFour a.2
  (fdHead a.1 b.1, cuEnd b.2)
def tkClock (c : Cu) : Fd × Cu := (fdClock ⟨(cuNum c).1, (cuNum (cuNum c).2).1⟩, cuEnd (cuNum (cuNum c).2).2)
def tkCard (c : Cu) : Fd × Cu :=
  let a := cuNum c
  let b := cuNum a.2
  let d := cuNum b.2
  let f := cuFlag d.2
  (fdCard ⟨a.1, b.1, d.1, f.1, str f.2.1⟩, f.2)
def tkEdit (c : Cu) : Fd × Cu := (fdEdit ⟨(cuNum c).1, str (cuNum c).2.1⟩, (cuNum c).2)

set_option maxRecDepth 100000 in
set_option maxHeartbeats 4000000 in
theorem tkEdit_any (c : Cu) (g : Nat) (w : World) (hc : CuAt w g c) (hs : c.1.length ≤ 9223372036854775807) :
    Calls Try.prog 165 #[.pointer (some ⟨g, 0, none⟩)] w fun e w' => e = .returned (fdV (tkEdit c).1) ∧ CuAt w' g (tkEdit c).2 ∧ But g w.heap.size w w' := by
  have hgl := hc.lt
  obtain ⟨hR, hW, hB⟩ := one_box w 64 fd0.cells.toArray
  replace hc := hc.alloc (.cells fd0.cells.toArray 64)
  have hT : But g w.heap.size w (w.alloc (.cells fd0.cells.toArray 64)) := But.of_below hB
  have l1 := cuNum_le c
  go_enter Try.func165, Try.ntmps165
  go_wp2_with fail
  refine (cuNum_any c g _ hc (by omega)).mono ?_
  rintro e w9 ⟨rfl, hc9, hU9⟩
  replace hR := hR.upd hU9 (by omega)
  replace hT := hT.upd hU9 (Or.inl rfl)
  replace hc := hc9
  clear hc9 hU9
  have c0 := hc.cell 0
  dsimp only [Cu.cells, List.getElem?_cons_zero] at c0
  go_wp2_with (refine wpList_bstore (by rfl) _ _ _ (by rfl) w.heap.size 64 (by rfl) _ _ (by rfl) hR 9 (by rfl) (by kernel_rfl) (by rfl) (by intro x hx; simp at hx; rcases hx with rfl | rfl | rfl | rfl | rfl | rfl | rfl | rfl | rfl <;> rfl) ?_; intro w9 hR9 hU9; replace hR := hR9; replace hc := hc.upd hU9 (by omega); replace hT := hT.upd hU9 (Or.inr (Nat.le_refl _)); clear hR9 hU9)
  exact bodyPost_ret (v := fdV (tkEdit c |>.1)) (results_box1 (by rfl) _ _ w.heap.size 64 _ _ (by rfl) hR Try.underlying64 (by rfl) 9 (by rfl) (by kernel_rfl)) rfl ⟨rfl, hc, hT⟩

set_option maxRecDepth 100000 in
set_option maxHeartbeats 4000000 in
theorem tkClock_any (c : Cu) (g : Nat) (w : World) (hc : CuAt w g c) (hs : c.1.length ≤ 9223372036854775807) :
    Calls Try.prog 163 #[.pointer (some ⟨g, 0, none⟩)] w fun e w' => e = .returned (fdV (tkClock c).1) ∧ CuAt w' g (tkClock c).2 ∧ But g w.heap.size w w' := by
  have hgl := hc.lt
  obtain ⟨hR, hW, hB⟩ := one_box w 64 fd0.cells.toArray
  replace hc := hc.alloc (.cells fd0.cells.toArray 64)
  have hT : But g w.heap.size w (w.alloc (.cells fd0.cells.toArray 64)) := But.of_below hB
  have l1 := cuNum_le c
  have l2 := cuNum_le (cuNum c).2
  go_enter Try.func163, Try.ntmps163
  go_wp2_with fail
  refine (cuNum_any c g _ hc (by omega)).mono ?_
  rintro e w9 ⟨rfl, hc9, hU9⟩
  replace hR := hR.upd hU9 (by omega)
  replace hT := hT.upd hU9 (Or.inl rfl)
  replace hc := hc9
  clear hc9 hU9
  go_wp2_with fail
  refine (cuNum_any (cuNum c).2 g _ hc (by omega)).mono ?_
  rintro e w9 ⟨rfl, hc9, hU9⟩
  replace hR := hR.upd hU9 (by omega)
  replace hT := hT.upd hU9 (Or.inl rfl)
  replace hc := hc9
  clear hc9 hU9
  go_wp2_with fail
  refine (cuEnd_any (cuNum (cuNum c).2).2 g _ hc ).mono ?_
  rintro e w9 ⟨⟨v, rfl⟩, hc9, hU9⟩
  replace hR := hR.upd hU9 (by omega)
  replace hT := hT.upd hU9 (Or.inl rfl)
  replace hc := hc9
  clear hc9 hU9
  go_wp2_with (refine wpList_bstore (by rfl) _ _ _ (by rfl) w.heap.size 64 (by rfl) _ _ (by rfl) hR 9 (by rfl) (by kernel_rfl) (by rfl) (by intro x hx; simp at hx; rcases hx with rfl | rfl | rfl | rfl | rfl | rfl | rfl | rfl | rfl <;> rfl) ?_; intro w9 hR9 hU9; replace hR := hR9; replace hc := hc.upd hU9 (by omega); replace hT := hT.upd hU9 (Or.inr (Nat.le_refl _)); clear hR9 hU9)
  exact bodyPost_ret (v := fdV (tkClock c |>.1)) (results_box1 (by rfl) _ _ w.heap.size 64 _ _ (by rfl) hR Try.underlying64 (by rfl) 9 (by rfl) (by kernel_rfl)) rfl ⟨rfl, hc, hT⟩

set_option maxRecDepth 100000 in
set_option maxHeartbeats 4000000 in
theorem tkCard_any (c : Cu) (g : Nat) (w : World) (hc : CuAt w g c) (hs : c.1.length ≤ 9223372036854775807) :
    Calls Try.prog 164 #[.pointer (some ⟨g, 0, none⟩)] w fun e w' => e = .returned (fdV (tkCard c).1) ∧ CuAt w' g (tkCard c).2 ∧ But g w.heap.size w w' := by
  have hgl := hc.lt
  obtain ⟨hR, hW, hB⟩ := one_box w 64 fd0.cells.toArray
  replace hc := hc.alloc (.cells fd0.cells.toArray 64)
  have hT : But g w.heap.size w (w.alloc (.cells fd0.cells.toArray 64)) := But.of_below hB
  have l1 := cuNum_le c
  have l2 := cuNum_le (cuNum c).2
  have l3 := cuNum_le (cuNum (cuNum c).2).2
  go_enter Try.func164, Try.ntmps164
  go_wp2_with fail
  refine (cuNum_any c g _ hc (by omega)).mono ?_
  rintro e w9 ⟨rfl, hc9, hU9⟩
  replace hR := hR.upd hU9 (by omega)
  replace hT := hT.upd hU9 (Or.inl rfl)
  replace hc := hc9
  clear hc9 hU9
  go_wp2_with fail
  refine (cuNum_any (cuNum c).2 g _ hc (by omega)).mono ?_
  rintro e w9 ⟨rfl, hc9, hU9⟩
  replace hR := hR.upd hU9 (by omega)
  replace hT := hT.upd hU9 (Or.inl rfl)
  replace hc := hc9
  clear hc9 hU9
  go_wp2_with fail
  refine (cuNum_any (cuNum (cuNum c).2).2 g _ hc (by omega)).mono ?_
  rintro e w9 ⟨rfl, hc9, hU9⟩
  replace hR := hR.upd hU9 (by omega)
  replace hT := hT.upd hU9 (Or.inl rfl)
  replace hc := hc9
  clear hc9 hU9
  go_wp2_with fail
  refine (cuFlag_any (cuNum (cuNum (cuNum c).2).2).2 g _ hc ).mono ?_
  rintro e w9 ⟨rfl, hc9, hU9⟩
  replace hR := hR.upd hU9 (by omega)
  replace hT := hT.upd hU9 (Or.inl rfl)
  replace hc := hc9
  clear hc9 hU9
  have c0 := hc.cell 0
  dsimp only [Cu.cells, List.getElem?_cons_zero] at c0
  go_wp2_with (refine wpList_bstore (by rfl) _ _ _ (by rfl) w.heap.size 64 (by rfl) _ _ (by rfl) hR 9 (by rfl) (by kernel_rfl) (by rfl) (by intro x hx; simp at hx; rcases hx with rfl | rfl | rfl | rfl | rfl | rfl | rfl | rfl | rfl <;> rfl) ?_; intro w9 hR9 hU9; replace hR := hR9; replace hc := hc.upd hU9 (by omega); replace hT := hT.upd hU9 (Or.inr (Nat.le_refl _)); clear hR9 hU9)
  exact bodyPost_ret (v := fdV (tkCard c |>.1)) (results_box1 (by rfl) _ _ w.heap.size 64 _ _ (by rfl) hR Try.underlying64 (by rfl) 9 (by rfl) (by kernel_rfl)) rfl ⟨rfl, hc, hT⟩

set_option maxRecDepth 100000 in
set_option maxHeartbeats 4000000 in
theorem tkHead_any (c : Cu) (g : Nat) (w : World) (hc : CuAt w g c) (hs : c.1.length ≤ 9223372036854775807) :
    Calls Try.prog 162 #[.pointer (some ⟨g, 0, none⟩)] w fun e w' => e = .returned (fdV (tkHead c).1) ∧ CuAt w' g (tkHead c).2 ∧ But g w.heap.size w w' := by
  have hgl := hc.lt
  obtain ⟨hR, hW, hB⟩ := one_box w 64 fd0.cells.toArray
  replace hc := hc.alloc (.cells fd0.cells.toArray 64)
  have hT : But g w.heap.size w (w.alloc (.cells fd0.cells.toArray 64)) := But.of_below hB
  have l1 := cuNum_le c
  have l2 := cuFour_le (cuNum c).2
  go_enter Try.func162, Try.ntmps162
  go_wp2_with fail
  refine (cuNum_any c g _ hc (by omega)).mono ?_
  rintro e w9 ⟨rfl, hc9, hU9⟩
  replace hR := hR.upd hU9 (by omega)
  replace hT := hT.upd hU9 (Or.inl rfl)
  replace hc := hc9
  clear hc9 hU9
  by_cases hq : (cuNum c).1 = 0
  · have hqb : ((cuNum c).1 != 0) = false := by rw [hq]; rfl
    have HK : Hid (tkHead c = (fdHead (cuNum c).1 0, cuEnd (cuNum c).2)) := by show _ = _; unfold tkHead; simp only [if_pos hq]
    clear hq
    go_wp2_with fail
    refine (cuEnd_any (cuNum c).2 g _ hc ).mono ?_
    rintro e w9 ⟨⟨v, rfl⟩, hc9, hU9⟩
    replace hR := hR.upd hU9 (by omega)
    replace hT := hT.upd hU9 (Or.inl rfl)
    replace hc := hc9
    clear hc9 hU9
    go_wp2_with (refine wpList_bstore (by rfl) _ _ _ (by rfl) w.heap.size 64 (by rfl) _ _ (by rfl) hR 9 (by rfl) (by kernel_rfl) (by rfl) (by intro x hx; simp at hx; rcases hx with rfl | rfl | rfl | rfl | rfl | rfl | rfl | rfl | rfl <;> rfl) ?_; intro w9 hR9 hU9; replace hR := hR9; replace hc := hc.upd hU9 (by omega); replace hT := hT.upd hU9 (Or.inr (Nat.le_refl _)); clear hR9 hU9)
    rw [HK.out]
    exact bodyPost_ret (v := fdV (fdHead (cuNum c).1 0)) (results_box1 (by rfl) _ _ w.heap.size 64 _ _ (by rfl) hR Try.underlying64 (by rfl) 9 (by rfl) (by kernel_rfl)) rfl ⟨rfl, hc, hT⟩
  · have hqb : ((cuNum c).1 != 0) = true := by rw [bne_iff_ne]; exact hq
    have HK : Hid (tkHead c = (fdHead (cuNum c).1 (cuFour (cuNum c).2).1, cuEnd (cuFour (cuNum c).2).2)) := by show _ = _; unfold tkHead; simp only [if_neg hq]
    clear hq
    go_wp2_with fail
    refine (cuFour_any (cuNum c).2 g _ hc (by omega)).mono ?_
    rintro e w9 ⟨rfl, hc9, hU9⟩
    replace hR := hR.upd hU9 (by omega)
    replace hT := hT.upd hU9 (Or.inl rfl)
    replace hc := hc9
    clear hc9 hU9
    go_wp2_with fail
    refine (cuEnd_any (cuFour (cuNum c).2).2 g _ hc ).mono ?_
    rintro e w9 ⟨⟨v, rfl⟩, hc9, hU9⟩
    replace hR := hR.upd hU9 (by omega)
    replace hT := hT.upd hU9 (Or.inl rfl)
    replace hc := hc9
    clear hc9 hU9
    go_wp2_with (refine wpList_bstore (by rfl) _ _ _ (by rfl) w.heap.size 64 (by rfl) _ _ (by rfl) hR 9 (by rfl) (by kernel_rfl) (by rfl) (by intro x hx; simp at hx; rcases hx with rfl | rfl | rfl | rfl | rfl | rfl | rfl | rfl | rfl <;> rfl) ?_; intro w9 hR9 hU9; replace hR := hR9; replace hc := hc.upd hU9 (by omega); replace hT := hT.upd hU9 (Or.inr (Nat.le_refl _)); clear hR9 hU9)
    rw [HK.out]
    exact bodyPost_ret (v := fdV (fdHead (cuNum c).1 (cuFour (cuNum c).2).1)) (results_box1 (by rfl) _ _ w.heap.size 64 _ _ (by rfl) hR Try.underlying64 (by rfl) 9 (by rfl) (by kernel_rfl)) rfl ⟨rfl, hc, hT⟩
end Go.Proofs.Ytdjpkgaicmklmaa

/- The program's foundIn, walked. -/
namespace Go.Proofs.Ytdjpkgaicmklmaa
open Go.RowKit

theorem three_boxes (w : World) (e1 e2 e3 : Nat) (a b c : Array Value) : Bx (((w.alloc (.cells a e1)).alloc (.cells b e2)).alloc (.cells c e3)) w.heap.size e1 a.toList ∧ Bx (((w.alloc (.cells a e1)).alloc (.cells b e2)).alloc (.cells c e3)) (w.heap.size + 1) e2 b.toList ∧
    Bx (((w.alloc (.cells a e1)).alloc (.cells b e2)).alloc (.cells c e3)) (w.heap.size + 2) e3 c.toList ∧ (((w.alloc (.cells a e1)).alloc (.cells b e2)).alloc (.cells c e3)).heap.size = w.heap.size + 3 ∧ Below w.heap.size w (((w.alloc (.cells a e1)).alloc (.cells b e2)).alloc (.cells c e3)) := by
  obtain ⟨h1, h2, h3, h4⟩ := two_boxes w e1 e2 a b
  have h5 := Bx.new ((w.alloc (.cells a e1)).alloc (.cells b e2)) e3 c
  rw [h3] at h5
  exact ⟨h1.alloc _, h2.alloc _, h5, by show (((w.alloc _).alloc _).heap.push _).size = _; simp only [Array.size_push]; rw [h3], h4.alloc (by omega) _⟩

/-- What foundIn answers. -/
def foundV (x : Option Fd) : Value := match x with
  | some f => .tuple #[fdV f, .bool true]
  | none => .tuple #[fdV fd0, .bool false]

theorem cuNum_nums {s : List UInt8} {d : Bool} {v : Int} {n : Nat} (h : numRd s = some (v, n)) : cuNum (s, d) = (v, s.drop n, d) := by simp [cuNum, h]
theorem cuNum_none {s : List UInt8} {d : Bool} (h : numRd s = none) : cuNum (s, d) = (0, s, true) := by simp [cuNum, h]
theorem cuNum_failed (s : List UInt8) : (cuNum (s, true)).2.2 = true := by unfold cuNum; split <;> rfl
theorem cuEnd_failed (s : List UInt8) : (cuEnd (s, true)).2 = true := by unfold cuEnd; split <;> rfl
theorem cuFlag_failed (s : List UInt8) : (cuFlag (s, true)).2.2 = true := by
  unfold cuFlag; dsimp only; split
  · rfl
  · split <;> rfl
theorem cuFour_failed (s : List UInt8) : (cuFour (s, true)).2.2 = true := by unfold cuFour; split <;> rfl
theorem cu_eta (c : Cu) (h : c.2 = true) : c = (c.1, true) := by obtain ⟨a, b⟩ := c; simp at h; subst h; rfl

theorem tkEdit_true (s : List UInt8) : (tkEdit (s, true)).2.2 = true := cuNum_failed s
theorem cuEnd_true (c : Cu) (h : c.2 = true) : (cuEnd c).2 = true := by rw [cu_eta c h]; exact cuEnd_failed _
theorem cuNum_true (c : Cu) (h : c.2 = true) : (cuNum c).2.2 = true := by rw [cu_eta c h]; exact cuNum_failed _
theorem cuFlag_true (c : Cu) (h : c.2 = true) : (cuFlag c).2.2 = true := by rw [cu_eta c h]; exact cuFlag_failed _
theorem rec3 (s : List UInt8) : recRd (3 :: s) = match numsRd 1 s with
      | some ([a], t) => some (fdEdit ⟨a, str t⟩)
      | _ => none := by simp [recRd] <;> rfl
theorem rec1 (s : List UInt8) : recRd (1 :: s) = match numsRd 2 s with
      | some ([a, b], r) => if r = [] then some (fdClock ⟨a, b⟩) else none
      | _ => none := by simp [recRd] <;> rfl
theorem rec2 (s : List UInt8) : recRd (2 :: s) = match numsRd 3 s with
      | some ([a, b, d], g :: t) => if g.toNat ≤ 1 then some (fdCard ⟨a, b, d, g == 1, str t⟩) else none
      | _ => none := by simp [recRd] <;> rfl
theorem rec4 (s : List UInt8) : recRd (4 :: s) = match numsRd 1 s with
      | some ([q], r) => if q = 0 then (if r = [] then some (fdHead 0 0) else none) else if r.length = 4 then some (fdHead q (fourRd r)) else none
      | _ => none := by simp [recRd] <;> rfl
theorem rec_edit_eq (s : List UInt8) : recRd (3 :: s) = if (tkEdit (s, false)).2.2 then none else some (tkEdit (s, false)).1 := by
  rw [rec3]
  cases h : numRd s with
  | none => simp only [numsRd, h, tkEdit, cuNum_none h]; rfl
  | some p => obtain ⟨v, n⟩ := p; simp only [numsRd, h, tkEdit, cuNum_nums h]; rfl
theorem rec_clock_eq (s : List UInt8) : recRd (1 :: s) = if (tkClock (s, false)).2.2 then none else some (tkClock (s, false)).1 := by
  rw [rec1]
  cases h : numRd s with
  | none =>
    have e : (tkClock (s, false)).2.2 = true := by simp only [tkClock, cuNum_none h]; exact cuEnd_true _ rfl
    simp only [numsRd, h, e]; rfl
  | some p =>
    obtain ⟨v, n⟩ := p
    cases h2 : numRd (s.drop n) with
    | none =>
      have e : (tkClock (s, false)).2.2 = true := by simp only [tkClock, cuNum_nums h, cuNum_none h2]; exact cuEnd_true _ rfl
      simp only [numsRd, h, h2, e]; rfl
    | some p =>
      obtain ⟨v2, n2⟩ := p
      simp only [numsRd, h, h2, tkClock, cuNum_nums h, cuNum_nums h2, cuEnd]
      by_cases hr : (s.drop n).drop n2 = []
      · rw [if_pos hr, if_pos hr]; rfl
      · rw [if_neg hr, if_neg hr]; rfl
theorem rec_head_eq (s : List UInt8) : recRd (4 :: s) = if (tkHead (s, false)).2.2 then none else some (tkHead (s, false)).1 := by
  rw [rec4]
  cases h : numRd s with
  | none =>
    have e : (tkHead (s, false)).2.2 = true := by simp only [tkHead, cuNum_none h]; exact cuEnd_true _ rfl
    simp only [numsRd, h, e]; rfl
  | some p =>
    obtain ⟨v, n⟩ := p
    simp only [numsRd, h, tkHead, cuNum_nums h]
    by_cases hv : v = 0
    · subst hv
      simp only [↓reduceIte, cuEnd]
      by_cases hr : s.drop n = []
      · rw [if_pos hr, if_pos hr]; rfl
      · rw [if_neg hr, if_neg hr]; rfl
    · simp only [if_neg hv, cuFour]
      by_cases h4 : (s.drop n).length < 4
      · have e : (cuEnd (s.drop n, true)).2 = true := cuEnd_true _ rfl
        simp only [if_pos h4, e, if_neg (show ¬ (s.drop n).length = 4 by omega)]; rfl
      · simp only [if_neg h4]
        by_cases h5 : (s.drop n).length = 4
        · have e : (s.drop n).drop 4 = [] := List.drop_of_length_le (by omega)
          have e2 : (s.drop n).take 4 = s.drop n := List.take_of_length_le (by omega)
          simp only [e, e2, cuEnd, if_pos h5]; rfl
        · have e : (s.drop n).drop 4 ≠ [] := by intro hh; have := congrArg List.length hh; rw [List.length_drop] at this; simp only [List.length_nil] at this; omega
          simp only [cuEnd, if_neg e, if_neg h5]; rfl
theorem rec_card_eq (s : List UInt8) : recRd (2 :: s) = if (tkCard (s, false)).2.2 then none else some (tkCard (s, false)).1 := by
  rw [rec2]
  cases h : numRd s with
  | none =>
    have e : (tkCard (s, false)).2.2 = true := by simp only [tkCard, cuNum_none h]; exact cuFlag_true _ rfl
    simp only [numsRd, h, e]; rfl
  | some p =>
    obtain ⟨v, n⟩ := p
    cases h2 : numRd (s.drop n) with
    | none =>
      have e : (tkCard (s, false)).2.2 = true := by simp only [tkCard, cuNum_nums h, cuNum_none h2]; exact cuFlag_true _ rfl
      simp only [numsRd, h, h2, e]; rfl
    | some p =>
      obtain ⟨v2, n2⟩ := p
      cases h3 : numRd ((s.drop n).drop n2) with
      | none =>
        have e : (tkCard (s, false)).2.2 = true := by simp only [tkCard, cuNum_nums h, cuNum_nums h2, cuNum_none h3]; exact cuFlag_true _ rfl
        simp only [numsRd, h, h2, h3, e]; rfl
      | some p =>
        obtain ⟨v3, n3⟩ := p
        simp only [numsRd, h, h2, h3, tkCard, cuNum_nums h, cuNum_nums h2, cuNum_nums h3]
        generalize ((s.drop n).drop n2).drop n3 = r
        cases r with
        | nil => rfl
        | cons g t =>
          by_cases hg : g.toNat ≤ 1
          · simp only [cuFlag, if_pos hg, if_neg (show ¬ 1 < g.toNat by omega)]; rfl
          · simp only [cuFlag, if_neg hg, if_pos (show 1 < g.toNat by omega)]; rfl

set_option maxRecDepth 100000 in
set_option maxHeartbeats 4000000 in
theorem foundIn_head (s : List UInt8) (w : World) (hs : s.length ≤ 9223372036854775806) :
    Calls Try.prog 144 #[.string (str (4 :: s))] w fun e w' => e = .returned (foundV (recRd (4 :: s))) ∧ Below w.heap.size w w' := by
  have h0 : 0 < (str (4 :: s)).size := by rw [str_size]; simp
  have hx : (str (4 :: s)).extract 1 (str (4 :: s)).size = str s := by rw [str_extract, str_size]; simp
  have hne : (str (4 :: s)).toList.isEmpty = false := by rw [str_toList]; rfl
  have hk : ((str (4 :: s))[0]'h0).toNat = 4 := rfl
  have hle : (1 : Int) ≤ ((str (4 :: s)).size : Int) := by omega
  obtain ⟨hR, hC, hF, hW, hB⟩ := three_boxes w 64 178 64 fd0.cells.toArray (Cu.cells (s, false)).toArray fd0.cells.toArray
  have HE := rec_head_eq s
  go_enter Try.func144, Try.ntmps144
  go_wp2_with fail
  refine (tkHead_any (s, false) (w.heap.size + 1) _ hC (by simp only []; omega)).mono ?_
  rintro e w1 ⟨rfl, hC1, hT⟩
  replace hR := hR.but hT (Nat.lt_of_lt_of_le (by omega) (Nat.le_of_eq hW.symm)) (by omega)
  replace hF := hF.but hT (Nat.lt_of_lt_of_le (by omega) (Nat.le_of_eq hW.symm)) (by omega)
  replace hB := hT.below hB (Nat.le_trans (by omega) (Nat.le_of_eq hW.symm)) (by omega)
  replace hC := hC1
  clear hC1 hT hW hx hne hk hle
  generalize htk : tkHead (s, false) = X at *
  clear htk
  obtain ⟨f, r, d⟩ := X
  cases d with
  | true =>
    have HN : Hid (recRd (4 :: s) = none) := HE
    clear HE
    go_wp2_with (first
      | (refine wpList_bstore (by rfl) _ _ _ (by rfl) (w.heap.size + 2) 64 (by rfl) _ _ (by rfl) hF 9 (by rfl) (by kernel_rfl) (by rfl) (by intro x hx; simp at hx; rcases hx with rfl | rfl | rfl | rfl | rfl | rfl | rfl | rfl | rfl <;> rfl) ?_; intro w9 hF9 hU9; replace hF := hF9; replace hR := hR.upd hU9 (by omega); replace hC := hC.upd hU9 (by omega); replace hB := hU9.below hB (by omega); clear hF9 hU9)
      | (refine wpList_bget (by rfl) 4 _ (by rfl) (w.heap.size + 1) 178 1 (by rfl) _ hC _ (by rfl) _ Try.underlying4 (by rfl) ?_; dsimp only)
      | (refine wpList_bstore (by rfl) _ _ _ (by rfl) w.heap.size 64 (by rfl) _ _ (by rfl) hR 9 (by rfl) (by kernel_rfl) (by rfl) (by intro x hx; simp at hx; rcases hx with rfl | rfl | rfl | rfl | rfl | rfl | rfl | rfl | rfl <;> rfl) ?_; intro w9 hR9 hU9; replace hR := hR9; replace hF := hF.upd hU9 (by omega); replace hC := hC.upd hU9 (by omega); replace hB := hU9.below hB (by omega); clear hR9 hU9)
      | (refine wpList_bload (by rfl) _ _ (by rfl) (w.heap.size + 2) 64 (by rfl) _ hF _ Try.underlying64 (by rfl) 9 (by rfl) (by kernel_rfl) ?_))
    exact bodyPost_ret (v := .tuple #[fdV (fd0), .bool false]) (results_box2 (by rfl) _ _ w.heap.size 64 _ _ _ (by rfl) hR (by rfl) Try.underlying64 (by rfl) 9 (by rfl) (by kernel_rfl)) rfl ⟨by rw [HN.out]; rfl, hB⟩
  | false =>
    have HN : Hid (recRd (4 :: s) = some f) := HE
    clear HE
    go_wp2_with (first
      | (refine wpList_bstore (by rfl) _ _ _ (by rfl) (w.heap.size + 2) 64 (by rfl) _ _ (by rfl) hF 9 (by rfl) (by kernel_rfl) (by rfl) (by intro x hx; simp at hx; rcases hx with rfl | rfl | rfl | rfl | rfl | rfl | rfl | rfl | rfl <;> rfl) ?_; intro w9 hF9 hU9; replace hF := hF9; replace hR := hR.upd hU9 (by omega); replace hC := hC.upd hU9 (by omega); replace hB := hU9.below hB (by omega); clear hF9 hU9)
      | (refine wpList_bget (by rfl) 4 _ (by rfl) (w.heap.size + 1) 178 1 (by rfl) _ hC _ (by rfl) _ Try.underlying4 (by rfl) ?_; dsimp only)
      | (refine wpList_bstore (by rfl) _ _ _ (by rfl) w.heap.size 64 (by rfl) _ _ (by rfl) hR 9 (by rfl) (by kernel_rfl) (by rfl) (by intro x hx; simp at hx; rcases hx with rfl | rfl | rfl | rfl | rfl | rfl | rfl | rfl | rfl <;> rfl) ?_; intro w9 hR9 hU9; replace hR := hR9; replace hF := hF.upd hU9 (by omega); replace hC := hC.upd hU9 (by omega); replace hB := hU9.below hB (by omega); clear hR9 hU9)
      | (refine wpList_bload (by rfl) _ _ (by rfl) (w.heap.size + 2) 64 (by rfl) _ hF _ Try.underlying64 (by rfl) 9 (by rfl) (by kernel_rfl) ?_))
    exact bodyPost_ret (v := .tuple #[fdV (f), .bool true]) (results_box2 (by rfl) _ _ w.heap.size 64 _ _ _ (by rfl) hR (by rfl) Try.underlying64 (by rfl) 9 (by rfl) (by kernel_rfl)) rfl ⟨by rw [HN.out]; rfl, hB⟩

set_option maxRecDepth 100000 in
set_option maxHeartbeats 4000000 in
theorem foundIn_clock (s : List UInt8) (w : World) (hs : s.length ≤ 9223372036854775806) :
    Calls Try.prog 144 #[.string (str (1 :: s))] w fun e w' => e = .returned (foundV (recRd (1 :: s))) ∧ Below w.heap.size w w' := by
  have h0 : 0 < (str (1 :: s)).size := by rw [str_size]; simp
  have hx : (str (1 :: s)).extract 1 (str (1 :: s)).size = str s := by rw [str_extract, str_size]; simp
  have hne : (str (1 :: s)).toList.isEmpty = false := by rw [str_toList]; rfl
  have hk : ((str (1 :: s))[0]'h0).toNat = 1 := rfl
  have hle : (1 : Int) ≤ ((str (1 :: s)).size : Int) := by omega
  obtain ⟨hR, hC, hF, hW, hB⟩ := three_boxes w 64 178 64 fd0.cells.toArray (Cu.cells (s, false)).toArray fd0.cells.toArray
  have HE := rec_clock_eq s
  go_enter Try.func144, Try.ntmps144
  go_wp2_with fail
  refine (tkClock_any (s, false) (w.heap.size + 1) _ hC (by simp only []; omega)).mono ?_
  rintro e w1 ⟨rfl, hC1, hT⟩
  replace hR := hR.but hT (Nat.lt_of_lt_of_le (by omega) (Nat.le_of_eq hW.symm)) (by omega)
  replace hF := hF.but hT (Nat.lt_of_lt_of_le (by omega) (Nat.le_of_eq hW.symm)) (by omega)
  replace hB := hT.below hB (Nat.le_trans (by omega) (Nat.le_of_eq hW.symm)) (by omega)
  replace hC := hC1
  clear hC1 hT hW hx hne hk hle
  generalize htk : tkClock (s, false) = X at *
  clear htk
  obtain ⟨f, r, d⟩ := X
  cases d with
  | true =>
    have HN : Hid (recRd (1 :: s) = none) := HE
    clear HE
    go_wp2_with (first
      | (refine wpList_bstore (by rfl) _ _ _ (by rfl) (w.heap.size + 2) 64 (by rfl) _ _ (by rfl) hF 9 (by rfl) (by kernel_rfl) (by rfl) (by intro x hx; simp at hx; rcases hx with rfl | rfl | rfl | rfl | rfl | rfl | rfl | rfl | rfl <;> rfl) ?_; intro w9 hF9 hU9; replace hF := hF9; replace hR := hR.upd hU9 (by omega); replace hC := hC.upd hU9 (by omega); replace hB := hU9.below hB (by omega); clear hF9 hU9)
      | (refine wpList_bget (by rfl) 4 _ (by rfl) (w.heap.size + 1) 178 1 (by rfl) _ hC _ (by rfl) _ Try.underlying4 (by rfl) ?_; dsimp only)
      | (refine wpList_bstore (by rfl) _ _ _ (by rfl) w.heap.size 64 (by rfl) _ _ (by rfl) hR 9 (by rfl) (by kernel_rfl) (by rfl) (by intro x hx; simp at hx; rcases hx with rfl | rfl | rfl | rfl | rfl | rfl | rfl | rfl | rfl <;> rfl) ?_; intro w9 hR9 hU9; replace hR := hR9; replace hF := hF.upd hU9 (by omega); replace hC := hC.upd hU9 (by omega); replace hB := hU9.below hB (by omega); clear hR9 hU9)
      | (refine wpList_bload (by rfl) _ _ (by rfl) (w.heap.size + 2) 64 (by rfl) _ hF _ Try.underlying64 (by rfl) 9 (by rfl) (by kernel_rfl) ?_))
    exact bodyPost_ret (v := .tuple #[fdV (fd0), .bool false]) (results_box2 (by rfl) _ _ w.heap.size 64 _ _ _ (by rfl) hR (by rfl) Try.underlying64 (by rfl) 9 (by rfl) (by kernel_rfl)) rfl ⟨by rw [HN.out]; rfl, hB⟩
  | false =>
    have HN : Hid (recRd (1 :: s) = some f) := HE
    clear HE
    go_wp2_with (first
      | (refine wpList_bstore (by rfl) _ _ _ (by rfl) (w.heap.size + 2) 64 (by rfl) _ _ (by rfl) hF 9 (by rfl) (by kernel_rfl) (by rfl) (by intro x hx; simp at hx; rcases hx with rfl | rfl | rfl | rfl | rfl | rfl | rfl | rfl | rfl <;> rfl) ?_; intro w9 hF9 hU9; replace hF := hF9; replace hR := hR.upd hU9 (by omega); replace hC := hC.upd hU9 (by omega); replace hB := hU9.below hB (by omega); clear hF9 hU9)
      | (refine wpList_bget (by rfl) 4 _ (by rfl) (w.heap.size + 1) 178 1 (by rfl) _ hC _ (by rfl) _ Try.underlying4 (by rfl) ?_; dsimp only)
      | (refine wpList_bstore (by rfl) _ _ _ (by rfl) w.heap.size 64 (by rfl) _ _ (by rfl) hR 9 (by rfl) (by kernel_rfl) (by rfl) (by intro x hx; simp at hx; rcases hx with rfl | rfl | rfl | rfl | rfl | rfl | rfl | rfl | rfl <;> rfl) ?_; intro w9 hR9 hU9; replace hR := hR9; replace hF := hF.upd hU9 (by omega); replace hC := hC.upd hU9 (by omega); replace hB := hU9.below hB (by omega); clear hR9 hU9)
      | (refine wpList_bload (by rfl) _ _ (by rfl) (w.heap.size + 2) 64 (by rfl) _ hF _ Try.underlying64 (by rfl) 9 (by rfl) (by kernel_rfl) ?_))
    exact bodyPost_ret (v := .tuple #[fdV (f), .bool true]) (results_box2 (by rfl) _ _ w.heap.size 64 _ _ _ (by rfl) hR (by rfl) Try.underlying64 (by rfl) 9 (by rfl) (by kernel_rfl)) rfl ⟨by rw [HN.out]; rfl, hB⟩

set_option maxRecDepth 100000 in
set_option maxHeartbeats 4000000 in
theorem foundIn_card (s : List UInt8) (w : World) (hs : s.length ≤ 9223372036854775806) :
    Calls Try.prog 144 #[.string (str (2 :: s))] w fun e w' => e = .returned (foundV (recRd (2 :: s))) ∧ Below w.heap.size w w' := by
  have h0 : 0 < (str (2 :: s)).size := by rw [str_size]; simp
  have hx : (str (2 :: s)).extract 1 (str (2 :: s)).size = str s := by rw [str_extract, str_size]; simp
  have hne : (str (2 :: s)).toList.isEmpty = false := by rw [str_toList]; rfl
  have hk : ((str (2 :: s))[0]'h0).toNat = 2 := rfl
  have hle : (1 : Int) ≤ ((str (2 :: s)).size : Int) := by omega
  obtain ⟨hR, hC, hF, hW, hB⟩ := three_boxes w 64 178 64 fd0.cells.toArray (Cu.cells (s, false)).toArray fd0.cells.toArray
  have HE := rec_card_eq s
  go_enter Try.func144, Try.ntmps144
  go_wp2_with fail
  refine (tkCard_any (s, false) (w.heap.size + 1) _ hC (by simp only []; omega)).mono ?_
  rintro e w1 ⟨rfl, hC1, hT⟩
  replace hR := hR.but hT (Nat.lt_of_lt_of_le (by omega) (Nat.le_of_eq hW.symm)) (by omega)
  replace hF := hF.but hT (Nat.lt_of_lt_of_le (by omega) (Nat.le_of_eq hW.symm)) (by omega)
  replace hB := hT.below hB (Nat.le_trans (by omega) (Nat.le_of_eq hW.symm)) (by omega)
  replace hC := hC1
  clear hC1 hT hW hx hne hk hle
  generalize htk : tkCard (s, false) = X at *
  clear htk
  obtain ⟨f, r, d⟩ := X
  cases d with
  | true =>
    have HN : Hid (recRd (2 :: s) = none) := HE
    clear HE
    go_wp2_with (first
      | (refine wpList_bstore (by rfl) _ _ _ (by rfl) (w.heap.size + 2) 64 (by rfl) _ _ (by rfl) hF 9 (by rfl) (by kernel_rfl) (by rfl) (by intro x hx; simp at hx; rcases hx with rfl | rfl | rfl | rfl | rfl | rfl | rfl | rfl | rfl <;> rfl) ?_; intro w9 hF9 hU9; replace hF := hF9; replace hR := hR.upd hU9 (by omega); replace hC := hC.upd hU9 (by omega); replace hB := hU9.below hB (by omega); clear hF9 hU9)
      | (refine wpList_bget (by rfl) 4 _ (by rfl) (w.heap.size + 1) 178 1 (by rfl) _ hC _ (by rfl) _ Try.underlying4 (by rfl) ?_; dsimp only)
      | (refine wpList_bstore (by rfl) _ _ _ (by rfl) w.heap.size 64 (by rfl) _ _ (by rfl) hR 9 (by rfl) (by kernel_rfl) (by rfl) (by intro x hx; simp at hx; rcases hx with rfl | rfl | rfl | rfl | rfl | rfl | rfl | rfl | rfl <;> rfl) ?_; intro w9 hR9 hU9; replace hR := hR9; replace hF := hF.upd hU9 (by omega); replace hC := hC.upd hU9 (by omega); replace hB := hU9.below hB (by omega); clear hR9 hU9)
      | (refine wpList_bload (by rfl) _ _ (by rfl) (w.heap.size + 2) 64 (by rfl) _ hF _ Try.underlying64 (by rfl) 9 (by rfl) (by kernel_rfl) ?_))
    exact bodyPost_ret (v := .tuple #[fdV (fd0), .bool false]) (results_box2 (by rfl) _ _ w.heap.size 64 _ _ _ (by rfl) hR (by rfl) Try.underlying64 (by rfl) 9 (by rfl) (by kernel_rfl)) rfl ⟨by rw [HN.out]; rfl, hB⟩
  | false =>
    have HN : Hid (recRd (2 :: s) = some f) := HE
    clear HE
    go_wp2_with (first
      | (refine wpList_bstore (by rfl) _ _ _ (by rfl) (w.heap.size + 2) 64 (by rfl) _ _ (by rfl) hF 9 (by rfl) (by kernel_rfl) (by rfl) (by intro x hx; simp at hx; rcases hx with rfl | rfl | rfl | rfl | rfl | rfl | rfl | rfl | rfl <;> rfl) ?_; intro w9 hF9 hU9; replace hF := hF9; replace hR := hR.upd hU9 (by omega); replace hC := hC.upd hU9 (by omega); replace hB := hU9.below hB (by omega); clear hF9 hU9)
      | (refine wpList_bget (by rfl) 4 _ (by rfl) (w.heap.size + 1) 178 1 (by rfl) _ hC _ (by rfl) _ Try.underlying4 (by rfl) ?_; dsimp only)
      | (refine wpList_bstore (by rfl) _ _ _ (by rfl) w.heap.size 64 (by rfl) _ _ (by rfl) hR 9 (by rfl) (by kernel_rfl) (by rfl) (by intro x hx; simp at hx; rcases hx with rfl | rfl | rfl | rfl | rfl | rfl | rfl | rfl | rfl <;> rfl) ?_; intro w9 hR9 hU9; replace hR := hR9; replace hF := hF.upd hU9 (by omega); replace hC := hC.upd hU9 (by omega); replace hB := hU9.below hB (by omega); clear hR9 hU9)
      | (refine wpList_bload (by rfl) _ _ (by rfl) (w.heap.size + 2) 64 (by rfl) _ hF _ Try.underlying64 (by rfl) 9 (by rfl) (by kernel_rfl) ?_))
    exact bodyPost_ret (v := .tuple #[fdV (f), .bool true]) (results_box2 (by rfl) _ _ w.heap.size 64 _ _ _ (by rfl) hR (by rfl) Try.underlying64 (by rfl) 9 (by rfl) (by kernel_rfl)) rfl ⟨by rw [HN.out]; rfl, hB⟩

set_option maxRecDepth 100000 in
set_option maxHeartbeats 4000000 in
theorem foundIn_edit (s : List UInt8) (w : World) (hs : s.length ≤ 9223372036854775806) :
    Calls Try.prog 144 #[.string (str (3 :: s))] w fun e w' => e = .returned (foundV (recRd (3 :: s))) ∧ Below w.heap.size w w' := by
  have h0 : 0 < (str (3 :: s)).size := by rw [str_size]; simp
  have hx : (str (3 :: s)).extract 1 (str (3 :: s)).size = str s := by rw [str_extract, str_size]; simp
  have hne : (str (3 :: s)).toList.isEmpty = false := by rw [str_toList]; rfl
  have hk : ((str (3 :: s))[0]'h0).toNat = 3 := rfl
  have hle : (1 : Int) ≤ ((str (3 :: s)).size : Int) := by omega
  obtain ⟨hR, hC, hF, hW, hB⟩ := three_boxes w 64 178 64 fd0.cells.toArray (Cu.cells (s, false)).toArray fd0.cells.toArray
  have HE := rec_edit_eq s
  go_enter Try.func144, Try.ntmps144
  go_wp2_with fail
  refine (tkEdit_any (s, false) (w.heap.size + 1) _ hC (by simp only []; omega)).mono ?_
  rintro e w1 ⟨rfl, hC1, hT⟩
  replace hR := hR.but hT (Nat.lt_of_lt_of_le (by omega) (Nat.le_of_eq hW.symm)) (by omega)
  replace hF := hF.but hT (Nat.lt_of_lt_of_le (by omega) (Nat.le_of_eq hW.symm)) (by omega)
  replace hB := hT.below hB (Nat.le_trans (by omega) (Nat.le_of_eq hW.symm)) (by omega)
  replace hC := hC1
  clear hC1 hT hW hx hne hk hle
  generalize htk : tkEdit (s, false) = X at *
  clear htk
  obtain ⟨f, r, d⟩ := X
  cases d with
  | true =>
    have HN : Hid (recRd (3 :: s) = none) := HE
    clear HE
    go_wp2_with (first
      | (refine wpList_bstore (by rfl) _ _ _ (by rfl) (w.heap.size + 2) 64 (by rfl) _ _ (by rfl) hF 9 (by rfl) (by kernel_rfl) (by rfl) (by intro x hx; simp at hx; rcases hx with rfl | rfl | rfl | rfl | rfl | rfl | rfl | rfl | rfl <;> rfl) ?_; intro w9 hF9 hU9; replace hF := hF9; replace hR := hR.upd hU9 (by omega); replace hC := hC.upd hU9 (by omega); replace hB := hU9.below hB (by omega); clear hF9 hU9)
      | (refine wpList_bget (by rfl) 4 _ (by rfl) (w.heap.size + 1) 178 1 (by rfl) _ hC _ (by rfl) _ Try.underlying4 (by rfl) ?_; dsimp only)
      | (refine wpList_bstore (by rfl) _ _ _ (by rfl) w.heap.size 64 (by rfl) _ _ (by rfl) hR 9 (by rfl) (by kernel_rfl) (by rfl) (by intro x hx; simp at hx; rcases hx with rfl | rfl | rfl | rfl | rfl | rfl | rfl | rfl | rfl <;> rfl) ?_; intro w9 hR9 hU9; replace hR := hR9; replace hF := hF.upd hU9 (by omega); replace hC := hC.upd hU9 (by omega); replace hB := hU9.below hB (by omega); clear hR9 hU9)
      | (refine wpList_bload (by rfl) _ _ (by rfl) (w.heap.size + 2) 64 (by rfl) _ hF _ Try.underlying64 (by rfl) 9 (by rfl) (by kernel_rfl) ?_))
    exact bodyPost_ret (v := .tuple #[fdV (fd0), .bool false]) (results_box2 (by rfl) _ _ w.heap.size 64 _ _ _ (by rfl) hR (by rfl) Try.underlying64 (by rfl) 9 (by rfl) (by kernel_rfl)) rfl ⟨by rw [HN.out]; rfl, hB⟩
  | false =>
    have HN : Hid (recRd (3 :: s) = some f) := HE
    clear HE
    go_wp2_with (first
      | (refine wpList_bstore (by rfl) _ _ _ (by rfl) (w.heap.size + 2) 64 (by rfl) _ _ (by rfl) hF 9 (by rfl) (by kernel_rfl) (by rfl) (by intro x hx; simp at hx; rcases hx with rfl | rfl | rfl | rfl | rfl | rfl | rfl | rfl | rfl <;> rfl) ?_; intro w9 hF9 hU9; replace hF := hF9; replace hR := hR.upd hU9 (by omega); replace hC := hC.upd hU9 (by omega); replace hB := hU9.below hB (by omega); clear hF9 hU9)
      | (refine wpList_bget (by rfl) 4 _ (by rfl) (w.heap.size + 1) 178 1 (by rfl) _ hC _ (by rfl) _ Try.underlying4 (by rfl) ?_; dsimp only)
      | (refine wpList_bstore (by rfl) _ _ _ (by rfl) w.heap.size 64 (by rfl) _ _ (by rfl) hR 9 (by rfl) (by kernel_rfl) (by rfl) (by intro x hx; simp at hx; rcases hx with rfl | rfl | rfl | rfl | rfl | rfl | rfl | rfl | rfl <;> rfl) ?_; intro w9 hR9 hU9; replace hR := hR9; replace hF := hF.upd hU9 (by omega); replace hC := hC.upd hU9 (by omega); replace hB := hU9.below hB (by omega); clear hR9 hU9)
      | (refine wpList_bload (by rfl) _ _ (by rfl) (w.heap.size + 2) 64 (by rfl) _ hF _ Try.underlying64 (by rfl) 9 (by rfl) (by kernel_rfl) ?_))
    exact bodyPost_ret (v := .tuple #[fdV (f), .bool true]) (results_box2 (by rfl) _ _ w.heap.size 64 _ _ _ (by rfl) hR (by rfl) Try.underlying64 (by rfl) 9 (by rfl) (by kernel_rfl)) rfl ⟨by rw [HN.out]; rfl, hB⟩

set_option maxRecDepth 100000 in
set_option maxHeartbeats 4000000 in
theorem foundIn_nil (w : World) : Calls Try.prog 144 #[.string (str [])] w fun e w' => e = .returned (foundV (recRd [])) ∧ Below w.heap.size w w' := by
  have hne : (str []).toList.isEmpty = true := by rw [str_toList]; rfl
  have HN : Hid (recRd [] = none) := rfl
  obtain ⟨hR, hW, hB⟩ := one_box w 64 fd0.cells.toArray
  go_enter Try.func144, Try.ntmps144
  go_wp2_with fail
  exact bodyPost_ret (v := .tuple #[fdV (fd0), .bool false]) (results_box2 (by rfl) _ _ w.heap.size 64 _ _ _ (by rfl) hR (by rfl) Try.underlying64 (by rfl) 9 (by rfl) (by kernel_rfl)) rfl ⟨by rw [HN.out]; rfl, hB⟩

set_option maxRecDepth 100000 in
set_option maxHeartbeats 4000000 in
theorem foundIn_none (c : UInt8) (s : List UInt8) (w : World) (h1 : c ≠ 1) (h2 : c ≠ 2) (h3 : c ≠ 3) (h4 : c ≠ 4) :
    Calls Try.prog 144 #[.string (str (c :: s))] w fun e w' => e = .returned (foundV (recRd (c :: s))) ∧ Below w.heap.size w w' := by
  have h0 : 0 < (str (c :: s)).size := by rw [str_size]; simp
  have hx : (str (c :: s)).extract 1 (str (c :: s)).size = str s := by rw [str_extract, str_size]; simp
  have hne : (str (c :: s)).toList.isEmpty = false := by rw [str_toList]; rfl
  have e : ((str (c :: s))[0]'h0).toNat = c.toNat := rfl
  have ne (n : Nat) (d : UInt8) (hd : d.toNat = n) (h : c ≠ d) : ((((str (c :: s))[0]'h0).toNat : Int) == (n : Int)) = false := by
    rw [beq_eq_false_iff_ne, e]; intro e; exact h (UInt8.toNat_inj.1 (by omega))
  have n1 : ((((str (c :: s))[0]'h0).toNat : Int) == 1) = false := ne 1 1 rfl h1
  have n2 : ((((str (c :: s))[0]'h0).toNat : Int) == 2) = false := ne 2 2 rfl h2
  have n3 : ((((str (c :: s))[0]'h0).toNat : Int) == 3) = false := ne 3 3 rfl h3
  have n4 : ((((str (c :: s))[0]'h0).toNat : Int) == 4) = false := ne 4 4 rfl h4
  have hle : (1 : Int) ≤ ((str (c :: s)).size : Int) := by omega
  have HN : Hid (recRd (c :: s) = none) := by show _ = _; simp [recRd, h1, h2, h3, h4]
  obtain ⟨hR, hC, hF, hW, hB⟩ := three_boxes w 64 178 64 fd0.cells.toArray (Cu.cells (s, false)).toArray fd0.cells.toArray
  clear h1 h2 h3 h4 ne e
  go_enter Try.func144, Try.ntmps144
  go_wp2_with (first
      | (refine wpList_bput (by rfl) _ _ 4 (by rfl) (w.heap.size + 1) 178 1 (by rfl) _ (.bool true) (by rfl) hC (by kernel_rfl) (by simp) (by rfl) (by rfl) ?_; intro w9 hC9 hU9; replace hC := hC9; replace hR := hR.upd hU9 (by omega); replace hF := hF.upd hU9 (by omega); replace hB := hU9.below hB (by omega); clear hC9 hU9; dsimp only [List.set] at hC)
      | (refine wpList_bget (by rfl) 4 _ (by rfl) (w.heap.size + 1) 178 1 (by rfl) _ hC _ (by rfl) _ Try.underlying4 (by rfl) ?_; dsimp only)
      | (refine wpList_bstore (by rfl) _ _ _ (by rfl) w.heap.size 64 (by rfl) _ _ (by rfl) hR 9 (by rfl) (by kernel_rfl) (by rfl) (by intro x hx; simp at hx; rcases hx with rfl | rfl | rfl | rfl | rfl | rfl | rfl | rfl | rfl <;> rfl) ?_; intro w9 hR9 hU9; replace hR := hR9; replace hF := hF.upd hU9 (by omega); replace hC := hC.upd hU9 (by omega); replace hB := hU9.below hB (by omega); clear hR9 hU9)
      | (refine wpList_bload (by rfl) _ _ (by rfl) (w.heap.size + 2) 64 (by rfl) _ hF _ Try.underlying64 (by rfl) 9 (by rfl) (by kernel_rfl) ?_))
  exact bodyPost_ret (v := .tuple #[fdV (fd0), .bool false]) (results_box2 (by rfl) _ _ w.heap.size 64 _ _ _ (by rfl) hR (by rfl) Try.underlying64 (by rfl) 9 (by rfl) (by kernel_rfl)) rfl ⟨by rw [HN.out]; rfl, hB⟩

theorem foundIn_any (s : List UInt8) (w : World) (hs : s.length ≤ 9223372036854775806) :
    Calls Try.prog 144 #[.string (str s)] w fun e w' => e = .returned (foundV (recRd s)) ∧ Below w.heap.size w w' := by
  match s, hs with
  | [], _ => exact foundIn_nil w
  | c :: s, hs =>
    have hs' : s.length ≤ 9223372036854775806 := by simp at hs; omega
    by_cases h1 : c = 1
    · subst h1; exact foundIn_clock s w hs'
    · by_cases h2 : c = 2
      · subst h2; exact foundIn_card s w hs'
      · by_cases h3 : c = 3
        · subst h3; exact foundIn_edit s w hs'
        · by_cases h4 : c = 4
          · subst h4; exact foundIn_head s w hs'
          · exact foundIn_none c s w h1 h2 h3 h4
end Go.Proofs.Ytdjpkgaicmklmaa

/- Records read back: the reference's record, walked (heads). -/
namespace Go.Proofs.Ytdjpkgaicmklmaa
open Go.RowKit

set_option maxRecDepth 100000 in
set_option maxHeartbeats 4000000 in
theorem rec_head (s : List UInt8) (w : World) (hs : s.length ≤ 9223372036854775806) :
    Calls Try.prog 131 #[.string (str (4 :: s))] w fun e w' => RecAns (4 :: s) e ∧ Below w.heap.size w w' := by
  have h0 : 0 < (str (4 :: s)).size := by rw [str_size]; simp
  have hx : (str (4 :: s)).extract 1 (str (4 :: s)).size = str s := by rw [str_extract, str_size]; simp
  have hne : (str (4 :: s)).toList.isEmpty = false := by rw [str_toList]; rfl
  have hk : wrap64 (((str (4 :: s))[0]'h0).toNat : Int) = 4 := by
    have e : ((str (4 :: s))[0]'h0).toNat = 4 := rfl
    rw [e]; unfold wrap64; omega
  have hle : (1 : Int) ≤ ((str (4 :: s)).size : Int) := by omega
  go_enter Try.func131, Try.ntmps131
  go_wp2_with fail
  obtain ⟨hR, hF, hW, hB⟩ := two_boxes w 64 64 fd0.cells.toArray #[.int .i64 0, .int .i64 4, .int .i64 0, .int .i64 0, .int .i64 0, .int .i64 0, .int .i64 0, .bool false, .string ⟨#[]⟩]
  refine (rnums_any s 1 _ (by omega) (by omega)).mono ?_
  rintro e w2 ⟨hA, hb2⟩
  replace hF := hF.below hb2 hF.lt
  replace hR := hR.below hb2 hR.lt
  have hB2 : Below w.heap.size w w2 := hB.trans (hb2.mono (Nat.le_trans (by omega : w.heap.size ≤ w.heap.size + 2) (Nat.le_of_eq hW.symm)))
  clear hB hx hne hk hle
  unfold NumsAns at hA
  cases hn : numsRd 1 s with
  | none =>
    rw [hn] at hA
    obtain rfl := hA
    have HN : Hid (recRd (4 :: s) = none) := by show _ = _; simp [recRd, hn]
    clear hn
    go_wp2_with (first
      | (refine wpList_bput (by rfl) _ _ 3 (by rfl) (w.heap.size + 1) 64 _ (by rfl) _ (.int .i64 _) (by rfl) hF (by kernel_rfl) (by simp) (by rfl) (by rfl) ?_; intro w9 hF9 hU9; replace hF := hF9; replace hR := hR.upd hU9 (by omega); replace hB2 := hU9.below hB2 (by omega); clear hF9 hU9; dsimp only [List.set] at hF)
      | (refine wpList_bput (by rfl) _ _ 9 (by rfl) (w.heap.size + 1) 64 _ (by rfl) _ (.string _) (by rfl) hF (by kernel_rfl) (by simp) (by rfl) (by rfl) ?_; intro w9 hF9 hU9; replace hF := hF9; replace hR := hR.upd hU9 (by omega); replace hB2 := hU9.below hB2 (by omega); clear hF9 hU9; dsimp only [List.set] at hF)
      | (refine wpList_bput (by rfl) _ _ 4 (by rfl) (w.heap.size + 1) 64 _ (by rfl) _ (.bool _) (by rfl) hF (by kernel_rfl) (by simp) (by rfl) (by rfl) ?_; intro w9 hF9 hU9; replace hF := hF9; replace hR := hR.upd hU9 (by omega); replace hB2 := hU9.below hB2 (by omega); clear hF9 hU9; dsimp only [List.set] at hF)
      | (refine wpList_bload (by rfl) _ _ (by rfl) (w.heap.size + 1) 64 (by rfl) _ hF _ Try.underlying64 (by rfl) 9 (by rfl) (by kernel_rfl) ?_)
      | (refine wpList_bstore (by rfl) _ _ _ (by rfl) w.heap.size 64 (by rfl) _ _ (by rfl) hR 9 (by rfl) (by kernel_rfl) (by rfl) (by intro x hx; simp at hx; rcases hx with rfl | rfl | rfl | rfl | rfl | rfl | rfl | rfl | rfl <;> rfl) ?_; intro w9 hR9 hU9; replace hR := hR9; replace hF := hF.upd hU9 (by omega); replace hB2 := hU9.below hB2 (by omega); clear hR9 hU9)
      | (refine wpList_bget (by rfl) 3 _ (by rfl) (w.heap.size + 1) 64 _ (by rfl) _ hF _ (by rfl) _ Try.underlying3 (by rfl) ?_))
    exact bodyPost_ret (v := .tuple #[fdV (fdK 4), .bool false]) (results_box2 (by rfl) _ _ w.heap.size 64 _ _ _ (by rfl) hR (by rfl) Try.underlying64 (by rfl) 9 (by rfl) (by kernel_rfl)) rfl ⟨⟨_, false, rfl, HN.out⟩, hB2⟩
  | some p =>
    obtain ⟨l, r⟩ := p
    rw [hn] at hA
    obtain ⟨ad, cap, rfl, hv⟩ := hA
    replace hv := hv.mono (show w.heap.size + 2 ≤ _ from Nat.le_of_eq hW.symm)
    have hl := (numsRd_length 1 s hn).1
    have hrl := (numsRd_length 1 s hn).2
    have hvl := hv.length
    obtain ⟨g, sp, rfl, hg, hgl, hL⟩ := hv.bx (by omega)
    clear hv hvl
    obtain ⟨q, rfl⟩ : ∃ q, l = [q] := by match l, hl with | [q], _ => exact ⟨q, rfl⟩
    by_cases hq : q = 0
    · subst hq
      cases r with
      | nil =>
        have hre : (str []).toList.isEmpty = true := by rw [str_toList]; rfl
        have HN : Hid (recRd (4 :: s) = some (fdHead 0 0)) := by show _ = _; simp [recRd, hn]
        clear hn hl
        go_wp2_with (first
              | (refine wpList_bput (by rfl) _ _ 3 (by rfl) (w.heap.size + 1) 64 _ (by rfl) _ (.int .i64 _) (by rfl) hF (by kernel_rfl) (by simp) (by rfl) (by rfl) ?_; intro w9 hF9 hU9; replace hF := hF9; replace hR := hR.upd hU9 (by omega); replace hL := hL.upd hU9 (by omega); replace hB2 := hU9.below hB2 (by omega); clear hF9 hU9; dsimp only [List.set] at hF)
              | (refine wpList_bput (by rfl) _ _ 9 (by rfl) (w.heap.size + 1) 64 _ (by rfl) _ (.string _) (by rfl) hF (by kernel_rfl) (by simp) (by rfl) (by rfl) ?_; intro w9 hF9 hU9; replace hF := hF9; replace hR := hR.upd hU9 (by omega); replace hL := hL.upd hU9 (by omega); replace hB2 := hU9.below hB2 (by omega); clear hF9 hU9; dsimp only [List.set] at hF)
              | (refine wpList_bput (by rfl) _ _ 4 (by rfl) (w.heap.size + 1) 64 _ (by rfl) _ (.bool _) (by rfl) hF (by kernel_rfl) (by simp) (by rfl) (by rfl) ?_; intro w9 hF9 hU9; replace hF := hF9; replace hR := hR.upd hU9 (by omega); replace hL := hL.upd hU9 (by omega); replace hB2 := hU9.below hB2 (by omega); clear hF9 hU9; dsimp only [List.set] at hF)
              | (refine wpList_bload (by rfl) _ _ (by rfl) (w.heap.size + 1) 64 (by rfl) _ hF _ Try.underlying64 (by rfl) 9 (by rfl) (by kernel_rfl) ?_)
              | (refine wpList_bstore (by rfl) _ _ _ (by rfl) w.heap.size 64 (by rfl) _ _ (by rfl) hR 9 (by rfl) (by kernel_rfl) (by rfl) (by intro x hx; simp at hx; rcases hx with rfl | rfl | rfl | rfl | rfl | rfl | rfl | rfl | rfl <;> rfl) ?_; intro w9 hR9 hU9; replace hR := hR9; replace hF := hF.upd hU9 (by omega); replace hB2 := hU9.below hB2 (by omega); clear hR9 hU9)
              | (refine wpList_bget (by rfl) 3 _ (by rfl) (w.heap.size + 1) 64 _ (by rfl) _ hF _ (by rfl) _ Try.underlying3 (by rfl) ?_)
              | (refine wpList_bget (by rfl) 3 _ (by rfl) g 3 _ (by rfl) _ hL _ (by rfl) _ Try.underlying3 (by rfl) ?_))
        exact bodyPost_ret (v := .tuple #[fdV (fdHead 0 0), .bool true]) (results_box2 (by rfl) _ _ w.heap.size 64 _ _ _ (by rfl) hR (by rfl) Try.underlying64 (by rfl) 9 (by rfl) (by kernel_rfl)) rfl ⟨⟨_, true, rfl, HN.out⟩, hB2⟩

      | cons c t =>
        have hre : (str (c :: t)).toList.isEmpty = false := by rw [str_toList]; rfl
        have HN : Hid (recRd (4 :: s) = none) := by show _ = _; simp [recRd, hn]
        clear hn hl
        go_wp2_with (first
              | (refine wpList_bput (by rfl) _ _ 3 (by rfl) (w.heap.size + 1) 64 _ (by rfl) _ (.int .i64 _) (by rfl) hF (by kernel_rfl) (by simp) (by rfl) (by rfl) ?_; intro w9 hF9 hU9; replace hF := hF9; replace hR := hR.upd hU9 (by omega); replace hL := hL.upd hU9 (by omega); replace hB2 := hU9.below hB2 (by omega); clear hF9 hU9; dsimp only [List.set] at hF)
              | (refine wpList_bput (by rfl) _ _ 9 (by rfl) (w.heap.size + 1) 64 _ (by rfl) _ (.string _) (by rfl) hF (by kernel_rfl) (by simp) (by rfl) (by rfl) ?_; intro w9 hF9 hU9; replace hF := hF9; replace hR := hR.upd hU9 (by omega); replace hL := hL.upd hU9 (by omega); replace hB2 := hU9.below hB2 (by omega); clear hF9 hU9; dsimp only [List.set] at hF)
              | (refine wpList_bput (by rfl) _ _ 4 (by rfl) (w.heap.size + 1) 64 _ (by rfl) _ (.bool _) (by rfl) hF (by kernel_rfl) (by simp) (by rfl) (by rfl) ?_; intro w9 hF9 hU9; replace hF := hF9; replace hR := hR.upd hU9 (by omega); replace hL := hL.upd hU9 (by omega); replace hB2 := hU9.below hB2 (by omega); clear hF9 hU9; dsimp only [List.set] at hF)
              | (refine wpList_bload (by rfl) _ _ (by rfl) (w.heap.size + 1) 64 (by rfl) _ hF _ Try.underlying64 (by rfl) 9 (by rfl) (by kernel_rfl) ?_)
              | (refine wpList_bstore (by rfl) _ _ _ (by rfl) w.heap.size 64 (by rfl) _ _ (by rfl) hR 9 (by rfl) (by kernel_rfl) (by rfl) (by intro x hx; simp at hx; rcases hx with rfl | rfl | rfl | rfl | rfl | rfl | rfl | rfl | rfl <;> rfl) ?_; intro w9 hR9 hU9; replace hR := hR9; replace hF := hF.upd hU9 (by omega); replace hB2 := hU9.below hB2 (by omega); clear hR9 hU9)
              | (refine wpList_bget (by rfl) 3 _ (by rfl) (w.heap.size + 1) 64 _ (by rfl) _ hF _ (by rfl) _ Try.underlying3 (by rfl) ?_)
              | (refine wpList_bget (by rfl) 3 _ (by rfl) g 3 _ (by rfl) _ hL _ (by rfl) _ Try.underlying3 (by rfl) ?_))
        exact bodyPost_ret (v := .tuple #[fdV (fdHead 0 0), .bool false]) (results_box2 (by rfl) _ _ w.heap.size 64 _ _ _ (by rfl) hR (by rfl) Try.underlying64 (by rfl) 9 (by rfl) (by kernel_rfl)) rfl ⟨⟨_, false, rfl, HN.out⟩, hB2⟩

    · have hqb : (q == 0) = false := by simp [hq]
      by_cases h4 : r.length = 4
      · have hz4 : (str r).size = 4 := by rw [str_size, h4]
        have hz5 : (((str r).size : Int) != 4) = false := by rw [hz4]; rfl
        clear hz4
        have HN : Hid (recRd (4 :: s) = some (fdHead q (fourRd r))) := by show _ = _; simp [recRd, hn, hq, h4]
        clear hn hl
        go_wp2_with (first
              | (refine wpList_bput (by rfl) _ _ 3 (by rfl) (w.heap.size + 1) 64 _ (by rfl) _ (.int .i64 _) (by rfl) hF (by kernel_rfl) (by simp) (by rfl) (by rfl) ?_; intro w9 hF9 hU9; replace hF := hF9; replace hR := hR.upd hU9 (by omega); replace hL := hL.upd hU9 (by omega); replace hB2 := hU9.below hB2 (by omega); clear hF9 hU9; dsimp only [List.set] at hF)
              | (refine wpList_bput (by rfl) _ _ 9 (by rfl) (w.heap.size + 1) 64 _ (by rfl) _ (.string _) (by rfl) hF (by kernel_rfl) (by simp) (by rfl) (by rfl) ?_; intro w9 hF9 hU9; replace hF := hF9; replace hR := hR.upd hU9 (by omega); replace hL := hL.upd hU9 (by omega); replace hB2 := hU9.below hB2 (by omega); clear hF9 hU9; dsimp only [List.set] at hF)
              | (refine wpList_bput (by rfl) _ _ 4 (by rfl) (w.heap.size + 1) 64 _ (by rfl) _ (.bool _) (by rfl) hF (by kernel_rfl) (by simp) (by rfl) (by rfl) ?_; intro w9 hF9 hU9; replace hF := hF9; replace hR := hR.upd hU9 (by omega); replace hL := hL.upd hU9 (by omega); replace hB2 := hU9.below hB2 (by omega); clear hF9 hU9; dsimp only [List.set] at hF)
              | (refine wpList_bload (by rfl) _ _ (by rfl) (w.heap.size + 1) 64 (by rfl) _ hF _ Try.underlying64 (by rfl) 9 (by rfl) (by kernel_rfl) ?_)
              | (refine wpList_bstore (by rfl) _ _ _ (by rfl) w.heap.size 64 (by rfl) _ _ (by rfl) hR 9 (by rfl) (by kernel_rfl) (by rfl) (by intro x hx; simp at hx; rcases hx with rfl | rfl | rfl | rfl | rfl | rfl | rfl | rfl | rfl <;> rfl) ?_; intro w9 hR9 hU9; replace hR := hR9; replace hF := hF.upd hU9 (by omega); replace hB2 := hU9.below hB2 (by omega); clear hR9 hU9)
              | (refine wpList_bget (by rfl) 3 _ (by rfl) (w.heap.size + 1) 64 _ (by rfl) _ hF _ (by rfl) _ Try.underlying3 (by rfl) ?_)
              | (refine wpList_bget (by rfl) 3 _ (by rfl) g 3 _ (by rfl) _ hL _ (by rfl) _ Try.underlying3 (by rfl) ?_))
        refine (rfour_rd r _ h4).mono ?_
        rintro e w9 ⟨rfl, nn, rfl⟩
        replace hF := hF.drewN nn
        replace hR := hR.drewN nn
        replace hL := hL.drewN nn
        replace hB2 := (Upd.drewN (Upd.refl w.heap.size _) nn).below hB2 (Nat.le_refl _)
        go_wp2_with (first
              | (refine wpList_bput (by rfl) _ _ 3 (by rfl) (w.heap.size + 1) 64 _ (by rfl) _ (.int .i64 _) (by rfl) hF (by kernel_rfl) (by simp) (by rfl) (by rfl) ?_; intro w9 hF9 hU9; replace hF := hF9; replace hR := hR.upd hU9 (by omega); replace hL := hL.upd hU9 (by omega); replace hB2 := hU9.below hB2 (by omega); clear hF9 hU9; dsimp only [List.set] at hF)
              | (refine wpList_bput (by rfl) _ _ 9 (by rfl) (w.heap.size + 1) 64 _ (by rfl) _ (.string _) (by rfl) hF (by kernel_rfl) (by simp) (by rfl) (by rfl) ?_; intro w9 hF9 hU9; replace hF := hF9; replace hR := hR.upd hU9 (by omega); replace hL := hL.upd hU9 (by omega); replace hB2 := hU9.below hB2 (by omega); clear hF9 hU9; dsimp only [List.set] at hF)
              | (refine wpList_bput (by rfl) _ _ 4 (by rfl) (w.heap.size + 1) 64 _ (by rfl) _ (.bool _) (by rfl) hF (by kernel_rfl) (by simp) (by rfl) (by rfl) ?_; intro w9 hF9 hU9; replace hF := hF9; replace hR := hR.upd hU9 (by omega); replace hL := hL.upd hU9 (by omega); replace hB2 := hU9.below hB2 (by omega); clear hF9 hU9; dsimp only [List.set] at hF)
              | (refine wpList_bload (by rfl) _ _ (by rfl) (w.heap.size + 1) 64 (by rfl) _ hF _ Try.underlying64 (by rfl) 9 (by rfl) (by kernel_rfl) ?_)
              | (refine wpList_bstore (by rfl) _ _ _ (by rfl) w.heap.size 64 (by rfl) _ _ (by rfl) hR 9 (by rfl) (by kernel_rfl) (by rfl) (by intro x hx; simp at hx; rcases hx with rfl | rfl | rfl | rfl | rfl | rfl | rfl | rfl | rfl <;> rfl) ?_; intro w9 hR9 hU9; replace hR := hR9; replace hF := hF.upd hU9 (by omega); replace hB2 := hU9.below hB2 (by omega); clear hR9 hU9)
              | (refine wpList_bget (by rfl) 3 _ (by rfl) (w.heap.size + 1) 64 _ (by rfl) _ hF _ (by rfl) _ Try.underlying3 (by rfl) ?_)
              | (refine wpList_bget (by rfl) 3 _ (by rfl) g 3 _ (by rfl) _ hL _ (by rfl) _ Try.underlying3 (by rfl) ?_))
        exact bodyPost_ret (v := .tuple #[fdV (fdHead q (fourRd r)), .bool true]) (results_box2 (by rfl) _ _ w.heap.size 64 _ _ _ (by rfl) hR (by rfl) Try.underlying64 (by rfl) 9 (by rfl) (by kernel_rfl)) rfl ⟨⟨_, true, rfl, HN.out⟩, hB2⟩

      · have hz5 : (((str r).size : Int) != 4) = true := by rw [str_size, bne_iff_ne]; omega
        have HN : Hid (recRd (4 :: s) = none) := by show _ = _; simp [recRd, hn, hq, h4]
        clear hn hl
        go_wp2_with (first
              | (refine wpList_bput (by rfl) _ _ 3 (by rfl) (w.heap.size + 1) 64 _ (by rfl) _ (.int .i64 _) (by rfl) hF (by kernel_rfl) (by simp) (by rfl) (by rfl) ?_; intro w9 hF9 hU9; replace hF := hF9; replace hR := hR.upd hU9 (by omega); replace hL := hL.upd hU9 (by omega); replace hB2 := hU9.below hB2 (by omega); clear hF9 hU9; dsimp only [List.set] at hF)
              | (refine wpList_bput (by rfl) _ _ 9 (by rfl) (w.heap.size + 1) 64 _ (by rfl) _ (.string _) (by rfl) hF (by kernel_rfl) (by simp) (by rfl) (by rfl) ?_; intro w9 hF9 hU9; replace hF := hF9; replace hR := hR.upd hU9 (by omega); replace hL := hL.upd hU9 (by omega); replace hB2 := hU9.below hB2 (by omega); clear hF9 hU9; dsimp only [List.set] at hF)
              | (refine wpList_bput (by rfl) _ _ 4 (by rfl) (w.heap.size + 1) 64 _ (by rfl) _ (.bool _) (by rfl) hF (by kernel_rfl) (by simp) (by rfl) (by rfl) ?_; intro w9 hF9 hU9; replace hF := hF9; replace hR := hR.upd hU9 (by omega); replace hL := hL.upd hU9 (by omega); replace hB2 := hU9.below hB2 (by omega); clear hF9 hU9; dsimp only [List.set] at hF)
              | (refine wpList_bload (by rfl) _ _ (by rfl) (w.heap.size + 1) 64 (by rfl) _ hF _ Try.underlying64 (by rfl) 9 (by rfl) (by kernel_rfl) ?_)
              | (refine wpList_bstore (by rfl) _ _ _ (by rfl) w.heap.size 64 (by rfl) _ _ (by rfl) hR 9 (by rfl) (by kernel_rfl) (by rfl) (by intro x hx; simp at hx; rcases hx with rfl | rfl | rfl | rfl | rfl | rfl | rfl | rfl | rfl <;> rfl) ?_; intro w9 hR9 hU9; replace hR := hR9; replace hF := hF.upd hU9 (by omega); replace hB2 := hU9.below hB2 (by omega); clear hR9 hU9)
              | (refine wpList_bget (by rfl) 3 _ (by rfl) (w.heap.size + 1) 64 _ (by rfl) _ hF _ (by rfl) _ Try.underlying3 (by rfl) ?_)
              | (refine wpList_bget (by rfl) 3 _ (by rfl) g 3 _ (by rfl) _ hL _ (by rfl) _ Try.underlying3 (by rfl) ?_))
        exact bodyPost_ret (v := .tuple #[fdV (fdHead q 0), .bool false]) (results_box2 (by rfl) _ _ w.heap.size 64 _ _ _ (by rfl) hR (by rfl) Try.underlying64 (by rfl) 9 (by rfl) (by kernel_rfl)) rfl ⟨⟨_, false, rfl, HN.out⟩, hB2⟩

end Go.Proofs.Ytdjpkgaicmklmaa

