/- Rows that a call makes itself: make, copy and stores of whole records, as laws for the walk. -/
import Derived.Test.YtmafnghokmcijaaA
import Derived.Laws.CopyOwn
namespace Go.Proofs.Ytmafnghokmcijaa
open Go.RowKit

/-! ### Rows of records of one length, laid flat -/
def Even (m : Nat) (rows : List (List Value)) : Prop := ∀ r, r ∈ rows → r.length = m

theorem Even.nil (m : Nat) : Even m [] := by intro r h; cases h
theorem Even.cons {m : Nat} {r : List Value} {rows : List (List Value)} (h : Even m (r :: rows)) : r.length = m ∧ Even m rows :=
  ⟨h r (by simp), fun x hx => h x (by simp [hx])⟩
theorem Even.append {m : Nat} {a b : List (List Value)} (ha : Even m a) (hb : Even m b) : Even m (a ++ b) := by
  intro r h; rcases List.mem_append.1 h with h | h
  · exact ha r h
  · exact hb r h
theorem Even.drop {m : Nat} {a : List (List Value)} (ha : Even m a) (k : Nat) : Even m (a.drop k) := fun r h => ha r (List.mem_of_mem_drop h)
theorem Even.take {m : Nat} {a : List (List Value)} (ha : Even m a) (k : Nat) : Even m (a.take k) := fun r h => ha r (List.mem_of_mem_take h)
theorem Even.set {m : Nat} {a : List (List Value)} (ha : Even m a) (k : Nat) {v : List Value} (hv : v.length = m) : Even m (a.set k v) := by
  intro r h; rcases List.mem_or_eq_of_mem_set h with h | h
  · exact ha r h
  · subst h; exact hv
theorem Even.range {m : Nat} {f : Nat → List Value} (n : Nat) (hf : ∀ i, i < n → (f i).length = m) : Even m ((List.range n).map f) := by
  intro r h
  obtain ⟨i, hi, rfl⟩ := List.mem_map.1 h
  exact hf i (List.mem_range.1 hi)
theorem Even.replicate {m : Nat} {z : List Value} (n : Nat) (hz : z.length = m) : Even m (List.replicate n z) := by
  intro r h; rw [List.eq_of_mem_replicate h]; exact hz

theorem Even.length {m : Nat} : ∀ {rows : List (List Value)}, Even m rows → rows.flatten.length = rows.length * m
  | [], _ => by simp
  | r :: rows, h => by
    have := h.cons
    simp only [List.flatten_cons, List.length_append, List.length_cons, this.1, this.2.length]
    rw [Nat.add_mul]; omega

theorem Even.at {m : Nat} : ∀ {rows : List (List Value)}, Even m rows → ∀ (i j : Nat), j < m → i < rows.length → rows.flatten[i * m + j]? = (rows.getD i [])[j]?
  | [], _, i, j, _, hi => by simp at hi
  | r :: rows, h, 0, j, hj, _ => by
    have := h.cons
    simp only [List.flatten_cons]
    rw [List.getElem?_append_left (by omega)]
    simp
  | r :: rows, h, i + 1, j, hj, hi => by
    have := h.cons
    simp only [List.flatten_cons]
    rw [List.getElem?_append_right (by rw [this.1, Nat.add_mul]; omega)]
    have e : (i + 1) * m + j - r.length = i * m + j := by rw [this.1, Nat.add_mul]; omega
    rw [e, this.2.at i j hj (by simpa using hi)]
    simp

theorem Even.takeFlat {m : Nat} : ∀ {rows : List (List Value)}, Even m rows → ∀ k, rows.flatten.take (k * m) = (rows.take k).flatten
  | [], _, k => by simp
  | r :: rows, h, 0 => by simp
  | r :: rows, h, k + 1 => by
    have := h.cons
    simp only [List.flatten_cons, List.take_succ_cons]
    rw [List.take_append, this.1]
    have e : (k + 1) * m - m = k * m := by rw [Nat.add_mul]; omega
    rw [e, this.2.takeFlat k, List.take_of_length_le (by rw [this.1, Nat.add_mul]; omega)]

theorem Even.dropFlat {m : Nat} : ∀ {rows : List (List Value)}, Even m rows → ∀ k, rows.flatten.drop (k * m) = (rows.drop k).flatten
  | [], _, k => by simp
  | r :: rows, h, 0 => by simp
  | r :: rows, h, k + 1 => by
    have := h.cons
    simp only [List.flatten_cons, List.drop_succ_cons]
    rw [List.drop_append, this.1]
    have e : (k + 1) * m - m = k * m := by rw [Nat.add_mul]; omega
    rw [e, this.2.dropFlat k, List.drop_of_length_le (by rw [this.1, Nat.add_mul]; omega)]
    simp

/-- One-cell values. -/
def Ones (rows : List (List Value)) : Prop := ∀ r, r ∈ rows → ∀ v, v ∈ r → v.oneCell' = true
theorem Ones.append {a b : List (List Value)} (ha : Ones a) (hb : Ones b) : Ones (a ++ b) := by
  intro r h; rcases List.mem_append.1 h with h | h
  · exact ha r h
  · exact hb r h
theorem Ones.drop {a : List (List Value)} (ha : Ones a) (k : Nat) : Ones (a.drop k) := fun r h => ha r (List.mem_of_mem_drop h)
theorem Ones.set {a : List (List Value)} (ha : Ones a) (k : Nat) {v : List Value} (hv : ∀ x, x ∈ v → x.oneCell' = true) : Ones (a.set k v) := by
  intro r h; rcases List.mem_or_eq_of_mem_set h with h | h
  · exact ha r h
  · subst h; exact hv
theorem Ones.range {f : Nat → List Value} (n : Nat) (hf : ∀ i, i < n → ∀ v, v ∈ f i → v.oneCell' = true) : Ones ((List.range n).map f) := by
  intro r h
  obtain ⟨i, hi, rfl⟩ := List.mem_map.1 h
  exact hf i (List.mem_range.1 hi)

/-- Block g holds these rows and nothing else; nothing of it is frozen. -/
structure Own (w : World) (g e m : Nat) (rows : List (List Value)) : Prop where
  even : Even m rows
  block : w.heap[g]? = some (.cells rows.flatten.toArray e (0, 0))

theorem Own.lt {w : World} {g e m : Nat} {rows : List (List Value)} (h : Own w g e m rows) : g < w.heap.size := (Array.getElem?_eq_some_iff.1 h.block).1

theorem Own.cell {w : World} {g e m : Nat} {rows : List (List Value)} (h : Own w g e m rows) (i j : Nat) (hi : i < rows.length) (hj : j < m) :
    w.cell? ⟨g, i * m + j, none⟩ = (rows.getD i [])[j]? := by
  rw [← h.even.at i j hj hi]
  simp [World.cell?, h.block]

theorem Own.lies {w : World} {g e m : Nat} {rows : List (List Value)} (h : Own w g e m rows) (n : Nat) (f : Nat → List Value) (hn : n ≤ rows.length) (hf : ∀ i, i < n → rows.getD i [] = f i) :
    Lies w (some ⟨g, 0, none⟩) n m f := by
  refine Or.inr ⟨g, 0, rfl, h.lt, fun i hi j v hj hv => ?_⟩
  rw [show 0 + i * m + j = i * m + j by omega, h.cell i j (by omega) hj, hf i hi]
  exact hv

theorem Own.below {w w' : World} {B g e m : Nat} {rows : List (List Value)} (h : Own w g e m rows) (hb : Below B w w') (hg : g < B) : Own w' g e m rows :=
  ⟨h.even, by rw [hb.block g hg]; exact h.block⟩

/-- Block g alone has turned. -/
structure Upd (g : Nat) (w w' : World) : Prop where
  os : w'.os = w.os
  tape : w'.tape = w.tape
  output : w'.output = w.output
  size : w'.heap.size = w.heap.size
  block : ∀ k, k ≠ g → w'.heap[k]? = w.heap[k]?

theorem Upd.below {g B : Nat} {w0 w w' : World} (h : Upd g w w') (hb : Below B w0 w) (hg : B ≤ g) : Below B w0 w' :=
  hb.trans ⟨h.os, h.tape, h.output, by rw [h.size]; exact Nat.le_refl _, fun k hk => h.block k (by omega)⟩

theorem Own.upd {w w' : World} {g g' e m : Nat} {rows : List (List Value)} (h : Own w g e m rows) (hb : Upd g' w w') (hg : g ≠ g') : Own w' g e m rows :=
  ⟨h.even, by rw [hb.block g hg]; exact h.block⟩

theorem Upd.setRow (w : World) (g : Nat) (c : Array Value) : Upd g w (w.setRow g c) :=
  ⟨rfl, rfl, rfl, by simp [World.setRow], fun k hk => setRow_other w g k c hk⟩

theorem Upd.refl (g : Nat) (w : World) : Upd g w w := ⟨rfl, rfl, rfl, rfl, fun _ _ => rfl⟩
theorem Upd.trans {g : Nat} {a b c : World} (h : Upd g a b) (k : Upd g b c) : Upd g a c :=
  ⟨k.os.trans h.os, k.tape.trans h.tape, k.output.trans h.output, k.size.trans h.size, fun i hi => (k.block i hi).trans (h.block i hi)⟩
theorem Upd.drew {g : Nat} {a b : World} (h : Upd g a b) : Upd g a b.drew := h.trans ⟨rfl, rfl, rfl, rfl, fun _ _ => rfl⟩
theorem Upd.drewN {g : Nat} {a b : World} (h : Upd g a b) (n : Nat) : Upd g a (b.drewN n) := h.trans ⟨rfl, rfl, rfl, rfl, fun _ _ => rfl⟩
theorem Upd.setCell {g : Nat} {a b : World} (h : Upd g a b) (p : Addr) (hp : p.block = g) (v : Value) : Upd g a (b.setCell p v) :=
  h.trans ⟨rfl, rfl, rfl, by simp [World.setCell], fun k hk => Below.heap_setCell _ _ _ _ (by omega)⟩

theorem addr_add (b off j : Nat) : (⟨b, off, none⟩ : Addr).add j = ⟨b, off + j, none⟩ := by
  unfold Addr.add
  by_cases h : j = 0 <;> simp [h]

section
variable {P : Program} {w : World} {ops : Array Oper} {rest : List Oper} {o : Oper} {a : Act} {Q : Exit → Act → World → Prop}

theorem madeCells_flat (zs : List Value) (m n : Nat) (hm : zs.length = m) (h0 : 0 < m) : madeCells zs.toArray (n * m) = (List.replicate n zs).flatten.toArray := by
  have hE := Even.replicate (m := m) n hm
  apply Array.ext_getElem?
  intro k
  by_cases hk : k < n * m
  · have h1 : (madeCells zs.toArray (n * m))[k]? = some (zs.toArray[k % zs.toArray.size]!) := by
      simp [madeCells, hk]
    rw [h1]
    have hq : k / m < n := Nat.div_lt_of_lt_mul (by rw [Nat.mul_comm]; exact hk)
    have hr : k % m < m := Nat.mod_lt _ h0
    have hk2 : k = k / m * m + k % m := by rw [Nat.mul_comm]; exact (Nat.div_add_mod k m).symm
    have h2 : (List.replicate n zs).flatten[k]? = zs[k % m]? := by
      have := hE.at (k / m) (k % m) hr (by simpa using hq)
      rw [← hk2] at this
      rw [this]
      simp [List.getD, hq]
    simp only [List.getElem?_toArray, h2, List.size_toArray, hm]
    rw [List.getElem?_eq_getElem (by omega)]
    simp [hm, hr]
  · have h1 : (madeCells zs.toArray (n * m)).size ≤ k := by rw [size_madeCells]; omega
    rw [Array.getElem?_eq_none h1]
    rw [List.getElem?_toArray, List.getElem?_eq_none]
    rw [hE.length]; simp; omega

/-- 'make([]T, n)', T of m cells. -/
theorem wpList_make_rows (hg : o.guard = none) (l c : Operand) (t : TypeId) (hop : o.op = Op.makeSlice t l c) (e : TypeId) (zs : List Value) (m bytes : Nat)
    (ht : P.underlying t = some (.slice e)) (hinfo : (P.info? e).map (fun i => (i.zero, i.size, i.bytes)) = some (some (.agg zs.toArray), m, bytes)) (hm : zs.length = m) (h0 : 0 < m)
    (n : Nat) (N : Int) (hN : N = (n : Int)) (hl : a.eval l = .int .i64 N) (hc : a.eval c = .int .i64 N) (hbytes : bytes * n ≤ 281474976710656) (h63 : n ≤ 9223372036854775807)
    (h : ∀ g ad w', Hid (ad = some ⟨g, 0, none⟩) → w.heap.size ≤ g → g < w'.heap.size → Own w' g e m (List.replicate n zs) → Below w.heap.size w w' → wpList P ops Q rest (a.put o.dst (.slice ad n n)) w') :
    wpList P ops Q (o :: rest) a w := by
  subst hN
  obtain ⟨i, hi, hzz⟩ := Option.map_eq_some_iff.1 hinfo
  simp only [Prod.mk.injEq] at hzz
  obtain ⟨hz, hs, hb⟩ := hzz
  refine wpList_plain hg fun K hK => ?_
  have hb' : (i.bytes : Int) * (n : Int) ≤ 281474976710656 := by
    have h : ((i.bytes * n : Nat) : Int) ≤ 281474976710656 := by rw [hb]; omega
    rwa [Int.natCast_mul] at h
  have hr := run_make (P := P) w t e i (.agg zs.toArray) ht hi hz .i64 .i64 (n : Int) (n : Int) (by omega) (Int.le_refl _) hb' (by omega)
  simp only [Int.toNat_natCast, hs, Value.cells, madeCells_flat zs m n hm h0] at hr
  unfold Oper.wp
  simp [execOp, hop, hl, hc, hr, Result.andThen]
  refine hK _ _ (h w.heap.size _ _ rfl (Nat.le_refl _) (by simp) ⟨Even.replicate n hm, ?_⟩ ((Below.refl _ _).alloc (Nat.le_refl _) _))
  show (w.heap.push _)[w.heap.size]? = _
  rw [Array.getElem?_push_size]

theorem run_copy_rows (w : World) (dT sT ty e : TypeId) (g N cap n scap m : Nat) (src : Option Addr) (f : Nat → List Value) (rows : List (List Value))
    (hu : P.underlying dT = some (.slice e)) (hs : (P.info? e).map (·.size) = some m) (hown : Own w g e m rows) (hN : rows.length = N) (hn : n ≤ N) (hL : Lies w src n m f)
    (hf : ∀ i, i < n → (f i).length = m) (h1 : ∀ i, i < n → ∀ v, v ∈ f i → v.oneCell' = true) :
    ∃ w', (Builtin.copy_ #[dT, sT] ty #[.slice (some ⟨g, 0, none⟩) N cap, .slice src n scap]).run P w = .ok (goInt n) w' ∧
      Own w' g e m ((List.range n).map f ++ rows.drop n) ∧ Upd g w w' := by
  have hE : Even m ((List.range n).map f) := Even.range n hf
  have hEl : ((List.range n).map f).flatten.length = n * m := by rw [hE.length]; simp
  have hmin : Nat.min n N = n := Nat.min_eq_left hn
  cases hq : P.info? e with
  | none => simp [hq] at hs
  | some i =>
    have hi : i.size = m := by simpa [hq] using hs
    have hst := run_storeCells_at P g 0 e ((List.range n).map f).flatten 0 rows.flatten.toArray w hown.block (by
        simp only [List.size_toArray, hown.even.length, hEl, hN, Nat.zero_add]; exact Nat.mul_le_mul_right _ hn) (by
        intro v hv
        obtain ⟨r, hr, hv⟩ := List.mem_flatten.1 hv
        exact Ones.range n h1 r hr v hv)
    refine ⟨w.setRow g (((List.range n).map f ++ rows.drop n).flatten).toArray, ?_, ⟨hE.append (hown.even.drop n), setRow_heap w g _ _ e _ hown.block⟩, Upd.setRow _ _ _⟩
    have e1 : (0 + 0 + ((List.range n).map f).flatten.length) = n * m := by rw [hEl]; omega
    rw [e1, show (0 + 0 : Nat) = 0 from rfl] at hst
    simp only [List.take_zero, List.nil_append, hown.even.dropFlat n] at hst
    rw [← List.flatten_append] at hst
    have hload : (Builtin.firstCells m n (.slice src n scap)).run P w = .ok ((List.range n).map f).flatten.toArray w := by
      rcases hL with h0 | ⟨b, off, rfl, _, hc⟩
      · subst h0
        cases src with
        | none => simp [Builtin.firstCells]
        | some ad => simp [Builtin.firstCells, loadCells, loadCellsFrom]
      · simp only [Builtin.firstCells]
        rw [← hEl]
        refine run_loadCells_list w _ _ fun j v hj => ?_
        have hjl : j < n * m := by
          rcases Nat.lt_or_ge j (n * m) with h | h
          · exact h
          · rw [List.getElem?_eq_none (by omega)] at hj; cases hj
        have h0 : 0 < m := by rcases Nat.eq_zero_or_pos m with h | h; (subst h; simp at hjl); exact h
        have hk2 : j = j / m * m + j % m := by rw [Nat.mul_comm]; exact (Nat.div_add_mod j m).symm
        have hqn : j / m < n := Nat.div_lt_of_lt_mul (by rw [Nat.mul_comm]; exact hjl)
        have hr : j % m < m := Nat.mod_lt _ h0
        have hat := hE.at (j / m) (j % m) hr (by simpa using hqn)
        rw [← hk2, hj] at hat
        have hget : ((List.range n).map f).getD (j / m) [] = f (j / m) := by simp [List.getD, hqn]
        rw [hget] at hat
        have hcell := hc (j / m) hqn (j % m) v hr hat.symm
        rw [addr_add]
        rw [show off + j / m * m + j % m = off + j by omega] at hcell
        exact hcell
    simp [Builtin.copy_, run_underlying hu, Builtin.lenOf, sizeOf, typeInfo, hq, hi, hmin, hload]
    simpa using congrArg (fun r => r.andThen fun _ w' => Result.ok (goInt n) w') hst

/-- 'copy(dst, src)', dst a row of the call's own that begins at its block's head. -/
theorem wpList_copy_rows (hgd : o.guard = none) (d s : Operand) (dT sT : TypeId) (ho : o.op = .call { callee := .builtin .copy, args := #[d, s], argTypes := #[dT, sT] }) (e m : Nat)
    (hu : P.underlying dT = some (.slice e)) (hs : (P.info? e).map (·.size) = some m) (g : Nat) (ad : Option Addr) (hg : Hid (ad = some ⟨g, 0, none⟩)) (N cap n scap : Nat) (src : Option Addr)
    (hd : a.eval d = .slice ad N cap) (hsrc : a.eval s = .slice src n scap) (f : Nat → List Value) (rows : List (List Value)) (hown : Own w g e m rows) (hN : rows.length = N) (hn : n ≤ N) (hL : Lies w src n m f)
    (hf : ∀ i, i < n → (f i).length = m) (h1 : ∀ i, i < n → ∀ v, v ∈ f i → v.oneCell' = true)
    (h : ∀ w', Own w' g e m ((List.range n).map f ++ rows.drop n) → Upd g w w' → wpList P ops Q rest (a.put o.dst (goInt n)) w') : wpList P ops Q (o :: rest) a w := by
  have hg' := hg.out
  subst hg'
  obtain ⟨w', hrun, h2, h3⟩ := run_copy_rows (P := P) w dT sT o.type e g N cap n scap m src f rows hu hs hown hN hn hL hf h1
  refine wpList_plain hgd fun K hK => ?_
  unfold Oper.wp
  simp [execOp, ho, resolve, invoke, builtin, hd, hsrc, hrun, Result.andThen]
  exact hK _ _ (h w' h2 h3)

/-- 's[i] = T{..}' into a row of the call's own. -/
theorem wpList_store_rows (hgd : o.guard = none) (p v : Operand) (t : TypeId) (ho : o.op = .store t p v) (e m : Nat) (hs : (P.info? t).map (·.size) = some m) (g i : Nat) (ad : Addr) (had : ad = ⟨g, i * m, none⟩)
    (hp : a.eval p = .pointer (some ad)) (vs : List Value) (hv : a.eval v = .agg vs.toArray) (hm : vs.length = m) (h1 : ∀ x, x ∈ vs → x.oneCell' = true) (rows : List (List Value)) (hown : Own w g e m rows) (hi : i < rows.length)
    (h : ∀ w', Own w' g e m (rows.set i vs) → Upd g w w' → wpList P ops Q rest (a.put o.dst undef) w') : wpList P ops Q (o :: rest) a w := by
  subst had
  refine wpList_plain hgd fun K hK => ?_
  have hfit : i * m + 0 + vs.length ≤ rows.flatten.toArray.size := by
    simp only [List.size_toArray, hown.even.length, hm, Nat.add_zero]
    have : (i + 1) * m ≤ rows.length * m := Nat.mul_le_mul_right _ hi
    rw [Nat.add_mul] at this; omega
  have hst := run_storeCells_at P g (i * m) e vs 0 rows.flatten.toArray w hown.block hfit h1
  have e1 : i * m + 0 + vs.length = (i + 1) * m := by rw [hm, Nat.add_mul]; omega
  have hset : rows.set i vs = rows.take i ++ vs :: rows.drop (i + 1) := by
    rw [List.set_eq_take_append_cons_drop, if_pos hi]
  have e2 : rows.flatten.toArray.toList.take (i * m + 0) ++ vs ++ rows.flatten.toArray.toList.drop (i * m + 0 + vs.length) = (rows.set i vs).flatten := by
    rw [e1, Nat.add_zero, hset]
    simp only [hown.even.takeFlat i, hown.even.dropFlat (i + 1)]
    simp
  rw [e2] at hst
  cases hq : P.info? t with
  | none => simp [hq] at hs
  | some inf =>
    have hi' : inf.size = m := by simpa [hq] using hs
    unfold Oper.wp
    simp [execOp, ho, hp, hv, Instr.storeAt, Instr.sureAddr, storeVar, sizeOf, typeInfo, hq, hi', Value.cells, hm, hst, Result.andThen]
    exact hK _ _ (h _ ⟨hown.even.set i hm, setRow_heap w g _ _ e _ hown.block⟩ (Upd.setRow _ _ _))
end

theorem Own.idx {ad : Option Addr} {g : Nat} (had : Hid (ad = some ⟨g, 0, none⟩)) {P : Program} {t : TypeId} {m : Nat} (n cap : Nat)
    (ht : P.underlying t = some (.slice (P.elem t))) (hs : (P.info? (P.elem t)).map (·.size) = some m) {k : Nat} (hk : k < n) (N : Int) (hN : N = (k : Int)) (w' : World) :
    (Instr.indexAt t (.slice ad n cap) (.int .i64 N)).run P w' = .ok (.pointer (some ⟨g, k * m, none⟩)) w' := by
  subst hN
  rw [had.out]
  cases hq : P.info? (P.elem t) with
  | none => simp [hq] at hs
  | some i =>
    have hi : i.size = m := by simpa [hq] using hs
    rw [run_indexAt_slice w' t _ n cap .i64 (k : Int) ht, if_pos (by omega)]
    have hz : (sizeOf (P.elem t)).run P w' = .ok m w' := by simp [sizeOf, typeInfo, hq, hi]
    rw [hz]
    simp only [Result.andThen_ok, Int.toNat_natCast, addr_add, Nat.zero_add]
end Go.Proofs.Ytmafnghokmcijaa
