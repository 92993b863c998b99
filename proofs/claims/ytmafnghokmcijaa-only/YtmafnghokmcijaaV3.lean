/- Lists within regions that draw their order; a row of numbers of the call's own. -/
import Derived.Test.YtmafnghokmcijaaV2
namespace Go.Proofs.Ytmafnghokmcijaa
open Go.RowKit

section
variable {P : Program} {w : World} {ops : Array Oper} {rest : List Oper} {o : Oper} {a : Act} {Q : Exit → Act → World → Prop}

/-- 'l = append(l, x)' at a step of a region that draws its order. -/
theorem step_push {K : Act → World → Prop} {E : Prop} (hgd : o.guard = none) (s x : Operand) (t : TypeId) (ho : o.op = .call { callee := .builtin .append, args := #[s, x], argTypes := #[t, t] })
    (B e m bytes : Nat) (z : Value) (ht : P.underlying t = some (.slice e)) (hinfo : (P.info? e).map (fun i => (i.zero, i.size, i.bytes)) = some (some z, m, bytes)) (hzs : z.cells.size = m) (hm : 0 < m)
    (ad : Option Addr) (n cap : Nat) (xs : List Value) (hs : a.eval s = .slice ad n cap) (hown : Vec w B e m ad n cap xs)
    (ad1 : Addr) (c : Nat) (row : List Value) (hx : a.eval x = .slice (some ad1) 1 c) (hl : row.length = m) (hnews : ∀ j u, row[j]? = some u → w.cell? (ad1.add j) = some u) (h1 : ∀ u, u ∈ row → u.oneCell' = true)
    (hbytes : (n + 1) * bytes ≤ 140737488355328) (hn : n < 9223372036854775807) (hB : B ≤ w.heap.size)
    (h : ∀ ad' cap' w', Vec w' B e m ad' (n + 1) cap' (xs ++ row) → Below B w w' → w.heap.size ≤ w'.heap.size → K (a.put o.dst (.slice ad' (n + 1) cap')) w') :
    if Region.wanted o (yielded ops a.tmps) = true then Oper.wp P o a w K Q else E := by
  obtain ⟨i, hi, hzz⟩ := Option.map_eq_some_iff.1 hinfo
  simp only [Prod.mk.injEq] at hzz
  obtain ⟨hz, hsz, hby⟩ := hzz
  refine step_append_lies w hgd s x t ho B e i z m bytes ht hi hz hsz hby hzs hm (.slice ad n cap) n xs hs hown ad1 1 c row hx (by rw [hl, Nat.one_mul]) hnews h1 (by omega) (by unfold maxLen; omega) hbytes hB w.heap.size rfl ?_
  intro g cap' w' ho' hgr _ _
  refine h (some ⟨g, 0, none⟩) cap' w' ho' ?_ hgr.size
  exact (Below.refl _ _).grown hgr hB (fun k hk => (World.ownsRow.lt hown k hk).1)

/-- 'make([]T, n)', T of one cell. -/
theorem wpList_make_ones (hg : o.guard = none) (l c : Operand) (t : TypeId) (hop : o.op = Op.makeSlice t l c) (e : TypeId) (z : Value) (bytes : Nat)
    (ht : P.underlying t = some (.slice e)) (hinfo : (P.info? e).map (fun i => (i.zero, i.size, i.bytes)) = some (some z, 1, bytes)) (hz1 : z.cells = #[z])
    (n : Nat) (N : Int) (hN : N = (n : Int)) (hl : a.eval l = .int .i64 N) (hc : a.eval c = .int .i64 N) (hbytes : bytes * n ≤ 281474976710656) (h63 : n ≤ 9223372036854775807)
    (h : ∀ g ad w', Hid (ad = some ⟨g, 0, none⟩) → w.heap.size ≤ g → g < w'.heap.size → Own w' g e 1 (List.replicate n [z]) → Below w.heap.size w w' → wpList P ops Q rest (a.put o.dst (.slice ad n n)) w') :
    wpList P ops Q (o :: rest) a w := by
  subst hN
  obtain ⟨i, hi, hzz⟩ := Option.map_eq_some_iff.1 hinfo
  simp only [Prod.mk.injEq] at hzz
  obtain ⟨hz, hs, hb⟩ := hzz
  refine wpList_plain hg fun K hK => ?_
  have hb' : (i.bytes : Int) * (n : Int) ≤ 281474976710656 := by
    have h : ((i.bytes * n : Nat) : Int) ≤ 281474976710656 := by rw [hb]; omega
    rwa [Int.natCast_mul] at h
  have hr := run_make (P := P) w t e i z ht hi hz .i64 .i64 (n : Int) (n : Int) (by omega) (Int.le_refl _) hb' (by omega)
  rw [hz1, show (#[z] : Array Value) = [z].toArray from rfl] at hr
  simp only [Int.toNat_natCast, hs, madeCells_flat [z] 1 n rfl (by omega)] at hr
  unfold Oper.wp
  simp [execOp, hop, hl, hc, hr, Result.andThen]
  refine hK _ _ (h w.heap.size _ _ rfl (Nat.le_refl _) (by simp) ⟨Even.replicate n rfl, ?_⟩ ((Below.refl _ _).alloc (Nat.le_refl _) _))
  show (w.heap.push _)[w.heap.size]? = _
  rw [Array.getElem?_push_size]; simp
end

/-- A row of numbers. -/
abbrev irows (l : List Int) : List (List Value) := l.map fun x => [Value.int .i64 x]
theorem irows_at {w : World} {g : Nat} {e : TypeId} {l : List Int} (h : Own w g e 1 (irows l)) (k : Nat) (hk : k < l.length) : w.cell? ⟨g, k, none⟩ = some (.int .i64 (l.getD k 0)) ∧ w.frozen? ⟨g, k, none⟩ = false := by
  constructor
  · have := h.cell k 0 (by simpa using hk) (by omega)
    rw [Nat.add_zero, Nat.mul_one] at this
    rw [this]
    simp [List.getD, hk]
  · simp [World.frozen?, h.block]
theorem irows_set {w : World} {g : Nat} {e : TypeId} {l : List Int} (h : Own w g e 1 (irows l)) (k : Nat) (x : Int) : Own (w.setCell ⟨g, k, none⟩ (.int .i64 x)) g e 1 (irows (l.set k x)) := by
  refine ⟨by intro r hr; obtain ⟨y, _, rfl⟩ := List.mem_map.1 hr; rfl, ?_⟩
  rw [heap_setCell_same w g k _ e _ h.block]
  congr 2
  have e1 : ∀ l : List Int, (irows l).flatten = l.map (Value.int .i64) := by
    intro l; induction l with
    | nil => rfl
    | cons a l ih => simp [irows] at ih ⊢; exact ih
  rw [e1, e1, List.map_set]
  simp
theorem Vec.setBelow {w : World} {B e m : Nat} {ad : Option Addr} {n cap : Nat} {xs : List Value} (h : Vec w B e m ad n cap xs) (p : Addr) (hp : p.block < B) (v : Value) : Vec (w.setCell p v) B e m ad n cap xs := ownsRow_setCell_below h hp v
theorem Own.setOther {w : World} {g e m : Nat} {rows : List (List Value)} (h : Own w g e m rows) (p : Addr) (hp : p.block ≠ g) (v : Value) : Own (w.setCell p v) g e m rows :=
  ⟨h.even, by rw [Below.heap_setCell _ _ _ _ (fun e => hp e.symm)]; exact h.block⟩
end Go.Proofs.Ytmafnghokmcijaa
