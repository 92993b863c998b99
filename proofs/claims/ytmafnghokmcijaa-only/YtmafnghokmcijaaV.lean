/- Lists that a call grows by append: what they hold, one element more, an element read or written. -/
import Derived.Test.YtmafnghokmcijaaK
import Derived.Deep.AppendLies
namespace Go.Proofs.Ytmafnghokmcijaa
open Go.RowKit

/-- The slice (ad, n, cap) is nil or lies in a block of the call's own, from block number B on; xs: its cells, m an element. -/
def Vec (w : World) (B e m : Nat) (ad : Option Addr) (n cap : Nat) (xs : List Value) : Prop := w.ownsRow B e m (.slice ad n cap) n xs

theorem Vec.nil (w : World) (B e m : Nat) : Vec w B e m none 0 0 [] := World.ownsRow_nil w B e m
theorem Vec.length {w : World} {B e m : Nat} {ad : Option Addr} {n cap : Nat} {xs : List Value} (h : Vec w B e m ad n cap xs) : xs.length = n * m := h.1
theorem Vec.keep {w w' : World} {B e m : Nat} {ad : Option Addr} {n cap : Nat} {xs : List Value} (h : Vec w B e m ad n cap xs) (hb : Below w.heap.size w w') : Vec w' B e m ad n cap xs := by
  refine ⟨h.1, ?_⟩
  rcases h.2 with h2 | ⟨g, c, cur, hv, hB, hg, r⟩
  · exact Or.inl h2
  · exact Or.inr ⟨g, c, cur, hv, hB, by rw [hb.block g (Array.getElem?_eq_some_iff.1 hg).1]; exact hg, r⟩
theorem Vec.mono {w : World} {B B' e m : Nat} {ad : Option Addr} {n cap : Nat} {xs : List Value} (h : Vec w B e m ad n cap xs) (hB : B' ≤ B) : Vec w B' e m ad n cap xs := by
  refine ⟨h.1, ?_⟩
  rcases h.2 with h2 | ⟨g, c, cur, hv, hb, r⟩
  · exact Or.inl h2
  · exact Or.inr ⟨g, c, cur, hv, Nat.le_trans hB hb, r⟩

/-- A list literal. -/
theorem Vec.lit (w : World) (B e m n : Nat) (xs : List Value) (hB : B ≤ w.heap.size) (hn : n < 9223372036854775807) (hx : xs.length = n * m) : Vec (w.alloc (.cells xs.toArray e)) B e m (some ⟨w.heap.size, 0, none⟩) n n xs :=
  World.ownsRow_lit w xs.toArray n hB (by unfold maxLen; omega) (by simpa using hx)

/-- Its place, if it has an element. -/
theorem Vec.form {w : World} {B e m : Nat} {ad : Option Addr} {n cap : Nat} {xs : List Value} (h : Vec w B e m ad n cap xs) (hn : 0 < n) : ∃ g, ad = some ⟨g, 0, none⟩ ∧ B ≤ g ∧ g < w.heap.size := by
  obtain ⟨g, c, hv, hb, hl⟩ := World.ownsRow.form h hn
  simp at hv
  exact ⟨g, hv.1, hb, hl⟩

/-- Element i: where it lies, what it holds; and the list behind a store into it (elements of one cell). -/
theorem Vec.at {w : World} {B e m : Nat} {ad : Option Addr} {n cap : Nat} {xs : List Value} (h : Vec w B e m ad n cap xs) {P : Program} {t : TypeId}
    (ht : P.underlying t = some (.slice (P.elem t))) (hs : (P.info? (P.elem t)).map (·.size) = some m) {i : Nat} (hi : i < n) (N : Int) (hN : N = (i : Int)) :
    ∃ b o, B ≤ b ∧ b < w.heap.size ∧ (∀ w', (Instr.indexAt t (.slice ad n cap) (.int .i64 N)).run P w' = .ok (.pointer (some ⟨b, o, none⟩)) w') ∧
      (∀ j, j < m → w.cell? ⟨b, o + j, none⟩ = xs[i * m + j]?) ∧ (∀ j, w.frozen? ⟨b, o + j, none⟩ = false) ∧
      (∀ j u, Vec (w.setCell ⟨b, o + j, none⟩ u) B e m ad n cap (xs.set (i * m + j) u)) := by
  obtain ⟨g, rfl, hB, hl⟩ := h.form (by omega)
  refine ⟨g, i * m, hB, hl, fun w' => Own.idx (had := rfl) n cap ht hs hi N hN w', fun j hj => ?_, fun j => ?_, fun j u => ?_⟩
  · refine World.ownsRow.cellAt h (i * m + j) ?_
    have : (i + 1) * m ≤ n * m := Nat.mul_le_mul_right _ hi
    rw [Nat.add_mul] at this; omega
  · exact World.ownsRow.frozenAt h _
  · exact (World.ownsRow.stored h (i * m + j) u).1

/-- Where a list lies its elements can be read. -/
theorem Vec.lies {w : World} {B e m : Nat} {ad : Option Addr} {n cap : Nat} {rows : List (List Value)} (h : Vec w B e m ad n cap rows.flatten) (hE : Even m rows) (hn : rows.length = n) (f : Nat → List Value) (hf : ∀ i, i < n → rows.getD i [] = f i) : Lies w ad n m f := by
  by_cases h0 : n = 0
  · exact Or.inl h0
  · obtain ⟨g, rfl, hB, hl⟩ := h.form (by omega)
    refine Or.inr ⟨g, 0, rfl, hl, fun i hi j v hj hv => ?_⟩
    rw [show 0 + i * m + j = i * m + j by omega]
    have hc : w.cell? ⟨g, i * m + j, none⟩ = rows.flatten[i * m + j]? := by
      refine World.ownsRow.cellAt h (i * m + j) ?_
      have : (i + 1) * m ≤ n * m := Nat.mul_le_mul_right _ hi
      rw [Nat.add_mul] at this; omega
    rw [hc, hE.at i j hj (by omega), hf i hi, hv]

section
variable {P : Program} {w : World} {ops : Array Oper} {rest : List Oper} {o : Oper} {a : Act} {Q : Exit → Act → World → Prop}

/-- 'l = append(l, x)': one element more. -/
theorem wpList_push (hgd : o.guard = none) (s x : Operand) (t : TypeId) (ho : o.op = .call { callee := .builtin .append, args := #[s, x], argTypes := #[t, t] })
    (B e m bytes : Nat) (z : Value) (ht : P.underlying t = some (.slice e)) (hinfo : (P.info? e).map (fun i => (i.zero, i.size, i.bytes)) = some (some z, m, bytes)) (hzs : z.cells.size = m) (hm : 0 < m)
    (ad : Option Addr) (n cap : Nat) (xs : List Value) (hs : a.eval s = .slice ad n cap) (hown : Vec w B e m ad n cap xs)
    (ad1 : Addr) (c : Nat) (row : List Value) (hx : a.eval x = .slice (some ad1) 1 c) (hl : row.length = m) (hnews : ∀ j u, row[j]? = some u → w.cell? (ad1.add j) = some u) (h1 : ∀ u, u ∈ row → u.oneCell' = true)
    (hbytes : (n + 1) * bytes ≤ 140737488355328) (hn : n < 9223372036854775807) (hB : B ≤ w.heap.size)
    (h : ∀ ad' cap' w', Vec w' B e m ad' (n + 1) cap' (xs ++ row) → Below B w w' → w.heap.size ≤ w'.heap.size → wpList P ops Q rest (a.put o.dst (.slice ad' (n + 1) cap')) w') : wpList P ops Q (o :: rest) a w := by
  obtain ⟨i, hi, hzz⟩ := Option.map_eq_some_iff.1 hinfo
  simp only [Prod.mk.injEq] at hzz
  obtain ⟨hz, hsz, hby⟩ := hzz
  refine wpList_append_lies w hgd s x t ho B e i z m bytes ht hi hz hsz hby hzs hm (.slice ad n cap) n xs hs hown ad1 1 c row hx (by rw [hl, Nat.one_mul]) hnews h1 (by omega) (by unfold maxLen; omega) hbytes hB w.heap.size rfl ?_
  intro g cap' w' ho' hgr _ _
  refine h (some ⟨g, 0, none⟩) cap' w' ho' ?_ hgr.size
  exact (Below.refl _ _).grown hgr hB (fun k hk => (World.ownsRow.lt hown k hk).1)

/-- 'string(b)' of such a list. -/
theorem wpList_toString_vec (hgd : o.guard = none) (src dst e : TypeId) (x : Operand) (ho : o.op = .convert src dst x) (hs : P.underlying src = some (.slice e)) (he : P.underlying e = some (.int .u8)) (hd : P.underlying dst = some .string)
    (B n cap : Nat) (ad : Option Addr) (hx : a.eval x = .slice ad n cap) (ns : List Int) (hown : Vec w B e 1 ad n cap (ns.map (Value.int .u8))) (hn : 0 < n)
    (h : wpList P ops Q rest (a.put o.dst (.string (str (ns.map byt)))) w) : wpList P ops Q (o :: rest) a w := by
  obtain ⟨g, rfl, _, _⟩ := hown.form hn
  refine wpList_toString hgd src dst e x ho hs he hd ⟨g, 0, none⟩ n cap hx ns (by have := hown.length; simpa using this) ?_ h
  exact World.ownsRow.cells hown rfl
end

/-- The cells of a block that has just been laid. -/
theorem new_cells (w : World) (cs : List Value) (t : TypeId) : ∀ j u, cs[j]? = some u → (w.alloc (.cells cs.toArray t)).cell? ((⟨w.heap.size, 0, none⟩ : Addr).add j) = some u := by
  intro j u h
  rw [addr_add, World.cell?_alloc_new]
  simpa using h
end Go.Proofs.Ytmafnghokmcijaa
