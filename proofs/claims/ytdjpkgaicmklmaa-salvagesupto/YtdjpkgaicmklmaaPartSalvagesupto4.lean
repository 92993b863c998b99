/- Texts of the proof, one behind the other; what each holds is said at its head. -/
import Derived.Test.YtdjpkgaicmklmaaPartSalvagesupto1
import Derived.Test.YtdjpkgaicmklmaaPartSalvagesupto2
import Derived.Test.YtdjpkgaicmklmaaPartSalvagesupto0
import Derived.Test.YtdjpkgaicmklmaaPartSalvagesupto3
import Derived.BigQuiet
import Derived.Deep.QuietTactic
import Derived.Deep.RegionLaw
import Derived.ProofKit
import Derived.SizedLaws
import Derived.Lib.SmallJoins
import Derived.Deep.Slices
/- Lists that came out and that their owner writes over with a mark: append of marks, stores, and what stays. -/
namespace Go.Proofs.Ytdjpkgaicmklmaa
open Go.RowKit

/-- n rows of one mark. -/
def rep (n : Nat) (mk : List Value) : List Value := (List.replicate n mk).flatten
theorem rep_length (n : Nat) (mk : List Value) : (rep n mk).length = n * mk.length := by simp [rep]
theorem rep_add (n c : Nat) (mk : List Value) : rep (n + c) mk = rep n mk ++ rep c mk := by simp [rep, ← List.replicate_append_replicate]
theorem rep_one (mk : List Value) : rep 1 mk = mk := by simp [rep]
theorem rep_zero (mk : List Value) : rep 0 mk = [] := rfl
theorem rep_at (mk : List Value) : ∀ (n j : Nat), j < n * mk.length → (rep n mk)[j]? = mk[j % mk.length]?
  | 0, j, h => by simp at h
  | n + 1, j, h => by
    have e : rep (n + 1) mk = mk ++ rep n mk := by simp [rep, List.replicate_succ]
    rw [e]
    by_cases hj : j < mk.length
    · rw [List.getElem?_append_left hj, Nat.mod_eq_of_lt hj]
    · rw [List.getElem?_append_right (by omega), rep_at mk n (j - mk.length) (by rw [Nat.add_mul] at h; omega)]
      congr 1
      conv => rhs; rw [show j = (j - mk.length) + mk.length by omega]
      rw [Nat.add_mod_right]
theorem rep_eq {mk xs : List Value} {n : Nat} (hl : xs.length = n * mk.length) (h : ∀ j, j < n * mk.length → xs[j]? = mk[j % mk.length]?) : xs = rep n mk := by
  apply List.ext_getElem?
  intro j
  by_cases hj : j < n * mk.length
  · rw [h j hj, rep_at mk n j hj]
  · rw [List.getElem?_eq_none (by omega), List.getElem?_eq_none (by rw [rep_length]; omega)]

/-- Nothing but block g is changed of what there was; in it what was marked is so still. -/
structure Kp (g : Option Nat) (mk : List Value) (w w' : World) : Prop where
  os : w'.os = w.os
  tape : w'.tape = w.tape
  output : w'.output = w.output
  size : w.heap.size ≤ w'.heap.size
  block : ∀ k, k < w.heap.size → g ≠ some k → w'.heap[k]? = w.heap[k]?
  mark : ∀ k cur e, g = some k → w.heap[k]? = some (.cells cur e) → ∃ cur', w'.heap[k]? = some (.cells cur' e) ∧ cur'.size = cur.size ∧ ∀ j, cur[j]? = mk[j % mk.length]? → cur'[j]? = mk[j % mk.length]?

theorem Kp.of_below {g : Option Nat} {mk : List Value} {w w' : World} (h : Below w.heap.size w w') : Kp g mk w w' :=
  ⟨h.os, h.tape, h.output, h.size, fun k hk _ => h.block k hk, fun k cur e _ hc => ⟨cur, by rw [h.block k (Array.getElem?_eq_some_iff.1 hc).1]; exact hc, rfl, fun _ h => h⟩⟩
theorem Kp.below {g : Option Nat} {mk : List Value} {B : Nat} {w0 w w' : World} (h : Kp g mk w w') (hb : Below B w0 w) (hB : B ≤ w.heap.size) (hg : ∀ k, g = some k → B ≤ k) : Below B w0 w' :=
  ⟨h.os.trans hb.os, h.tape.trans hb.tape, h.output.trans hb.output, Nat.le_trans hb.size h.size, fun k hk => (h.block k (by omega) (fun e => by have := hg k e; omega)).trans (hb.block k hk)⟩
theorem Bx.kp {w w' : World} {k e : Nat} {cs mk : List Value} {g : Option Nat} (b : Bx w k e cs) (h : Kp g mk w w') (hg : g ≠ some k) : Bx w' k e cs := ⟨by rw [h.block k b.lt hg]; exact b.h⟩
theorem Vec.kpo {w w' : World} {B e m : Nat} {ad : Option Addr} {n cap : Nat} {xs mk : List Value} {g : Option Nat} (h : Vec w B e m ad n cap xs) (hk : Kp g mk w w') (hg : ∀ b, ad = some b → g ≠ some b.block) : Vec w' B e m ad n cap xs := by
  refine ⟨h.1, ?_⟩
  rcases h.2 with h2 | ⟨k, c, cur, hv, hB, hc, r⟩
  · exact Or.inl h2
  · refine Or.inr ⟨k, c, cur, hv, hB, ?_, r⟩
    simp at hv
    rw [hk.block k (Array.getElem?_eq_some_iff.1 hc).1 (hg _ hv.1)]; exact hc
theorem Vec.kp {w w' : World} {B e m : Nat} {ad : Option Addr} {n cap : Nat} {mk mk' : List Value} {g : Option Nat} (h : Vec w B e m ad n cap (rep n mk)) (hm : mk.length = m) (hk : Kp g mk' w w') (hg : ∀ b, ad = some b → g = some b.block → mk = mk') : Vec w' B e m ad n cap (rep n mk) := by
  refine ⟨h.1, ?_⟩
  rcases h.2 with h2 | ⟨k, c, cur, hv, hB, hc, h1, h3, h4, h5⟩
  · exact Or.inl h2
  · have hv' := hv
    simp at hv'
    by_cases hgk : g = some k
    · obtain rfl := hg _ hv'.1 hgk
      obtain ⟨cur', hc', hs, hmk⟩ := hk.mark k cur e hgk hc
      refine Or.inr ⟨k, c, cur', hv, hB, hc', h1, h3, by rw [hs, h4], ?_⟩
      subst hm
      refine rep_eq ?_ ?_
      · simp only [List.length_take, Array.length_toList, hs, h4]
        exact Nat.min_eq_left (Nat.mul_le_mul_right _ h1)
      · intro j hj
        rw [List.getElem?_take_of_lt hj, Array.getElem?_toList]
        apply hmk
        have := rep_at mk n j hj
        rw [← h5, List.getElem?_take_of_lt hj, Array.getElem?_toList] at this
        exact this
    · refine Or.inr ⟨k, c, cur, hv, hB, ?_, h1, h3, h4, h5⟩
      rw [hk.block k (Array.getElem?_eq_some_iff.1 hc).1 hgk]; exact hc

/-- Blocks of two types are two blocks. -/
theorem Vec.apart {w : World} {B B' e e' m m' : Nat} {ad ad' : Option Addr} {n n' cap cap' : Nat} {xs xs' : List Value} (h : Vec w B e m ad n cap xs) (h' : Vec w B' e' m' ad' n' cap' xs') (he : e ≠ e') : ∀ b, ad = some b → ad'.map (·.block) ≠ some b.block := by
  intro b hb hb'
  rcases h.2 with ⟨h2, _⟩ | ⟨k, c, cur, hv, hB, hc, _⟩
  · simp at h2; rw [h2.1] at hb; cases hb
  · rcases h'.2 with ⟨h2, _⟩ | ⟨k', c', cur', hv', hB', hc', _⟩
    · simp at h2; rw [h2.1] at hb'; cases hb'
    · simp at hv hv'
      rw [hv.1] at hb; cases hb
      rw [hv'.1] at hb'; simp at hb'
      subst hb'
      rw [hc] at hc'
      simp at hc'
      exact he hc'.2
theorem Bx.apart {w : World} {B e e' m k : Nat} {ad : Option Addr} {n cap : Nat} {xs cs : List Value} (b : Bx w k e' cs) (h : Vec w B e m ad n cap xs) (he : e ≠ e') : ad.map (·.block) ≠ some k := by
  intro hb
  rcases h.2 with ⟨h2, _⟩ | ⟨k', c, cur, hv, hB, hc, _⟩
  · simp at h2; rw [h2.1] at hb; cases hb
  · simp at hv
    rw [hv.1] at hb; simp at hb
    subst hb
    have := b.h
    rw [hc] at this
    simp at this
    exact he this.2
theorem Bx.frozen {w : World} {g e : Nat} {cs : List Value} (b : Bx w g e cs) (k : Nat) : w.frozen? ⟨g, k, none⟩ = false := by
  simp [World.frozen?, b.h]
theorem Bx.setCell {w : World} {g e : Nat} {cs : List Value} (b : Bx w g e cs) (k : Nat) (v : Value) : Bx (w.setCell ⟨g, k, none⟩ v) g e (cs.set k v) := by
  refine ⟨?_⟩
  rw [heap_setCell_same w g k cs.toArray e v b.h]
  simp

section
variable {P : Program} {w : World} {ops : Array Oper} {rest : List Oper} {o : Oper} {a : Act} {Q : Exit → Act → World → Prop}

theorem run_append_marks (B : Nat) (t ty e : TypeId) (i : TypeInfo) (z : Value) (size bytes : Nat) (ht : P.underlying t = some (.slice e)) (hi : P.info? e = some i) (hz : i.zero = some z)
    (hsize : i.size = size) (hby : i.bytes = bytes) (hzs : z.cells.size = size) (_hsz : 0 < size)
    (ad : Option Addr) (n cap : Nat) (xs : List Value) (hown : Vec w B e size ad n cap xs)
    (a : Addr) (m c : Nat) (mk : List Value) (hl : mk.length = size) (hnews : ∀ j u, (rep m mk)[j]? = some u → w.cell? (a.add j) = some u) (h1 : ∀ u ∈ mk, u.oneCell' = true) (hm : 0 < m)
    (h63 : n + m ≤ maxLen) (hbytes : (n + m) * bytes ≤ 140737488355328) (hbase : B ≤ w.heap.size) :
    ∃ ad' cap' w', (Builtin.append_ #[t, t] ty #[.slice ad n cap, .slice (some a) m c]).run P w = .ok (.slice ad' (n + m) cap') w' ∧ Vec w' B e size ad' (n + m) cap' (xs ++ rep m mk) ∧ Kp (ad.map (·.block)) mk w w' := by
  subst hsize
  subst hby
  have hsmall : n + m ≤ 9223372036854775807 := by simp only [maxLen] at h63; omega
  have hln : (rep m mk).length = m * i.size := by rw [rep_length, hl]
  have h1' : ∀ u ∈ rep m mk, u.oneCell' = true := by
    intro u hu
    simp only [rep, List.mem_flatten, List.mem_replicate] at hu
    obtain ⟨r, ⟨_, rfl⟩, hu⟩ := hu
    exact h1 u hu
  have hlen : (xs ++ rep m mk).length = (n + m) * i.size := by rw [List.length_append, hown.1, hln, Nat.add_mul]
  have grown : ∀ (old : Nat), old < n + m →
      Vec (w.drew.alloc (.cells (xs.toArray ++ (rep m mk).toArray ++ Builtin.zeroCells z.cells (grownCap w (n + m) old e - (n + m))) e)) B e i.size (some ⟨w.heap.size, 0, none⟩) (n + m) (grownCap w (n + m) old e) (xs ++ rep m mk) ∧
      Below w.heap.size w (w.drew.alloc (.cells (xs.toArray ++ (rep m mk).toArray ++ Builtin.zeroCells z.cells (grownCap w (n + m) old e - (n + m))) e)) := by
    intro old ho
    have hge := grownCap_ge w (n + m) old e
    have hcm : grownCap w (n + m) old e ≤ maxLen := grownCap_le_maxLen w (n + m) old e h63
    refine ⟨⟨hlen, .inr ⟨w.heap.size, _, _, rfl, hbase, heap_alloc_new w.drew _, hge, hcm, ?_, ?_⟩⟩, (Below.refl _ w).drew.alloc (by simp) _⟩
    · simp only [Array.size_append, List.size_toArray, size_zeroCells, hzs, hown.1, hln, ← Nat.add_mul]
      congr 1
      omega
    · simp only [Array.toList_append, List.append_assoc]
      rw [← List.append_assoc, ← hlen]
      exact List.take_left
  rcases hown.2 with ⟨hv, rfl⟩ | ⟨g, cap0, cur, hv, hbg, hg, hnc, hcm, hcs, htake⟩
  · simp at hv
    obtain ⟨rfl, rfl⟩ := hv
    have hx : xs = [] := List.eq_nil_of_length_eq_zero (by have := hown.1; omega)
    subst hx
    have hr := run_append_nil (P := P) w t ty e i z ht hi hz a m c (rep m mk) hln hnews (by omega) (by omega) (by have hb := hbytes; simp only [Nat.zero_add] at hb; omega)
    have hgr := grown 0 (by omega)
    simp only [Nat.zero_add, List.nil_append, Array.empty_append] at hgr ⊢
    exact ⟨_, _, _, hr, hgr.1, Kp.of_below hgr.2⟩
  · simp at hv
    obtain ⟨rfl, rfl⟩ := hv
    by_cases hroom : n + m ≤ cap
    · have hfit : n * i.size + (rep m mk).length ≤ cur.size := by rw [hln, hcs, ← Nat.add_mul]; exact Nat.mul_le_mul_right _ hroom
      have hr := run_append_room (P := P) w t ty e i ht hi g n cap cur hg a m c (rep m mk) hln hnews h1' hroom hfit
      refine ⟨_, _, _, hr, ⟨hlen, .inr ⟨g, cap, _, rfl, hbg, setRow_heap w g cur _ e _ hg, hroom, hcm, ?_, ?_⟩⟩, ⟨rfl, rfl, rfl, by simp, fun k _ hk => setRow_other w g k _ (fun e => hk (by simp [e])), ?_⟩⟩
      · simp only [List.size_toArray, List.length_append, List.length_take, List.length_drop, Array.length_toList]
        omega
      · rw [htake, ← hlen]
        exact List.take_left
      · intro k cur1 e1 hk hc1
        simp at hk
        subst hk
        rw [hg] at hc1
        simp at hc1
        obtain ⟨rfl, rfl⟩ := hc1
        refine ⟨_, setRow_heap w g cur _ e _ hg, ?_, ?_⟩
        · simp only [List.size_toArray, List.length_append, List.length_take, List.length_drop, Array.length_toList]
          omega
        · intro j hj
          simp only [List.getElem?_toArray]
          by_cases h1 : j < n * i.size
          · rw [List.append_assoc, List.getElem?_append_left (by simp; omega), List.getElem?_take_of_lt h1, Array.getElem?_toList]; exact hj
          · by_cases h2 : j < n * i.size + (rep m mk).length
            · rw [List.getElem?_append_left (by simp; omega), List.getElem?_append_right (by simp; omega)]
              have e1 : (cur.toList.take (n * i.size)).length = n * i.size := by simp; omega
              rw [e1, rep_at mk m (j - n * i.size) (by rw [hl]; omega), hl]
              congr 1
              conv => rhs; rw [show j = (j - n * i.size) + n * i.size by omega]
              rw [Nat.add_mul_mod_self_right]
            · rw [List.getElem?_append_right (by simp; omega)]
              have e1 : (cur.toList.take (n * i.size) ++ rep m mk).length = n * i.size + (rep m mk).length := by simp; omega
              rw [e1, List.getElem?_drop, Array.getElem?_toList, show n * i.size + (rep m mk).length + (j - (n * i.size + (rep m mk).length)) = j by omega]
              exact hj
    · have holds : ∀ j u, xs[j]? = some u → w.cell? ((⟨g, 0, none⟩ : Addr).add j) = some u := World.ownsRow.cells (g := g) hown rfl
      have hr := run_append_grow (P := P) w t ty e i z ht hi hz ⟨g, 0, none⟩ n cap xs hown.1 holds a m c (rep m mk) hln hnews (by omega) (by omega) (growslice_fits (by omega) hbytes)
      have hgr := grown cap (by omega)
      exact ⟨_, _, _, hr, hgr.1, Kp.of_below hgr.2⟩

/-- 'a := append(l, m, ..)'. -/
theorem wpList_pushk (hgd : o.guard = none) (s x : Operand) (t : TypeId) (ho : o.op = .call { callee := .builtin .append, args := #[s, x], argTypes := #[t, t] })
    (B e m bytes : Nat) (z : Value) (ht : P.underlying t = some (.slice e)) (hinfo : (P.info? e).map (fun i => (i.zero, i.size, i.bytes)) = some (some z, m, bytes)) (hzs : z.cells.size = m) (hm : 0 < m)
    (ad : Option Addr) (n cap : Nat) (xs : List Value) (hs : a.eval s = .slice ad n cap) (hown : Vec w B e m ad n cap xs)
    (ad1 : Addr) (k c : Nat) (mk : List Value) (hx : a.eval x = .slice (some ad1) k c) (hl : mk.length = m) (hnews : ∀ j u, (rep k mk)[j]? = some u → w.cell? (ad1.add j) = some u) (h1 : ∀ u, u ∈ mk → u.oneCell' = true) (hk : 0 < k)
    (hbytes : (n + k) * bytes ≤ 140737488355328) (hn : n + k ≤ 9223372036854775807) (hB : B ≤ w.heap.size)
    (h : ∀ ad' cap' w', Vec w' B e m ad' (n + k) cap' (xs ++ rep k mk) → Kp (ad.map (·.block)) mk w w' → wpList P ops Q rest (a.put o.dst (.slice ad' (n + k) cap')) w') : wpList P ops Q (o :: rest) a w := by
  obtain ⟨i, hi, hzz⟩ := Option.map_eq_some_iff.1 hinfo
  simp only [Prod.mk.injEq] at hzz
  obtain ⟨hz, hsz, hby⟩ := hzz
  obtain ⟨ad', cap', w', hr, h2, h3⟩ := run_append_marks (P := P) (w := w) B t o.type e i z m bytes ht hi hz hsz hby hzs hm ad n cap xs hown ad1 k c mk hl hnews h1 hk (by unfold maxLen; omega) hbytes hB
  refine wpList_plain hgd fun K hK => ?_
  unfold Oper.wp execOp
  simp only [ho, resolve, invoke, builtin, Sem.run_bind, Sem.run_pure, Result.andThen_ok, List.map_toArray, List.map_cons, List.map_nil, hs, hx, hr]
  exact hK _ _ (h ad' cap' w' h2 h3)
/-- The same within a region that draws its order. -/
theorem step_pushk {K : Act → World → Prop} {E : Prop} (hgd : o.guard = none) (s x : Operand) (t : TypeId) (ho : o.op = .call { callee := .builtin .append, args := #[s, x], argTypes := #[t, t] })
    (B e m bytes : Nat) (z : Value) (ht : P.underlying t = some (.slice e)) (hinfo : (P.info? e).map (fun i => (i.zero, i.size, i.bytes)) = some (some z, m, bytes)) (hzs : z.cells.size = m) (hm : 0 < m)
    (ad : Option Addr) (n cap : Nat) (xs : List Value) (hs : a.eval s = .slice ad n cap) (hown : Vec w B e m ad n cap xs)
    (ad1 : Addr) (c : Nat) (mk : List Value) (hx : a.eval x = .slice (some ad1) 1 c) (hl : mk.length = m) (hnews : ∀ j u, mk[j]? = some u → w.cell? (ad1.add j) = some u) (h1 : ∀ u, u ∈ mk → u.oneCell' = true)
    (hbytes : (n + 1) * bytes ≤ 140737488355328) (hn : n + 1 ≤ 9223372036854775807) (hB : B ≤ w.heap.size)
    (h : ∀ ad' cap' w', Vec w' B e m ad' (n + 1) cap' (xs ++ mk) → Kp (ad.map (·.block)) mk w w' → K (a.put o.dst (.slice ad' (n + 1) cap')) w') :
    if Region.wanted o (yielded ops a.tmps) = true then Oper.wp P o a w K Q else E := by
  have hw : Region.wanted o (yielded ops a.tmps) = true := by simp [Region.wanted, hgd]
  rw [if_pos hw]
  obtain ⟨i, hi, hzz⟩ := Option.map_eq_some_iff.1 hinfo
  simp only [Prod.mk.injEq] at hzz
  obtain ⟨hz, hsz, hby⟩ := hzz
  obtain ⟨ad', cap', w', hr, h2, h3⟩ := run_append_marks (P := P) (w := w) B t o.type e i z m bytes ht hi hz hsz hby hzs hm ad n cap xs hown ad1 1 c mk hl (by rw [rep_one]; exact hnews) h1 (by omega) (by unfold maxLen; omega) hbytes hB
  rw [rep_one] at h2
  unfold Oper.wp execOp
  simp only [ho, resolve, invoke, builtin, Sem.run_bind, Sem.run_pure, Result.andThen_ok, List.map_toArray, List.map_cons, List.map_nil, hs, hx, hr]
  exact h ad' cap' w' h2 h3

/-- 'l[i] = m'. -/
theorem wpList_vstore (hgd : o.guard = none) (p v : Operand) (t : TypeId) (ho : o.op = .store t p v) (B e m : Nat) (hs : (P.info? t).map (·.size) = some m) (ad : Option Addr) (n cap : Nat) (mk ys : List Value) (i g : Nat) (hg : Hid (ad = some ⟨g, 0, none⟩))
    (hown : Vec w B e m ad n cap (rep i mk ++ ys)) (hin : i < n) (hl : mk.length = m) (h1 : ∀ u, u ∈ mk → u.oneCell' = true) (hp : a.eval p = .pointer (some ⟨g, i * m, none⟩)) (hv : a.eval v = .agg mk.toArray)
    (h : ∀ w', Vec w' B e m ad n cap (rep (i + 1) mk ++ ys.drop m) → Upd g w w' → wpList P ops Q rest (a.put o.dst undef) w') : wpList P ops Q (o :: rest) a w := by
  subst hl
  have hg' := hg.out
  subst hg'
  rcases hown.2 with ⟨h2, _⟩ | ⟨k, c, cur, hvv, hB, hc, r1, r2, r3, r4⟩
  · simp at h2
  · simp at hvv
    obtain ⟨rfl, rfl⟩ := hvv
    have hlen := hown.1
    rw [List.length_append, rep_length] at hlen
    have hmul : (i + 1) * mk.length ≤ n * mk.length := Nat.mul_le_mul_right _ hin
    have hmul2 : n * mk.length ≤ cap * mk.length := Nat.mul_le_mul_right _ r1
    rw [Nat.add_mul, Nat.one_mul] at hmul
    have hfit : i * mk.length + 0 + mk.length ≤ cur.size := by rw [r3]; omega
    have hst := run_storeCells_at P g (i * mk.length) e mk 0 cur w hc hfit h1
    refine wpList_plain hgd fun K hK => ?_
    cases hq : P.info? t with
    | none => simp [hq] at hs
    | some inf =>
      have hi' : inf.size = mk.length := by simpa [hq] using hs
      unfold Oper.wp
      simp [execOp, ho, hp, hv, Instr.storeAt, Instr.sureAddr, storeVar, sizeOf, typeInfo, hq, hi', Value.cells, hst, Result.andThen]
      refine hK _ _ (h _ ⟨?_, .inr ⟨g, cap, _, rfl, hB, setRow_heap w g cur _ e _ hc, r1, r2, ?_, ?_⟩⟩ (Upd.setRow _ _ _))
      · rw [List.length_append, rep_length, List.length_drop, Nat.add_mul]; omega
      · simp only [List.size_toArray, List.length_append, List.length_take, List.length_drop, Array.length_toList]; omega
      · have hcur : cur.toList = rep i mk ++ ys ++ cur.toList.drop (n * mk.length) := by rw [← r4, List.take_append_drop]
        have e1 : cur.toList.take (i * mk.length) = rep i mk := by
          rw [hcur, List.append_assoc, List.take_append_of_le_length (by rw [rep_length]; omega), List.take_of_length_le (by rw [rep_length]; omega)]
        have e2 : cur.toList.drop (i * mk.length + mk.length) = ys.drop mk.length ++ cur.toList.drop (n * mk.length) := by
          conv => lhs; rw [hcur]
          rw [List.append_assoc, List.drop_append, rep_length, List.drop_of_length_le (by rw [rep_length]; omega), List.nil_append, List.drop_append, show i * mk.length + mk.length - i * mk.length = mk.length by omega, show mk.length - ys.length = 0 by omega, List.drop_zero]
        rw [e1, e2]
        have e3 : rep i mk ++ (mk ++ (ys.drop mk.length ++ cur.toList.drop (n * mk.length))) = (rep (i + 1) mk ++ ys.drop mk.length) ++ cur.toList.drop (n * mk.length) := by rw [rep_add, rep_one]; simp
        rw [e3]
        refine List.take_left' ?_
        rw [List.length_append, rep_length, List.length_drop, Nat.add_mul]; omega
end
end Go.Proofs.Ytdjpkgaicmklmaa

/- The owner's books: lists that came out, each with its mark, and what stays of them at each step. -/
namespace Go.Proofs.Ytdjpkgaicmklmaa
open Go.RowKit

/-- A list that came out, and the mark that its elements read. -/
structure Bk where
  ad : Option Addr
  n : Nat
  cap : Nat
  mrk : List Value
abbrev Bk.cells (x : Bk) : List Value := .slice x.ad x.n x.cap :: x.mrk
def bcells (L : List Bk) : List Value := (L.map Bk.cells).flatten
theorem bcells_snoc (L : List Bk) (x : Bk) : bcells (L ++ [x]) = bcells L ++ x.cells := by simp [bcells]
/-- It reads so. -/
structure Reads1 (Sh : List Value → Prop) (w : World) (B e m : Nat) (x : Bk) : Prop where
  len : x.mrk.length = m
  vec : Vec w B e m x.ad x.n x.cap (rep x.n x.mrk)
  few : x.n ≤ 1099511627780
  shape : Sh x.mrk
/-- The books of one kind. -/
structure Books (Sh : List Value → Prop) (w : World) (B e eb m : Nat) (ad : Option Addr) (cap : Nat) (L : List Bk) : Prop where
  list : Vec w B eb (m + 1) ad L.length cap (bcells L)
  each : ∀ x, x ∈ L → Reads1 Sh w B e m x
theorem Books.nil {Sh : List Value → Prop} (w : World) (B e eb m : Nat) : Books Sh w B e eb m none 0 [] := ⟨Vec.nil _ _ _ _, fun x h => by cases h⟩
theorem Books.keep {Sh : List Value → Prop} {w w' : World} {B e eb m : Nat} {ad : Option Addr} {cap : Nat} {L : List Bk} (h : Books Sh w B e eb m ad cap L) (hb : Below w.heap.size w w') : Books Sh w' B e eb m ad cap L :=
  ⟨h.list.keep hb, fun x hx => ⟨(h.each x hx).len, (h.each x hx).vec.keep hb, (h.each x hx).few, (h.each x hx).shape⟩⟩

/-- But for block go, and blocks of two types, all is as it was. -/
structure But3 (go e eb : Nat) (w w' : World) : Prop where
  size : w.heap.size ≤ w'.heap.size
  block : ∀ k cur t, k ≠ go → w.heap[k]? = some (.cells cur t) → t ≠ e → t ≠ eb → w'.heap[k]? = some (.cells cur t)
theorem But3.trans {go e eb : Nat} {a b c : World} (h : But3 go e eb a b) (h' : But3 go e eb b c) : But3 go e eb a c :=
  ⟨Nat.le_trans h.size h'.size, fun k cur t h1 h2 h3 h4 => h'.block k cur t h1 (h.block k cur t h1 h2 h3 h4) h3 h4⟩
theorem But3.of_below {go e eb : Nat} {w w' : World} (h : Below w.heap.size w w') : But3 go e eb w w' :=
  ⟨h.size, fun k _ _ _ h2 _ _ => by rw [h.block k (Array.getElem?_eq_some_iff.1 h2).1]; exact h2⟩
theorem But3.of_upd {go e eb g : Nat} {w w' : World} (h : Upd g w w') (hg : g = go ∨ ∃ cur t, w.heap[g]? = some (.cells cur t) ∧ (t = e ∨ t = eb)) : But3 go e eb w w' :=
  ⟨by rw [h.size]; exact Nat.le_refl _, fun k cur t h1 h2 h3 h4 => by
    have hk : k ≠ g := by
      rintro rfl
      rcases hg with hg | ⟨cur', t', hc, ht⟩
      · exact h1 hg
      · rw [h2] at hc; simp at hc; obtain ⟨-, rfl⟩ := hc; rcases ht with ht | ht
        · exact h3 ht
        · exact h4 ht
    rw [h.block k hk]; exact h2⟩
theorem But3.of_kp {go e eb : Nat} {g : Option Nat} {mk : List Value} {w w' : World} (h : Kp g mk w w') (hg : ∀ k, g = some k → ∃ cur t, w.heap[k]? = some (.cells cur t) ∧ (t = e ∨ t = eb)) : But3 go e eb w w' :=
  ⟨h.size, fun k cur t _ h2 h3 h4 => by
    have hk : g ≠ some k := by
      intro hk
      obtain ⟨cur', t', hc, ht⟩ := hg k hk
      rw [h2] at hc; simp at hc; obtain ⟨-, rfl⟩ := hc; rcases ht with ht | ht
      · exact h3 ht
      · exact h4 ht
    rw [h.block k (Array.getElem?_eq_some_iff.1 h2).1 hk]; exact h2⟩
theorem Vec.typed {w : World} {B e m : Nat} {ad : Option Addr} {n cap : Nat} {xs : List Value} (h : Vec w B e m ad n cap xs) : ∀ k, ad.map (·.block) = some k → B ≤ k ∧ ∃ cur, w.heap[k]? = some (.cells cur e) := by
  intro k hk
  rcases h.2 with ⟨h2, _⟩ | ⟨g, c, cur, hv, hB, hc, _⟩
  · simp at h2; rw [h2.1] at hk; cases hk
  · simp at hv; rw [hv.1] at hk; simp at hk; subst hk; exact ⟨hB, cur, hc⟩
theorem Vec.but3 {w w' : World} {B e m go e1 eb1 : Nat} {ad : Option Addr} {n cap : Nat} {xs : List Value} (h : Vec w B e m ad n cap xs) (hb : But3 go e1 eb1 w w') (h1 : e ≠ e1) (h2 : e ≠ eb1) (hgo : ∀ k, ad.map (·.block) = some k → k ≠ go) : Vec w' B e m ad n cap xs := by
  refine ⟨h.1, ?_⟩
  rcases h.2 with h3 | ⟨k, c, cur, hv, hB, hc, r⟩
  · exact Or.inl h3
  · refine Or.inr ⟨k, c, cur, hv, hB, hb.block k cur e (hgo k ?_) hc h1 h2, r⟩
    simp at hv; rw [hv.1]; rfl
theorem Vec.updo {w w' : World} {B e m g : Nat} {ad : Option Addr} {n cap : Nat} {xs : List Value} (h : Vec w B e m ad n cap xs) (hu : Upd g w w') (hg : ∀ b, ad = some b → b.block ≠ g) : Vec w' B e m ad n cap xs := by
  refine ⟨h.1, ?_⟩
  rcases h.2 with h2 | ⟨k, c, cur, hv, hB, hk, r⟩
  · exact Or.inl h2
  · refine Or.inr ⟨k, c, cur, hv, hB, ?_, r⟩
    simp at hv
    rw [hu.block k (hg _ hv.1)]; exact hk
/-- Books of other types stay. -/
theorem Books.but3 {Sh : List Value → Prop} {w w' : World} {B e eb m go e1 eb1 tT : Nat} {oc : List Value} {ad : Option Addr} {cap : Nat} {L : List Bk} (h : Books Sh w B e eb m ad cap L) (hb : But3 go e1 eb1 w w') (ho : Bx w go tT oc)
    (h1 : e ≠ e1) (h2 : e ≠ eb1) (h3 : eb ≠ e1) (h4 : eb ≠ eb1) (h5 : e ≠ tT) (h6 : eb ≠ tT) : Books Sh w' B e eb m ad cap L :=
  ⟨h.list.but3 hb h3 h4 (fun k hk e => ho.apart h.list h6 (by rw [hk, e])), fun x hx => ⟨(h.each x hx).len, (h.each x hx).vec.but3 hb h1 h2 (fun k hk e => ho.apart (h.each x hx).vec h5 (by rw [hk, e])), (h.each x hx).few, (h.each x hx).shape⟩⟩

/-- While the owner writes a list over: his variable, the mark, the list, the books of its kind. -/
structure St (Sh : List Value → Prop) (w0 w : World) (B B1 go gm tT e eb m f : Nat) (oc mk : List Value) (ad : Option Addr) (N cap : Nat) (a4 : Option Addr) (c4 : Nat) (L : List Bk) : Prop where
  o : Bx w go tT oc
  k : Bx w gm e mk
  l : Vec w B1 e m ad N cap (rep N mk)
  b : Vec w B eb (m + 1) a4 L.length c4 (bcells L)
  each : ∀ x, x ∈ L → Reads1 Sh w B e m x ∧ ((∀ b, x.ad = some b → b.block < B1) ∨ x.mrk = mk)
  at_ : oc[f]? = some (.slice a4 L.length c4)
  mark : mk.length = m
  low : B ≤ go
  big : B ≤ B1
  apt : ∀ b, ad = some b → b.block ≠ gm
  old : Below B w0 w
  but : But3 go e eb w0 w

theorem St.step {Sh : List Value → Prop} {w0 w w' : World} {B B1 go gm tT e eb m f : Nat} {oc mk : List Value} {ad : Option Addr} {N cap : Nat} {a4 : Option Addr} {c4 : Nat} {L : List Bk} (h : St Sh w0 w B B1 go gm tT e eb m f oc mk ad N cap a4 c4 L) (hb : Below w.heap.size w w') (hB : B ≤ w.heap.size) : St Sh w0 w' B B1 go gm tT e eb m f oc mk ad N cap a4 c4 L :=
  ⟨h.o.below hb h.o.lt, h.k.below hb h.k.lt, h.l.keep hb, h.b.keep hb, fun x hx => ⟨⟨(h.each x hx).1.len, (h.each x hx).1.vec.keep hb, (h.each x hx).1.few, (h.each x hx).1.shape⟩, (h.each x hx).2⟩, h.at_, h.mark, h.low, h.big, h.apt, h.old.trans (hb.mono hB), h.but.trans (But3.of_below hb)⟩
/-- 'a := append(l, m, ..)': all stays. -/
theorem St.push {Sh : List Value → Prop} {w0 w w' : World} {B B1 go gm tT e eb m f : Nat} {oc mk : List Value} {ad : Option Addr} {N cap : Nat} {a4 : Option Addr} {c4 : Nat} {L : List Bk} (h : St Sh w0 w B B1 go gm tT e eb m f oc mk ad N cap a4 c4 L) (hk : Kp (ad.map (·.block)) mk w w')
    (h1 : e ≠ tT) (h2 : e ≠ eb) (hB : B ≤ w.heap.size) : St Sh w0 w' B B1 go gm tT e eb m f oc mk ad N cap a4 c4 L := by
  refine ⟨h.o.kp hk (h.o.apart h.l h1), h.k.kp hk ?_, h.l.kp h.mark hk (fun _ _ _ => rfl), h.b.kpo hk (fun b hb hb' => ?_), fun x hx => ?_, h.at_, h.mark, h.low, h.big, h.apt, hk.below h.old hB (fun k e => Nat.le_trans h.big (h.l.typed k e).1), h.but.trans (But3.of_kp hk fun k e => ?_)⟩
  · intro e; cases ad with
    | none => cases e
    | some b => simp at e; exact h.apt b rfl e
  · exact h.b.apart h.l (fun e => h2 e.symm) b hb hb'
  · obtain ⟨h3, h4⟩ := h.each x hx
    refine ⟨⟨h3.len, h3.vec.kp h3.len hk (fun b hb hb' => ?_), h3.few, h3.shape⟩, h4⟩
    rcases h4 with h4 | h4
    · have := (h.l.typed _ hb').1; have := h4 b hb; omega
    · exact h4
  · obtain ⟨_, cur, hc⟩ := h.l.typed k e; exact ⟨cur, _, hc, Or.inl rfl⟩
/-- 'o.l = append(o.l, book{..})': one book more. -/
theorem St.book {Sh : List Value → Prop} {w0 w w' : World} {B B1 go gm tT e eb m f : Nat} {oc mk : List Value} {ad : Option Addr} {N cap : Nat} {a4 : Option Addr} {c4 : Nat} {L : List Bk} (h : St Sh w0 w B B1 go gm tT e eb m f oc mk ad N cap a4 c4 L) {x : Bk} {a5 : Option Addr} {c5 : Nat}
    (hv : Vec w' B eb (m + 1) a5 (L.length + 1) c5 (bcells L ++ x.cells)) (hk : Kp (a4.map (·.block)) x.cells w w') (hx : Reads1 Sh w B e m x) (hm : x.mrk = mk) (h1 : eb ≠ tT) (h2 : e ≠ eb) (h3 : e ≠ tT) (hf : f < oc.length) (hB : B ≤ w.heap.size) :
    St Sh w0 (w'.setCell ⟨go, f, none⟩ (.slice a5 (L.length + 1) c5)) B B1 go gm tT e eb m f (oc.set f (.slice a5 (L.length + 1) c5)) mk ad N cap a5 c5 (L ++ [x]) := by
  have hu : Upd go w' (w'.setCell ⟨go, f, none⟩ (.slice a5 (L.length + 1) c5)) := (Upd.refl go w').setCell _ rfl _
  have ho : Bx w' go tT oc := h.o.kp hk (h.o.apart h.b h1)
  have hkk : Bx w' gm e mk := h.k.kp hk (h.k.apart h.b (fun e => h2 e.symm))
  have hl : Vec w' B1 e m ad N cap (rep N mk) := h.l.kpo hk (fun b hb hb' => h.l.apart h.b h2 b hb hb')
  have hgo : gm ≠ go := by
    intro e1; have a := hkk.h; have b := ho.h; rw [e1, b] at a; simp at a; exact h3 a.2.symm
  have each : ∀ y, Reads1 Sh w B e m y → Reads1 Sh (w'.setCell ⟨go, f, none⟩ (.slice a5 (L.length + 1) c5)) B e m y := fun y hy => by
    have := hy.vec.kpo hk (fun b hb hb' => hy.vec.apart h.b h2 b hb hb')
    exact ⟨hy.len, this.updo hu (fun b hb e1 => ho.apart this h3 (by rw [hb]; simp [e1])), hy.few, hy.shape⟩
  refine ⟨ho.setCell f _, hkk.upd hu hgo, hl.updo hu (fun b hb e1 => ho.apart hl h3 (by rw [hb]; simp [e1])), ?_, fun y hy => ?_, ?_, h.mark, h.low, h.big, h.apt, ?_, ?_⟩
  · rw [bcells_snoc, List.length_append]
    exact hv.updo hu (fun b hb e1 => ho.apart hv h1 (by rw [hb]; simp [e1]))
  · rcases List.mem_append.1 hy with hy | hy
    · exact ⟨each y (h.each y hy).1, (h.each y hy).2⟩
    · simp at hy; subst hy; exact ⟨each _ hx, Or.inr hm⟩
  · simp [hf]
  · exact hu.below (hk.below h.old hB (fun k e => (h.b.typed k e).1)) h.low
  · exact (h.but.trans (But3.of_kp hk fun k e1 => by obtain ⟨_, cur, hc⟩ := h.b.typed k e1; exact ⟨cur, _, hc, Or.inr rfl⟩)).trans (But3.of_upd hu (Or.inl rfl))
end Go.Proofs.Ytdjpkgaicmklmaa

/- What the walks of the owner's calls share. -/
namespace Go.Proofs.Ytdjpkgaicmklmaa
open Go.RowKit

def ShFd (l : List Value) : Prop := ∃ f : Fd, l = f.cells
def ShCk (l : List Value) : Prop := ∃ f : Ck, l = f.cells
def ShCd (l : List Value) : Prop := ∃ f : Cd, l = f.cells
def ShEd (l : List Value) : Prop := ∃ f : Ed, l = f.cells

theorem newc1 (X : World) (cs : List Value) (t : TypeId) : ∀ j u, cs[j]? = some u → (X.alloc (.cells cs.toArray t)).cell? ((⟨X.heap.size, 0, none⟩ : Addr).add j) = some u := by
  intro j u h
  rw [addr_add, (Bx.new X t cs.toArray).cell]
  simpa using h
/-- The worlds part in one block alone. -/
structure Upo (g : Option Nat) (w w' : World) : Prop where
  os : w'.os = w.os
  tape : w'.tape = w.tape
  output : w'.output = w.output
  size : w'.heap.size = w.heap.size
  block : ∀ k, g ≠ some k → w'.heap[k]? = w.heap[k]?
theorem Upo.refl (g : Option Nat) (w : World) : Upo g w w := ⟨rfl, rfl, rfl, rfl, fun _ _ => rfl⟩
theorem Upo.upd {g : Option Nat} {k : Nat} {w w1 w2 : World} (h : Upo g w w1) (hu : Upd k w1 w2) (hk : g = some k) : Upo g w w2 :=
  ⟨hu.os.trans h.os, hu.tape.trans h.tape, hu.output.trans h.output, hu.size.trans h.size, fun j hj => (hu.block j (fun e => hj (by rw [hk, e]))).trans (h.block j hj)⟩
theorem Bx.upo {g : Option Nat} {w w' : World} {k e : Nat} {cs : List Value} (b : Bx w k e cs) (h : Upo g w w') (hg : g ≠ some k) : Bx w' k e cs := ⟨by rw [h.block k hg]; exact b.h⟩
theorem Vec.upo {g : Option Nat} {w w' : World} {B e m : Nat} {ad : Option Addr} {n cap : Nat} {xs : List Value} (h : Vec w B e m ad n cap xs) (hu : Upo g w w') (hg : ∀ b, ad = some b → g ≠ some b.block) : Vec w' B e m ad n cap xs := by
  refine ⟨h.1, ?_⟩
  rcases h.2 with h2 | ⟨k, c, cur, hv, hB, hk, r⟩
  · exact Or.inl h2
  · refine Or.inr ⟨k, c, cur, hv, hB, ?_, r⟩
    simp at hv
    rw [hu.block k (hg _ hv.1)]; exact hk
theorem Upo.below {g : Option Nat} {B : Nat} {w0 w w' : World} (h : Upo g w w') (hb : Below B w0 w) (hg : ∀ k, g = some k → B ≤ k) : Below B w0 w' :=
  ⟨h.os.trans hb.os, h.tape.trans hb.tape, h.output.trans hb.output, by rw [h.size]; exact hb.size, fun k hk => (h.block k (fun e => by have := hg k e; omega)).trans (hb.block k hk)⟩
theorem But3.of_upo {go e eb : Nat} {g : Option Nat} {w w' : World} (h : Upo g w w') (hg : ∀ k, g = some k → ∃ cur t, w.heap[k]? = some (.cells cur t) ∧ (t = e ∨ t = eb)) : But3 go e eb w w' :=
  ⟨by rw [h.size]; exact Nat.le_refl _, fun k cur t _ h2 h3 h4 => by
    have hk : g ≠ some k := by
      intro hk
      obtain ⟨cur', t', hc, ht⟩ := hg k hk
      rw [h2] at hc; simp at hc; obtain ⟨-, rfl⟩ := hc; rcases ht with ht | ht
      · exact h3 ht
      · exact h4 ht
    rw [h.block k hk]; exact h2⟩

theorem merge {T G : Prop} (main : Hid T → G) (key : T) : G := main key
theorem St.six {Sh : List Value → Prop} {w0 w X w6 : World} {B B1 go gm tT e eb m f : Nat} {oc mk row : List Value} {ad : Option Addr} {N cap : Nat} {a4 : Option Addr} {c4 : Nat} {L : List Bk} (hk : Kp (a4.map (·.block)) row X w6) (h : St Sh w0 w B B1 go gm tT e eb m f oc mk ad N cap a4 c4 L) (hb : Below w.heap.size w X) (hB : B ≤ w.heap.size) (h1 : eb ≠ tT) {x : Bk} (hx : Reads1 Sh w B e m x) :
    Reads1 Sh X B e m x ∧ B ≤ X.heap.size ∧ St Sh w0 X B B1 go gm tT e eb m f oc mk ad N cap a4 c4 L ∧ w6.cell? ⟨go, f, none⟩ = some (.slice a4 L.length c4) ∧ w6.frozen? ⟨go, f, none⟩ = false := by
  have h2 := h.step hb hB
  have h3 := h2.o.kp hk (h2.o.apart h2.b h1)
  exact ⟨⟨hx.len, hx.vec.keep hb, hx.few, hx.shape⟩, Nat.le_trans hB hb.size, h2, by rw [h3.cell, h.at_], h3.frozen f⟩
/-- The list is written over. -/
theorem St.start {Sh : List Value → Prop} {w w1 w3 : World} {B B1 go tT e eb m f : Nat} {oc0 oc mk xs : List Value} {ad : Option Addr} {N cap : Nat} {a4 : Option Addr} {c4 : Nat} {L : List Bk} (hO : Bx w go tT oc0) (hO1 : Bx w1 go tT oc) (hU : Upd go w w1) (hK : Books Sh w B e eb m a4 c4 L)
    (hfr : ∀ x, x ∈ L → ∀ b, x.ad = some b → b.block < B1) (hv : Vec w B1 e m ad N cap xs) (hu : Upo (ad.map (·.block)) (w1.alloc (.cells mk.toArray e)) w3) (hv3 : Vec w3 B1 e m ad N cap (rep N mk)) (hf : oc[f]? = some (.slice a4 L.length c4)) (hm : mk.length = m)
    (hB : B ≤ go) (hB1 : B ≤ B1) (hBw : B ≤ w.heap.size) (h1 : e ≠ tT) (h2 : eb ≠ tT) (h3 : e ≠ eb) : St Sh w w3 B B1 go w1.heap.size tT e eb m f oc mk ad N cap a4 c4 L := by
  have hz := hU.size
  have hal : Below w1.heap.size w1 (w1.alloc (.cells mk.toArray e)) := (Below.refl _ _).alloc (Nat.le_refl _) _
  have hlt : ∀ k, ad.map (·.block) = some k → B1 ≤ k ∧ k < w1.heap.size ∧ k ≠ go := by
    intro k hk
    obtain ⟨h4, cur, hc⟩ := hv.typed k hk
    refine ⟨h4, by rw [hz]; exact (Array.getElem?_eq_some_iff.1 hc).1, fun e1 => hO.apart hv h1 (by rw [hk, e1])⟩
  have tr : ∀ {B' e' m' : Nat} {ad' : Option Addr} {n' cap' : Nat} {xs' : List Value}, Vec w B' e' m' ad' n' cap' xs' → e' ≠ tT → (∀ b, ad' = some b → ad.map (·.block) ≠ some b.block) → Vec w3 B' e' m' ad' n' cap' xs' := by
    intro B' e' m' ad' n' cap' xs' h4 h5 h6
    exact ((h4.updo hU (fun b hb e1 => hO.apart h4 h5 (by rw [hb]; simp [e1]))).keep hal).upo hu h6
  have hgm := Bx.new w1 e mk.toArray
  refine ⟨(hO1.alloc _).upo hu (fun e1 => (hlt _ e1).2.2 rfl), ?_, hv3, tr hK.list h2 (fun b hb e1 => hK.list.apart hv (fun e => h3 e.symm) b hb e1), fun x hx => ⟨⟨(hK.each x hx).len, tr (hK.each x hx).vec h1 (fun b hb e1 => ?_), (hK.each x hx).few, (hK.each x hx).shape⟩, Or.inl (hfr x hx)⟩, hf, hm, hB, hB1, fun b hb e1 => ?_, ?_, ?_⟩
  · have := hgm.upo hu (fun e1 => by have := (hlt _ e1).2.1; omega); simpa using this
  · have := hfr x hx b hb; have := (hlt _ e1).1; omega
  · have := (hlt b.block (by rw [hb]; rfl)).2.1; omega
  · exact hu.below ((hU.below (Below.refl _ _) hB).alloc (by rw [hz]; exact hBw) _) (fun k hk => Nat.le_trans hB1 (hlt k hk).1)
  · refine ((But3.of_upd hU (Or.inl rfl)).trans (But3.of_below hal)).trans (But3.of_upo hu fun k hk => ?_)
    obtain ⟨_, cur, hc⟩ := hv.typed k hk
    refine ⟨cur, e, ?_, Or.inl rfl⟩
    rw [hal.block k (hlt k hk).2.1, hU.block k (hlt k hk).2.2]; exact hc
end Go.Proofs.Ytdjpkgaicmklmaa

/- sameFound, and what own.kept asks: walked. -/
namespace Go.Proofs.Ytdjpkgaicmklmaa
open Go.RowKit

set_option maxRecDepth 100000 in
set_option maxHeartbeats 4000000 in
theorem sameFound_any (N : Nat) (F : Nat → Fd) (a b : Option Addr) (ca cb : Nat) (w : World) (hA : Lies w a N 9 (fun i => (F i).cells)) (hB : Lies w b N 9 (fun i => (F i).cells)) (hN : N ≤ 9223372036854775807) :
    Calls Try.prog 50 #[.slice a N ca, .slice b N cb] w fun e w' => e = .returned (.bool true) ∧ Below w.heap.size w w' := by
  go_enter Try.func50, Try.ntmps50
  go_wp2
  go_loopw [5] (fun u wr => ∃ j : Nat, j ≤ N ∧ u = .int .i64 j ∧ Below w.heap.size w wr) (fun u _ => N - (intOf u).toNat)
  case atStart => exact ⟨0, Nat.zero_le _, rfl, Below.refl _ _⟩
  case round =>
    obtain ⟨j, hj, rfl, hbr⟩ := hrel
    by_cases hlt : j < N
    · obtain ⟨b, o, hbl, hix, c0, c1, c2, c3, c4, c5, c6, c7, c8⟩ := (hA.below hbr).found ca hlt
      obtain ⟨b', o', hbl', hix', d0, d1, d2, d3, d4, d5, d6, d7, d8⟩ := (hB.below hbr).found cb hlt
      go_wp2
      go_quiet (fail)
      go_wp2
      go_roundw
      case rel => exact ⟨j + 1, by omega, by go_num, below_drewN hbr _⟩
      case measure => simp [intOf]; omega
    · go_wp2
      go_ret
      exact ⟨rfl, hbr⟩

theorem books_lies {Sh : List Value → Prop} {w : World} {B e eb m : Nat} {ad : Option Addr} {cap : Nat} {L : List Bk} (h : Books Sh w B e eb m ad cap L) : Lies w ad L.length (m + 1) (fun i => (L.getD i ⟨none, 0, 0, []⟩).cells) := by
  refine Vec.lies (rows := L.map Bk.cells) h.list ?_ (by simp) _ ?_
  · intro r hr; obtain ⟨x, hx, rfl⟩ := List.mem_map.1 hr; simp [(h.each x hx).len]
  · intro i hi; simp [List.getD, hi]
theorem rep_lies {w : World} {B e m : Nat} {ad : Option Addr} {n cap : Nat} {mk : List Value} (h : Vec w B e m ad n cap (rep n mk)) (hm : mk.length = m) : Lies w ad n m (fun _ => mk) := by
  refine Vec.lies (rows := List.replicate n mk) h ?_ (by simp) _ ?_
  · intro r hr; rw [(List.mem_replicate.1 hr).2]; exact hm
  · intro i hi; simp [List.getD, hi]

set_option maxRecDepth 100000 in
set_option maxHeartbeats 4000000 in
theorem rkept_nil (w : World) (go : Nat) (n : Int) (v4 v5 : Value) (hO : Bx w go 41 [.int .i64 n, .slice none 0 0, .slice none 0 0, .slice none 0 0, v4, v5]) :
    Calls Try.prog 94 #[.pointer (some ⟨go, 0, none⟩)] w fun e w' => e = .returned (.bool true) ∧ w' = w := by
  have c1 := hO.cell 1
  have c2 := hO.cell 2
  have c3 := hO.cell 3
  dsimp only [List.getElem?_cons_zero, List.getElem?_cons_succ] at c1 c2 c3
  go_enter Try.func94, Try.ntmps94
  go_wp2_with fail
  go_loopw [3, 4] (fun u _ wr => u = .int .i64 0 ∧ wr = w) (fun _ _ _ => 0)
  case atStart => exact ⟨rfl, rfl⟩
  case round =>
    obtain ⟨rfl, hw⟩ := hrel
    subst hw
    go_wp2_with fail
    go_loopw [5, 6] (fun u _ wr2 => u = .int .i64 0 ∧ wr2 = wr) (fun _ _ _ => 0)
    case atStart => exact ⟨rfl, rfl⟩
    case round =>
      obtain ⟨rfl, hw⟩ := hrel
      subst hw
      go_wp2_with fail
      go_loopw [7, 8] (fun u _ wr2 => u = .int .i64 0 ∧ wr2 = wr) (fun _ _ _ => 0)
      case atStart => exact ⟨rfl, rfl⟩
      case round =>
        obtain ⟨rfl, hw⟩ := hrel
        subst hw
        go_wp2_with fail
        go_ret
        exact ⟨rfl, by first | rfl | trivial⟩
end Go.Proofs.Ytdjpkgaicmklmaa

/- own.kept, walked: each book's list reads its mark. -/
namespace Go.Proofs.Ytdjpkgaicmklmaa
open Go.RowKit

set_option maxRecDepth 100000 in
set_option maxHeartbeats 4000000 in
theorem kept_any (w : World) (B go : Nat) (n : Int) (v1 v2 v3 : Value) (a4 : Option Addr) (c4 : Nat) (L : List Bk) (hO : Bx w go 41 [.int .i64 n, v1, v2, v3, .slice a4 L.length c4, .slice none 0 0]) (hK : Books ShFd w B 64 114 9 a4 c4 L) (hL : L.length ≤ 1004)
    (hR : Hid (∀ w', Below w.heap.size w w' → Calls Try.prog 94 #[.pointer (some ⟨go, 0, none⟩)] w' fun e w'' => e = .returned (.bool true) ∧ Below w'.heap.size w' w'')) :
    Calls Try.prog 46 #[.pointer (some ⟨go, 0, none⟩)] w fun e w' => e = .returned (.bool true) ∧ Below w.heap.size w w' := by
  go_enter Try.func46, Try.ntmps46
  go_wp2_with fail
  go_loopw [3, 4] (fun u _ wr => ∃ i : Nat, i ≤ L.length ∧ u = .int .i64 i ∧ Below w.heap.size w wr) (fun u _ _ => L.length - (intOf u).toNat)
  case atStart => exact ⟨0, Nat.zero_le _, rfl, Below.refl _ _⟩
  case round =>
    obtain ⟨i, hi, rfl, hbr⟩ := hrel
    have hOr := hO.below hbr hO.lt
    have hKr := hK.keep hbr
    have cf := hOr.cell 4
    dsimp only [List.getElem?_cons_zero, List.getElem?_cons_succ] at cf
    by_cases hlt : i < L.length
    · have hx := hKr.each L[i] (List.getElem_mem hlt)
      obtain ⟨b, o, hbl, hix, hc⟩ := (books_lies hKr).at c4 (P := Try.prog) (t := 38) (by kernel_rfl) (by kernel_rfl) hlt
      obtain ⟨f, hf⟩ := hx.shape
      rw [show L.getD i ⟨none, 0, 0, []⟩ = L[i] by simp [List.getD, hlt]] at hc
      have s0 : wr.cell? ⟨b, o, none⟩ = some (.slice (L[i]).ad (L[i]).n (L[i]).cap) := hc 0 _ (by omega) rfl
      have hq : Lies wr (L[i]).ad (L[i]).n 9 (fun _ => f.cells) := rep_lies (by have := hx.vec; rw [hf] at this; exact this) rfl
      have few : (L[i]).n ≤ 1099511627780 := hx.few
      have HE : Hid (∀ j v, j < 9 + 1 → (f.cells)[j]? = some v → wr.cell? ⟨b, o + (j + 1), none⟩ = some v) := fun j v hj hv => hc (j + 1) v (by have := (List.getElem?_eq_some_iff.1 hv).1; simp at this; omega) (by rw [Bk.cells, List.getElem?_cons_succ, hf]; exact hv)
      clear hx hc hf
      generalize L[i] = X at *
      generalize hwr : wr = w5 at *
      clear hwr
      go_wp2_with fail
      go_loopw [4] (fun u wr2 => ∃ k : Nat, k ≤ X.n ∧ u = .int .i64 k ∧ Below w5.heap.size w5 wr2) (fun u _ => X.n - (intOf u).toNat)
      case atStart => exact ⟨0, Nat.zero_le _, rfl, Below.refl _ _⟩
      case round =>
        obtain ⟨k, hk, rfl, hbr2⟩ := hrel
        have cf2 := (hOr.below hbr2 hOr.lt).cell 4
        dsimp only [List.getElem?_cons_zero, List.getElem?_cons_succ] at cf2
        have s2 : wr.cell? ⟨b, o, none⟩ = some (.slice X.ad X.n X.cap) := (hbr2.cell (p := ⟨b, o, none⟩) hbl).trans s0
        by_cases hlt2 : k < X.n
        · obtain ⟨b', o', hbl', hix', d0, d1, d2, d3, d4, d5, d6, d7, d8⟩ := Lies.found (c := fun _ => f) (hq.below hbr2) X.cap hlt2
          have e1 : wr.cell? ⟨b, o + 1, none⟩ = some (.int .i64 f.at_) := (hbr2.cell (p := ⟨b, o + 1, none⟩) hbl).trans (HE.out 0 _ (by omega) rfl)
          have e2 : wr.cell? ⟨b, o + 2, none⟩ = some (.int .i64 f.kind) := (hbr2.cell (p := ⟨b, o + 2, none⟩) hbl).trans (HE.out 1 _ (by omega) rfl)
          have e3 : wr.cell? ⟨b, o + 3, none⟩ = some (.int .i64 f.seq) := (hbr2.cell (p := ⟨b, o + 3, none⟩) hbl).trans (HE.out 2 _ (by omega) rfl)
          have e4 : wr.cell? ⟨b, o + 4, none⟩ = some (.int .i64 f.base) := (hbr2.cell (p := ⟨b, o + 4, none⟩) hbl).trans (HE.out 3 _ (by omega) rfl)
          have e5 : wr.cell? ⟨b, o + 5, none⟩ = some (.int .i64 f.id) := (hbr2.cell (p := ⟨b, o + 5, none⟩) hbl).trans (HE.out 4 _ (by omega) rfl)
          have e6 : wr.cell? ⟨b, o + 6, none⟩ = some (.int .i64 f.site) := (hbr2.cell (p := ⟨b, o + 6, none⟩) hbl).trans (HE.out 5 _ (by omega) rfl)
          have e7 : wr.cell? ⟨b, o + 7, none⟩ = some (.int .i64 f.count) := (hbr2.cell (p := ⟨b, o + 7, none⟩) hbl).trans (HE.out 6 _ (by omega) rfl)
          have e8 : wr.cell? ⟨b, o + 8, none⟩ = some (.bool f.gone) := (hbr2.cell (p := ⟨b, o + 8, none⟩) hbl).trans (HE.out 7 _ (by omega) rfl)
          have e9 : wr.cell? ⟨b, o + 9, none⟩ = some (.string f.text) := (hbr2.cell (p := ⟨b, o + 9, none⟩) hbl).trans (HE.out 8 _ (by omega) rfl)
          go_wp2
          go_quiet (fail)
          go_wp2
          go_roundw
          case rel => exact ⟨k + 1, by omega, by go_num, below_drewN hbr2 _⟩
          case measure => simp [intOf]; omega
        · go_wp2
          go_roundw
          case rel => exact ⟨i + 1, by omega, by go_num, hbr.trans (hbr2.mono hbr.size)⟩
          case measure => simp [intOf]; omega
    · have c5 := hOr.cell 5
      dsimp only [List.getElem?_cons_zero, List.getElem?_cons_succ] at c5
      generalize hwr : wr = w5 at *
      clear hwr
      go_wp2_with fail
      go_loopw [5, 6] (fun u _ wr2 => u = .int .i64 0 ∧ wr2 = w5) (fun _ _ _ => 0)
      case atStart => exact ⟨rfl, rfl⟩
      case round =>
        obtain ⟨rfl, hw⟩ := hrel
        subst hw
        go_wp2_with fail
        refine (hR.out _ hbr).mono ?_
        rintro e w6 ⟨rfl, hb6⟩
        go_wp2_with fail
        go_ret
        exact ⟨rfl, hbr.trans (hb6.mono hbr.size)⟩
end Go.Proofs.Ytdjpkgaicmklmaa

/- The owner writes over what came out: (*parcellaw.own).finds, walked. -/
namespace Go.Proofs.Ytdjpkgaicmklmaa
open Go.RowKit

set_option maxRecDepth 100000 in
set_option maxHeartbeats 4000000 in
theorem finds_any (w : World) (B B1 go : Nat) (n : Int) (v1 v2 v3 v5 : Value) (ad : Option Addr) (N cap : Nat) (xs : List Value) (a4 : Option Addr) (c4 : Nat) (L : List Bk) (hO : Bx w go 41 [.int .i64 n, v1, v2, v3, .slice a4 L.length c4, v5])
    (hK : Books ShFd w B 64 114 9 a4 c4 L) (hfr : ∀ x, x ∈ L → ∀ b, x.ad = some b → b.block < B1) (hv : Vec w B1 64 9 ad N cap xs) (hN : N ≤ 1099511627776) (hL : L.length ≤ 1000) (hB : B ≤ go) (hB1 : B ≤ B1) (hn0 : 0 ≤ n) (hn1 : n ≤ 1000) (hBw : B ≤ w.heap.size) (hB1w : B1 ≤ w.heap.size) :
    Calls Try.prog 51 #[.pointer (some ⟨go, 0, none⟩), .slice ad N cap] w fun e w' => (∃ v, e = .returned v) ∧ (∃ a5 c5 L5, L5.length = L.length + 4 ∧ Bx w' go 41 [.int .i64 (n + 1), v1, v2, v3, .slice a5 L5.length c5, v5] ∧ Books ShFd w' B 64 114 9 a5 c5 L5) ∧ Below B w w' ∧ But3 go 64 114 w w' := by
  have o0 := hO.cell 0
  dsimp only [List.getElem?_cons_zero] at o0
  have hU : Upd go w w := Upd.refl go w
  go_enter Try.func51, Try.ntmps51
  go_wp2_with (refine wpList_bput (by rfl) _ _ 3 (by rfl) go 41 0 (by rfl) _ (.int .i64 _) (by rfl) hO (by kernel_rfl) (by simp) (by rfl) (by rfl) ?_; intro w1 hO1 hU1; replace hU := hU.trans hU1; clear o0; dsimp only [List.set] at hO1; have o0 := hO1.cell 0; dsimp only [List.getElem?_cons_zero] at o0)
  clear hU1
  obtain ⟨hM, hW2, hB2⟩ := one_box w1 64 ([.int .i64 (-(n + 1)), .int .i64 0, .int .i64 0, .int .i64 0, .int .i64 0, .int .i64 0, .int .i64 0, .bool false, .string ⟨#[]⟩] : List Value).toArray
  have z1 := hU.size
  have hU0 : Hid (Upd go w w1) := hU
  go_loopw [5] (fun u wr => ∃ (i : Nat) (ys : List Value), i ≤ N ∧ u = .int .i64 i ∧ Vec wr B1 64 9 ad N cap (rep i [.int .i64 (-(n + 1)), .int .i64 0, .int .i64 0, .int .i64 0, .int .i64 0, .int .i64 0, .int .i64 0, .bool false, .string ⟨#[]⟩] ++ ys) ∧ Upo (ad.map (·.block)) (w1.alloc (.cells ([.int .i64 (-(n + 1)), .int .i64 0, .int .i64 0, .int .i64 0, .int .i64 0, .int .i64 0, .int .i64 0, .bool false, .string ⟨#[]⟩] : List Value).toArray 64)) wr) (fun u _ => N - (intOf u).toNat)
  case atStart => exact ⟨0, xs, Nat.zero_le _, rfl, by rw [rep_zero, List.nil_append]; exact (hv.updo hU0.out (fun b hb e1 => hO.apart hv (by decide) (by rw [hb]; simp [e1]))).keep ((Below.refl _ _).alloc (Nat.le_refl _) _), Upo.refl _ _⟩
  case round =>
    obtain ⟨i, ys, hi, rfl, hvi, hup⟩ := hrel
    by_cases hlt : i < N
    · obtain ⟨g, hgd, hgB, hgl⟩ := hvi.form (by omega)
      have HG : Hid (ad = some ⟨g, 0, none⟩) := hgd
      have hgw : g < w1.heap.size := by
        obtain ⟨_, cur, hc⟩ := hv.typed g (by rw [hgd]; rfl)
        rw [z1]; exact (Array.getElem?_eq_some_iff.1 hc).1
      have hMr := hM.upo hup (by rw [hgd]; simp; omega)
      have hix := Own.idx (P := Try.prog) (t := 57) (m := 9) HG N cap (by kernel_rfl) (by kernel_rfl) hlt (i : Int) rfl
      clear hgd
      go_wp2_with (first
        | (refine wpList_bload (by rfl) _ _ (by rfl) w1.heap.size 64 (by rfl) _ hMr _ Try.underlying64 (by rfl) 9 (by rfl) (by kernel_rfl) ?_)
        | (refine wpList_vstore (by rfl) _ _ 64 (by rfl) B1 64 9 (by kernel_rfl) ad N cap [.int .i64 (-(n + 1)), .int .i64 0, .int .i64 0, .int .i64 0, .int .i64 0, .int .i64 0, .int .i64 0, .bool false, .string ⟨#[]⟩] ys i g HG hvi hlt (by rfl) (by intro v h; simp at h; rcases h with rfl | rfl | rfl | rfl | rfl | rfl | rfl | rfl | rfl <;> rfl) (by rfl) (by rfl) ?_; intro w5 hv5 hu5))
      have hup2 := hup.upd hu5 (by rw [HG.out]; rfl)
      go_roundw
      case rel => first | exact ⟨i + 1, by omega, by go_num, ⟨_, hv5⟩, hup2⟩ | exact ⟨i + 1, _, by omega, by go_num, hv5, hup2⟩
      case measure => simp [intOf]; omega
    · have hiN : i = N := by omega
      subst hiN
      have hy : ys = [] := by
        have := hvi.length
        rw [List.length_append, rep_length] at this
        exact List.eq_nil_of_length_eq_zero (by simp at this ⊢; omega)
      subst hy
      rw [List.append_nil] at hvi
      have hS := St.start (f := 4) hO hO1 hU0.out hK hfr hv hup hvi (by rfl) (by rfl) hB hB1 hBw (by decide) (by decide) (by decide)
      have hwz : B ≤ wr.heap.size := Nat.le_trans hBw hS.old.size
      have HLL : Hid (L.length = L.length) := rfl
      clear hO hO1 hU0 hK hfr hv hup hvi hM hW2 hB2 hU o0 z1 hi hlt 
      generalize w1.heap.size = gm at *
      generalize hWW : wr = W at *
      clear hWW
      obtain ⟨L0, hL0⟩ : ∃ L0, L0 = L.length := ⟨_, rfl⟩
      replace HLL : Hid (L.length = L0) := hL0.symm
      have HL0 : Hid (L0 = L.length) := hL0
      have hLb : L0 ≤ 1000 := by omega
      clear hL0
      go_wp2_with fail
      have hR : Reads1 ShFd W B 64 9 ⟨ad, i, cap, [.int .i64 (-(n + 1)), .int .i64 0, .int .i64 0, .int .i64 0, .int .i64 0, .int .i64 0, .int .i64 0, .bool false, .string ⟨#[]⟩]⟩ := ⟨rfl, hS.l.mono hB1, by simp only; omega, ⟨⟨-(n + 1), 0, 0, 0, 0, 0, 0, false, ⟨#[]⟩⟩, rfl⟩⟩
      apply merge
      · intro KEY
        have cf := hS.o.cell 4
        have cfa : ∀ o, (W.alloc o).cell? ⟨go, 4, none⟩ = some (.slice a4 L.length c4) := fun o => (hS.o.alloc o).cell 4
        have m0 := hS.k.cell 0
        have m1 := hS.k.cell 1
        have m2 := hS.k.cell 2
        have m3 := hS.k.cell 3
        have m4 := hS.k.cell 4
        have m5 := hS.k.cell 5
        have m6 := hS.k.cell 6
        have m7 := hS.k.cell 7
        have m8 := hS.k.cell 8
        dsimp only [List.getElem?_cons_zero, List.getElem?_cons_succ] at cf m0 m1 m2 m3 m4 m5 m6 m7 m8
        have HV : Hid (∀ wX, Below W.heap.size W wX → Vec wX B 114 (9 + 1) a4 L.length c4 (bcells L)) := fun wX hX => hS.b.keep hX
        go_region_law (refine step_pushk (by rfl) _ _ 38 (by rfl) B 114 (9 + 1) 104 (.agg #[.slice none 0 0, .int .i64 0, .int .i64 0, .int .i64 0, .int .i64 0, .int .i64 0, .int .i64 0, .int .i64 0, .bool false, .string ⟨#[]⟩]) Try.underlying38 (by kernel_rfl) rfl (by decide) a4 L.length c4 _ (by rfl) (HV.out _ ?_) _ _ (Bk.cells (⟨ad, i, cap, [.int .i64 (-(n + 1)), .int .i64 0, .int .i64 0, .int .i64 0, .int .i64 0, .int .i64 0, .int .i64 0, .bool false, .string ⟨#[]⟩]⟩ : Bk)) (by rfl) rfl ?_ ?_ ?_ ?_ ?_ ?_; (repeat (first | exact Below.refl _ _ | refine Below.drew ?_ | refine Below.alloc ?_ (by first | omega | (simp; done) | (simp; omega)) _)); (exact newc1 _ _ _); (intro v h; simp at h; rcases h with rfl | rfl | rfl | rfl | rfl | rfl | rfl | rfl | rfl | rfl <;> rfl); (omega); (omega); (simp; omega); intro a5 c5 w6 hv6 hk6; obtain ⟨hR6, hX6, hS6, hr6, hf6⟩ := St.six hk6 hS (by repeat (first | exact Below.refl _ _ | refine Below.drew ?_ | refine Below.alloc ?_ (by first | omega | (simp; done) | (simp; omega)) _)) hwz (by decide) hR)
        all_goals
          have hS7 := hS6.book hv6 hk6 hR6 rfl (by decide) (by decide) (by decide) (by simp) hX6
          have hz7 : B ≤ (w6.setCell ⟨go, 4, none⟩ (.slice a5 (L.length + 1) c5)).heap.size := by simp; exact Nat.le_trans hX6 hk6.size
          dsimp only [List.set] at hS7
          have hl7 : (L ++ [(⟨ad, i, cap, [.int .i64 (-(n + 1)), .int .i64 0, .int .i64 0, .int .i64 0, .int .i64 0, .int .i64 0, .int .i64 0, .bool false, .string ⟨#[]⟩]⟩ : Bk)]).length = L.length + 1 := by simp
          generalize (w6.setCell ⟨go, 4, none⟩ (.slice a5 (L.length + 1) c5)) = W1 at hS7 hz7 ⊢
          generalize L ++ [(⟨ad, i, cap, [.int .i64 (-(n + 1)), .int .i64 0, .int .i64 0, .int .i64 0, .int .i64 0, .int .i64 0, .int .i64 0, .bool false, .string ⟨#[]⟩]⟩ : Bk)] = L1 at hS7 hl7
          clear hv6 hk6 hr6 hf6 hS6 hR6 hX6
          revert a5 c5 W1 L1
          exact KEY.out
      intro a5 c5 W1 hz7 L1 hS7 hl7
      clear hS hwz hR
      rw [← hl7] at hS7 ⊢
      have hl9 := HLL.out
      replace HLL : Hid (L1.length = L0 + 1) := by show _ = _; omega
      have hL1 : L1.length ≤ 1004 := by have := HLL.out; omega
      clear hl7 hl9 hL
      generalize hLq : L1 = L at *
      clear hLq
      have hL : L.length ≤ 1004 := hL1
      clear hL1
      generalize hWq : W1 = W at *
      clear hWq
      generalize hAq : a5 = a4 at *
      clear hAq
      generalize hCq : c5 = c4 at *
      clear hCq
      have hS := hS7
      have hwz := hz7
      clear hS7 hz7
      go_wp2_with (first
        | (refine wpList_bload (by rfl) _ _ (by rfl) gm 64 (by rfl) _ hS.k _ Try.underlying64 (by rfl) 9 (by rfl) (by kernel_rfl) ?_)
        | (at_builtin; refine wpList_pushk (by rfl) _ _ 57 (by rfl) B1 64 9 80 (.agg #[.int .i64 0, .int .i64 0, .int .i64 0, .int .i64 0, .int .i64 0, .int .i64 0, .int .i64 0, .bool false, .string ⟨#[]⟩]) Try.underlying57 (by kernel_rfl) rfl (by decide) ad i cap _ (by rfl) (hS.l.keep ((Below.refl _ _).alloc (Nat.le_refl _) _)) _ 1 1 [.int .i64 (-(n + 1)), .int .i64 0, .int .i64 0, .int .i64 0, .int .i64 0, .int .i64 0, .int .i64 0, .bool false, .string ⟨#[]⟩] (by rfl) rfl ?_ ?_ ?_ ?_ ?_ ?_ ?_; exact newc1 _ (rep 1 [.int .i64 (-(n + 1)), .int .i64 0, .int .i64 0, .int .i64 0, .int .i64 0, .int .i64 0, .int .i64 0, .bool false, .string ⟨#[]⟩]) _; (intro v h; simp at h; rcases h with rfl | rfl | rfl | rfl | rfl | rfl | rfl | rfl | rfl <;> rfl); (omega); (omega); (omega); (have := hS.old.size; simp; omega); intro a6 c6 w7 hv7 hk7))
      rw [← rep_add] at hv7
      have hS8 := (hS.step ((Below.refl _ _).alloc (Nat.le_refl _) _) hwz).push hk7 (by decide) (by decide) (by simp; omega)
      have hR : Reads1 ShFd w7 B 64 9 ⟨a6, i + 1, c6, [.int .i64 (-(n + 1)), .int .i64 0, .int .i64 0, .int .i64 0, .int .i64 0, .int .i64 0, .int .i64 0, .bool false, .string ⟨#[]⟩]⟩ := ⟨rfl, hv7.mono hB1, by simp only; omega, ⟨⟨-(n + 1), 0, 0, 0, 0, 0, 0, false, ⟨#[]⟩⟩, rfl⟩⟩
      have hz8 : B ≤ w7.heap.size := by have := hk7.size; simp at this; omega
      clear hS hwz hv7 hk7
      have hS := hS8
      have hwz := hz8
      clear hS8 hz8
      generalize hWq : w7 = W at *
      clear hWq
      apply merge
      · intro KEY
        have cf := hS.o.cell 4
        have cfa : ∀ o, (W.alloc o).cell? ⟨go, 4, none⟩ = some (.slice a4 L.length c4) := fun o => (hS.o.alloc o).cell 4
        have m0 := hS.k.cell 0
        have m1 := hS.k.cell 1
        have m2 := hS.k.cell 2
        have m3 := hS.k.cell 3
        have m4 := hS.k.cell 4
        have m5 := hS.k.cell 5
        have m6 := hS.k.cell 6
        have m7 := hS.k.cell 7
        have m8 := hS.k.cell 8
        dsimp only [List.getElem?_cons_zero, List.getElem?_cons_succ] at cf m0 m1 m2 m3 m4 m5 m6 m7 m8
        have HV : Hid (∀ wX, Below W.heap.size W wX → Vec wX B 114 (9 + 1) a4 L.length c4 (bcells L)) := fun wX hX => hS.b.keep hX
        go_region_law (refine step_pushk (by rfl) _ _ 38 (by rfl) B 114 (9 + 1) 104 (.agg #[.slice none 0 0, .int .i64 0, .int .i64 0, .int .i64 0, .int .i64 0, .int .i64 0, .int .i64 0, .int .i64 0, .bool false, .string ⟨#[]⟩]) Try.underlying38 (by kernel_rfl) rfl (by decide) a4 L.length c4 _ (by rfl) (HV.out _ ?_) _ _ (Bk.cells (⟨a6, i + 1, c6, [.int .i64 (-(n + 1)), .int .i64 0, .int .i64 0, .int .i64 0, .int .i64 0, .int .i64 0, .int .i64 0, .bool false, .string ⟨#[]⟩]⟩ : Bk)) (by rfl) rfl ?_ ?_ ?_ ?_ ?_ ?_; (repeat (first | exact Below.refl _ _ | refine Below.drew ?_ | refine Below.alloc ?_ (by first | omega | (simp; done) | (simp; omega)) _)); (exact newc1 _ _ _); (intro v h; simp at h; rcases h with rfl | rfl | rfl | rfl | rfl | rfl | rfl | rfl | rfl | rfl <;> rfl); (omega); (omega); (simp; omega); intro a5 c5 w6 hv6 hk6; obtain ⟨hR6, hX6, hS6, hr6, hf6⟩ := St.six hk6 hS (by repeat (first | exact Below.refl _ _ | refine Below.drew ?_ | refine Below.alloc ?_ (by first | omega | (simp; done) | (simp; omega)) _)) hwz (by decide) hR)
        all_goals
          have hS7 := hS6.book hv6 hk6 hR6 rfl (by decide) (by decide) (by decide) (by simp) hX6
          have hz7 : B ≤ (w6.setCell ⟨go, 4, none⟩ (.slice a5 (L.length + 1) c5)).heap.size := by simp; exact Nat.le_trans hX6 hk6.size
          dsimp only [List.set] at hS7
          have hl7 : (L ++ [(⟨a6, i + 1, c6, [.int .i64 (-(n + 1)), .int .i64 0, .int .i64 0, .int .i64 0, .int .i64 0, .int .i64 0, .int .i64 0, .bool false, .string ⟨#[]⟩]⟩ : Bk)]).length = L.length + 1 := by simp
          generalize (w6.setCell ⟨go, 4, none⟩ (.slice a5 (L.length + 1) c5)) = W1 at hS7 hz7 ⊢
          generalize L ++ [(⟨a6, i + 1, c6, [.int .i64 (-(n + 1)), .int .i64 0, .int .i64 0, .int .i64 0, .int .i64 0, .int .i64 0, .int .i64 0, .bool false, .string ⟨#[]⟩]⟩ : Bk)] = L1 at hS7 hl7
          clear hv6 hk6 hr6 hf6 hS6 hR6 hX6
          revert a5 c5 W1 L1
          exact KEY.out
      intro a5 c5 W1 hz7 L1 hS7 hl7
      clear hS hwz hR
      rw [← hl7] at hS7 ⊢
      have hl9 := HLL.out
      replace HLL : Hid (L1.length = L0 + 2) := by show _ = _; omega
      have hL1 : L1.length ≤ 1004 := by have := HLL.out; omega
      clear hl7 hl9 hL
      generalize hLq : L1 = L at *
      clear hLq
      have hL : L.length ≤ 1004 := hL1
      clear hL1
      generalize hWq : W1 = W at *
      clear hWq
      generalize hAq : a5 = a4 at *
      clear hAq
      generalize hCq : c5 = c4 at *
      clear hCq
      have hS := hS7
      have hwz := hz7
      clear hS7 hz7
      go_wp2_with (first
        | (refine wpList_bload (by rfl) _ _ (by rfl) gm 64 (by rfl) _ hS.k _ Try.underlying64 (by rfl) 9 (by rfl) (by kernel_rfl) ?_)
        | (at_builtin; refine wpList_pushk (by rfl) _ _ 57 (by rfl) B1 64 9 80 (.agg #[.int .i64 0, .int .i64 0, .int .i64 0, .int .i64 0, .int .i64 0, .int .i64 0, .int .i64 0, .bool false, .string ⟨#[]⟩]) Try.underlying57 (by kernel_rfl) rfl (by decide) ad i cap _ (by rfl) (hS.l.keep ((Below.refl _ _).alloc (Nat.le_refl _) _)) _ 2 2 [.int .i64 (-(n + 1)), .int .i64 0, .int .i64 0, .int .i64 0, .int .i64 0, .int .i64 0, .int .i64 0, .bool false, .string ⟨#[]⟩] (by rfl) rfl ?_ ?_ ?_ ?_ ?_ ?_ ?_; exact newc1 _ (rep 2 [.int .i64 (-(n + 1)), .int .i64 0, .int .i64 0, .int .i64 0, .int .i64 0, .int .i64 0, .int .i64 0, .bool false, .string ⟨#[]⟩]) _; (intro v h; simp at h; rcases h with rfl | rfl | rfl | rfl | rfl | rfl | rfl | rfl | rfl <;> rfl); (omega); (omega); (omega); (have := hS.old.size; simp; omega); intro a6 c6 w7 hv7 hk7))
      rw [← rep_add] at hv7
      have hS8 := (hS.step ((Below.refl _ _).alloc (Nat.le_refl _) _) hwz).push hk7 (by decide) (by decide) (by simp; omega)
      have hR : Reads1 ShFd w7 B 64 9 ⟨a6, i + 2, c6, [.int .i64 (-(n + 1)), .int .i64 0, .int .i64 0, .int .i64 0, .int .i64 0, .int .i64 0, .int .i64 0, .bool false, .string ⟨#[]⟩]⟩ := ⟨rfl, hv7.mono hB1, by simp only; omega, ⟨⟨-(n + 1), 0, 0, 0, 0, 0, 0, false, ⟨#[]⟩⟩, rfl⟩⟩
      have hz8 : B ≤ w7.heap.size := by have := hk7.size; simp at this; omega
      clear hS hwz hv7 hk7
      have hS := hS8
      have hwz := hz8
      clear hS8 hz8
      generalize hWq : w7 = W at *
      clear hWq
      apply merge
      · intro KEY
        have cf := hS.o.cell 4
        have cfa : ∀ o, (W.alloc o).cell? ⟨go, 4, none⟩ = some (.slice a4 L.length c4) := fun o => (hS.o.alloc o).cell 4
        have m0 := hS.k.cell 0
        have m1 := hS.k.cell 1
        have m2 := hS.k.cell 2
        have m3 := hS.k.cell 3
        have m4 := hS.k.cell 4
        have m5 := hS.k.cell 5
        have m6 := hS.k.cell 6
        have m7 := hS.k.cell 7
        have m8 := hS.k.cell 8
        dsimp only [List.getElem?_cons_zero, List.getElem?_cons_succ] at cf m0 m1 m2 m3 m4 m5 m6 m7 m8
        have HV : Hid (∀ wX, Below W.heap.size W wX → Vec wX B 114 (9 + 1) a4 L.length c4 (bcells L)) := fun wX hX => hS.b.keep hX
        go_region_law (refine step_pushk (by rfl) _ _ 38 (by rfl) B 114 (9 + 1) 104 (.agg #[.slice none 0 0, .int .i64 0, .int .i64 0, .int .i64 0, .int .i64 0, .int .i64 0, .int .i64 0, .int .i64 0, .bool false, .string ⟨#[]⟩]) Try.underlying38 (by kernel_rfl) rfl (by decide) a4 L.length c4 _ (by rfl) (HV.out _ ?_) _ _ (Bk.cells (⟨a6, i + 2, c6, [.int .i64 (-(n + 1)), .int .i64 0, .int .i64 0, .int .i64 0, .int .i64 0, .int .i64 0, .int .i64 0, .bool false, .string ⟨#[]⟩]⟩ : Bk)) (by rfl) rfl ?_ ?_ ?_ ?_ ?_ ?_; (repeat (first | exact Below.refl _ _ | refine Below.drew ?_ | refine Below.alloc ?_ (by first | omega | (simp; done) | (simp; omega)) _)); (exact newc1 _ _ _); (intro v h; simp at h; rcases h with rfl | rfl | rfl | rfl | rfl | rfl | rfl | rfl | rfl | rfl <;> rfl); (omega); (omega); (simp; omega); intro a5 c5 w6 hv6 hk6; obtain ⟨hR6, hX6, hS6, hr6, hf6⟩ := St.six hk6 hS (by repeat (first | exact Below.refl _ _ | refine Below.drew ?_ | refine Below.alloc ?_ (by first | omega | (simp; done) | (simp; omega)) _)) hwz (by decide) hR)
        all_goals
          have hS7 := hS6.book hv6 hk6 hR6 rfl (by decide) (by decide) (by decide) (by simp) hX6
          have hz7 : B ≤ (w6.setCell ⟨go, 4, none⟩ (.slice a5 (L.length + 1) c5)).heap.size := by simp; exact Nat.le_trans hX6 hk6.size
          dsimp only [List.set] at hS7
          have hl7 : (L ++ [(⟨a6, i + 2, c6, [.int .i64 (-(n + 1)), .int .i64 0, .int .i64 0, .int .i64 0, .int .i64 0, .int .i64 0, .int .i64 0, .bool false, .string ⟨#[]⟩]⟩ : Bk)]).length = L.length + 1 := by simp
          generalize (w6.setCell ⟨go, 4, none⟩ (.slice a5 (L.length + 1) c5)) = W1 at hS7 hz7 ⊢
          generalize L ++ [(⟨a6, i + 2, c6, [.int .i64 (-(n + 1)), .int .i64 0, .int .i64 0, .int .i64 0, .int .i64 0, .int .i64 0, .int .i64 0, .bool false, .string ⟨#[]⟩]⟩ : Bk)] = L1 at hS7 hl7
          clear hv6 hk6 hr6 hf6 hS6 hR6 hX6
          revert a5 c5 W1 L1
          exact KEY.out
      intro a5 c5 W1 hz7 L1 hS7 hl7
      clear hS hwz hR
      rw [← hl7] at hS7 ⊢
      have hl9 := HLL.out
      replace HLL : Hid (L1.length = L0 + 3) := by show _ = _; omega
      have hL1 : L1.length ≤ 1004 := by have := HLL.out; omega
      clear hl7 hl9 hL
      generalize hLq : L1 = L at *
      clear hLq
      have hL : L.length ≤ 1004 := hL1
      clear hL1
      generalize hWq : W1 = W at *
      clear hWq
      generalize hAq : a5 = a4 at *
      clear hAq
      generalize hCq : c5 = c4 at *
      clear hCq
      have hS := hS7
      have hwz := hz7
      clear hS7 hz7
      go_wp2_with (first
        | (refine wpList_bload (by rfl) _ _ (by rfl) gm 64 (by rfl) _ hS.k _ Try.underlying64 (by rfl) 9 (by rfl) (by kernel_rfl) ?_)
        | (at_builtin; refine wpList_pushk (by rfl) _ _ 57 (by rfl) B1 64 9 80 (.agg #[.int .i64 0, .int .i64 0, .int .i64 0, .int .i64 0, .int .i64 0, .int .i64 0, .int .i64 0, .bool false, .string ⟨#[]⟩]) Try.underlying57 (by kernel_rfl) rfl (by decide) ad i cap _ (by rfl) (hS.l.keep ((Below.refl _ _).alloc (Nat.le_refl _) _)) _ 3 3 [.int .i64 (-(n + 1)), .int .i64 0, .int .i64 0, .int .i64 0, .int .i64 0, .int .i64 0, .int .i64 0, .bool false, .string ⟨#[]⟩] (by rfl) rfl ?_ ?_ ?_ ?_ ?_ ?_ ?_; exact newc1 _ (rep 3 [.int .i64 (-(n + 1)), .int .i64 0, .int .i64 0, .int .i64 0, .int .i64 0, .int .i64 0, .int .i64 0, .bool false, .string ⟨#[]⟩]) _; (intro v h; simp at h; rcases h with rfl | rfl | rfl | rfl | rfl | rfl | rfl | rfl | rfl <;> rfl); (omega); (omega); (omega); (have := hS.old.size; simp; omega); intro a6 c6 w7 hv7 hk7))
      rw [← rep_add] at hv7
      have hS8 := (hS.step ((Below.refl _ _).alloc (Nat.le_refl _) _) hwz).push hk7 (by decide) (by decide) (by simp; omega)
      have hR : Reads1 ShFd w7 B 64 9 ⟨a6, i + 3, c6, [.int .i64 (-(n + 1)), .int .i64 0, .int .i64 0, .int .i64 0, .int .i64 0, .int .i64 0, .int .i64 0, .bool false, .string ⟨#[]⟩]⟩ := ⟨rfl, hv7.mono hB1, by simp only; omega, ⟨⟨-(n + 1), 0, 0, 0, 0, 0, 0, false, ⟨#[]⟩⟩, rfl⟩⟩
      have hz8 : B ≤ w7.heap.size := by have := hk7.size; simp at this; omega
      clear hS hwz hv7 hk7
      have hS := hS8
      have hwz := hz8
      clear hS8 hz8
      generalize hWq : w7 = W at *
      clear hWq
      apply merge
      · intro KEY
        have cf := hS.o.cell 4
        have cfa : ∀ o, (W.alloc o).cell? ⟨go, 4, none⟩ = some (.slice a4 L.length c4) := fun o => (hS.o.alloc o).cell 4
        have m0 := hS.k.cell 0
        have m1 := hS.k.cell 1
        have m2 := hS.k.cell 2
        have m3 := hS.k.cell 3
        have m4 := hS.k.cell 4
        have m5 := hS.k.cell 5
        have m6 := hS.k.cell 6
        have m7 := hS.k.cell 7
        have m8 := hS.k.cell 8
        dsimp only [List.getElem?_cons_zero, List.getElem?_cons_succ] at cf m0 m1 m2 m3 m4 m5 m6 m7 m8
        have HV : Hid (∀ wX, Below W.heap.size W wX → Vec wX B 114 (9 + 1) a4 L.length c4 (bcells L)) := fun wX hX => hS.b.keep hX
        go_region_law (refine step_pushk (by rfl) _ _ 38 (by rfl) B 114 (9 + 1) 104 (.agg #[.slice none 0 0, .int .i64 0, .int .i64 0, .int .i64 0, .int .i64 0, .int .i64 0, .int .i64 0, .int .i64 0, .bool false, .string ⟨#[]⟩]) Try.underlying38 (by kernel_rfl) rfl (by decide) a4 L.length c4 _ (by rfl) (HV.out _ ?_) _ _ (Bk.cells (⟨a6, i + 3, c6, [.int .i64 (-(n + 1)), .int .i64 0, .int .i64 0, .int .i64 0, .int .i64 0, .int .i64 0, .int .i64 0, .bool false, .string ⟨#[]⟩]⟩ : Bk)) (by rfl) rfl ?_ ?_ ?_ ?_ ?_ ?_; (repeat (first | exact Below.refl _ _ | refine Below.drew ?_ | refine Below.alloc ?_ (by first | omega | (simp; done) | (simp; omega)) _)); (exact newc1 _ _ _); (intro v h; simp at h; rcases h with rfl | rfl | rfl | rfl | rfl | rfl | rfl | rfl | rfl | rfl <;> rfl); (omega); (omega); (simp; omega); intro a5 c5 w6 hv6 hk6; obtain ⟨hR6, hX6, hS6, hr6, hf6⟩ := St.six hk6 hS (by repeat (first | exact Below.refl _ _ | refine Below.drew ?_ | refine Below.alloc ?_ (by first | omega | (simp; done) | (simp; omega)) _)) hwz (by decide) hR)
        all_goals
          have hS7 := hS6.book hv6 hk6 hR6 rfl (by decide) (by decide) (by decide) (by simp) hX6
          have hz7 : B ≤ (w6.setCell ⟨go, 4, none⟩ (.slice a5 (L.length + 1) c5)).heap.size := by simp; exact Nat.le_trans hX6 hk6.size
          dsimp only [List.set] at hS7
          have hl7 : (L ++ [(⟨a6, i + 3, c6, [.int .i64 (-(n + 1)), .int .i64 0, .int .i64 0, .int .i64 0, .int .i64 0, .int .i64 0, .int .i64 0, .bool false, .string ⟨#[]⟩]⟩ : Bk)]).length = L.length + 1 := by simp
          generalize (w6.setCell ⟨go, 4, none⟩ (.slice a5 (L.length + 1) c5)) = W1 at hS7 hz7 ⊢
          generalize L ++ [(⟨a6, i + 3, c6, [.int .i64 (-(n + 1)), .int .i64 0, .int .i64 0, .int .i64 0, .int .i64 0, .int .i64 0, .int .i64 0, .bool false, .string ⟨#[]⟩]⟩ : Bk)] = L1 at hS7 hl7
          clear hv6 hk6 hr6 hf6 hS6 hR6 hX6
          revert a5 c5 W1 L1
          exact KEY.out
      intro a5 c5 W1 hz7 L1 hS7 hl7
      clear hS hwz hR
      rw [← hl7] at hS7 ⊢
      have hl9 := HLL.out
      replace HLL : Hid (L1.length = L0 + 4) := by show _ = _; omega
      have hL1 : L1.length ≤ 1004 := by have := HLL.out; omega
      clear hl7 hl9 hL
      generalize hLq : L1 = L at *
      clear hLq
      have hL : L.length ≤ 1004 := hL1
      clear hL1
      generalize hWq : W1 = W at *
      clear hWq
      generalize hAq : a5 = a4 at *
      clear hAq
      generalize hCq : c5 = c4 at *
      clear hCq
      have hS := hS7
      have hwz := hz7
      clear hS7 hz7
      exact bodyPost_end (results_none rfl _ _ _) rfl ⟨⟨_, rfl⟩, ⟨_, _, L, by rw [HLL.out, HL0.out], hS.o, ⟨hS.b, fun x hx => (hS.each x hx).1⟩⟩, hS.old, hS.but⟩
end Go.Proofs.Ytdjpkgaicmklmaa

/- Salvages: called with any bytes, up to very many, it answers true. -/
namespace Go.Proofs.Ytdjpkgaicmklmaa
open Go.RowKit

/-- The owner's variable and his books of what was found. -/
structure OwnF (w : World) (B go : Nat) (n : Int) (a4 : Option Addr) (c4 : Nat) (L : List Bk) : Prop where
  o : Bx w go 41 [.int .i64 n, .slice none 0 0, .slice none 0 0, .slice none 0 0, .slice a4 L.length c4, .slice none 0 0]
  b : Books ShFd w B 64 114 9 a4 c4 L
theorem OwnF.keep {w w' : World} {B go : Nat} {n : Int} {a4 : Option Addr} {c4 : Nat} {L : List Bk} (h : OwnF w B go n a4 c4 L) (hb : Below w.heap.size w w') : OwnF w' B go n a4 c4 L := ⟨h.o.below hb h.o.lt, h.b.keep hb⟩
theorem OwnF.old {w : World} {B go : Nat} {n : Int} {a4 : Option Addr} {c4 : Nat} {L : List Bk} (h : OwnF w B go n a4 c4 L) : ∀ x, x ∈ L → ∀ b, x.ad = some b → b.block < w.heap.size := by
  intro x hx b hb
  obtain ⟨_, cur, hc⟩ := (h.b.each x hx).vec.typed b.block (by rw [hb]; rfl)
  exact (Array.getElem?_eq_some_iff.1 hc).1

set_option maxRecDepth 100000 in
set_option maxHeartbeats 4000000 in
theorem salvaged_any (s : List UInt8) (w : World) (B go : Nat) (n : Int) (a4 : Option Addr) (c4 : Nat) (L : List Bk) (hO : OwnF w B go n a4 c4 L) (hs : s.length ≤ 1099511627776) (hL : L.length ≤ 900) (hB : B ≤ go) (hn0 : 0 ≤ n) (hn1 : n ≤ 900) (hBw : B ≤ w.heap.size) :
    Calls Try.prog 22 #[.string (str s), .pointer (some ⟨go, 0, none⟩)] w fun e w' => (e = .returned (.bool true) ∧ ∃ a5 c5 L5, L5.length = L.length + 4 ∧ OwnF w' B go (n + 1) a5 c5 L5) ∧ Below B w w' := by
  have HO : Hid (OwnF w B go n a4 c4 L) := hO
  have HS : Hid (s.length ≤ 1099511627776) := hs
  clear hO hs
  go_enter Try.func22, Try.ntmps22
  go_wp2_with fail
  refine (psalvage_any s _ HS.out).mono ?_
  rintro e w1 ⟨ad, cap, N, rfl, h1⟩
  have H1 : Hid (N = (salv s).length ∧ Vec w1 w.heap.size 64 9 ad N cap (fcells (salv s)) ∧ Below w.heap.size w w1) := h1
  clear h1
  go_wp2_with fail
  refine (rsalvage_any s _ HS.out).mono ?_
  rintro e w2 ⟨ad2, cap2, N2, rfl, h2⟩
  obtain rfl : N = N2 := by rw [H1.out.1, h2.1]
  have H2 : Hid (N = (salv s).length ∧ Vec w2 w1.heap.size 64 9 ad2 N cap2 (fcells (salv s)) ∧ Below w1.heap.size w1 w2) := h2
  clear h2
  have hNb : N ≤ 1099511627776 := by have := salv_length s; have := HS.out; have := H1.out.1; omega
  go_wp2_with fail
  refine (sameFound_any N (fun i => (salv s).getD i fd0) ad ad2 cap cap2 _ (fvec_lies (H1.out.2.1.keep H2.out.2.2) H1.out.1) (fvec_lies H2.out.2.1 H1.out.1) (by omega)).mono ?_
  rintro e w3 ⟨rfl, hb3⟩
  have H3 : Hid (Below w2.heap.size w2 w3) := hb3
  clear hb3
  have H13 : Hid (Below w1.heap.size w1 w3) := H2.out.2.2.trans (H3.out.mono H2.out.2.2.size)
  have HW : Hid (Below w.heap.size w w3) := H1.out.2.2.trans (H13.out.mono H1.out.2.2.size)
  go_wp2_with fail
  refine (finds_any _ B w.heap.size go n _ _ _ _ ad N cap _ a4 c4 L (HO.out.keep HW.out).o (HO.out.keep HW.out).b HO.out.old (H1.out.2.1.keep H13.out) hNb (by omega) hB hBw hn0 (by omega) (Nat.le_trans hBw HW.out.size) HW.out.size).mono ?_
  rintro e w4 ⟨⟨v, rfl⟩, ⟨a5, c5, L5, hL5, h5⟩, hb4, -⟩
  have H5 : Hid (Bx w4 go 41 [.int .i64 (n + 1), .slice none 0 0, .slice none 0 0, .slice none 0 0, .slice a5 L5.length c5, .slice none 0 0] ∧ Books ShFd w4 B 64 114 9 a5 c5 L5) := h5
  have HL5 : Hid (L5.length = L.length + 4) := hL5
  have HB5 : Hid (Below B w w4) := (HW.out.mono hBw).trans hb4
  clear h5 hL5 hb4
  go_wp2_with fail
  refine (kept_any _ B go (n + 1) _ _ _ a5 c5 L5 H5.out.1 H5.out.2 (by have := HL5.out; omega) (fun w' hw' => (rkept_nil w' go (n + 1) _ _ (H5.out.1.below hw' H5.out.1.lt)).mono fun e w'' h => ⟨h.1, by rw [h.2]; exact Below.refl _ _⟩)).mono ?_
  rintro e w6 ⟨rfl, hb6⟩
  have H6 : Hid (Below w4.heap.size w4 w6) := hb6
  clear hb6
  go_wp2_with fail
  go_ret
  exact ⟨⟨rfl, a5, c5, L5, HL5.out, ⟨H5.out.1.below H6.out H5.out.1.lt, H5.out.2.keep H6.out⟩⟩, HB5.out.trans (H6.out.mono (Nat.le_trans hBw HB5.out.size))⟩

set_option maxRecDepth 100000 in
set_option maxHeartbeats 4000000 in
theorem salvages_any (s : List UInt8) (w : World) (hs : s.length ≤ 1099511627776) :
    Calls Try.prog 7 #[.string (str s)] w fun e w' => e = .returned (.bool true) ∧ Below w.heap.size w w' := by
  obtain ⟨hO, hW, hB⟩ := one_box w 41 #[.int .i64 0, .slice none 0 0, .slice none 0 0, .slice none 0 0, .slice none 0 0, .slice none 0 0]
  have h0 : OwnF (w.alloc (.cells #[.int .i64 0, .slice none 0 0, .slice none 0 0, .slice none 0 0, .slice none 0 0, .slice none 0 0] 41)) w.heap.size w.heap.size 0 none 0 [] := ⟨hO, Books.nil _ _ _ _ _⟩
  have H0 : Hid (OwnF (w.alloc (.cells #[.int .i64 0, .slice none 0 0, .slice none 0 0, .slice none 0 0, .slice none 0 0, .slice none 0 0] 41)) w.heap.size w.heap.size 0 none 0 []) := h0
  clear h0 hO
  go_enter Try.func7, Try.ntmps7
  go_wp2_with fail
  refine (salvaged_any s _ w.heap.size w.heap.size 0 none 0 [] H0.out hs (by simp) (Nat.le_refl _) (by omega) (by omega) hB.size).mono ?_
  rintro e w1 ⟨⟨rfl, a5, c5, L5, hL5, hO5⟩, hb1⟩
  have hb2 := hB.trans hb1
  have hL6 : L5.length ≤ 900 := by simp at hL5; omega
  clear hL5
  go_wp2_with fail
  refine (salvaged_any s _ w.heap.size w.heap.size (0 + 1) a5 c5 L5 hO5 hs hL6 (Nat.le_refl _) (by omega) (by omega) hb2.size).mono ?_
  rintro e w2 ⟨⟨rfl, -⟩, hb3⟩
  go_wp2_with fail
  go_ret
  exact ⟨rfl, hb2.trans hb3⟩
end Go.Proofs.Ytdjpkgaicmklmaa

/- A replica that comes in, opened: its reading as data gives its rows. -/
namespace Go.Proofs.Ytdjpkgaicmklmaa
open Go.ChangeShapes Go.WideShapes Go.ChangeAt Go.RowKit Go.Joins Go.Deep

section
variable {H : Type} {enc : TypeId × Value → H} {w : World} {base : Nat} {spare : Nat → Bool} {held : Bool}

theorem Try.cellsInt : Try.prog.cellsOf 3 = 1 := by kernel_rfl
theorem Try.cellsBool : Try.prog.cellsOf 4 = 1 := by kernel_rfl
theorem Try.cellsString : Try.prog.cellsOf 9 = 1 := by kernel_rfl
theorem Try.cellsClock : Try.prog.cellsOf 67 = 2 := by kernel_rfl
theorem Try.cellsCard : Try.prog.cellsOf 69 = 5 := by kernel_rfl
theorem Try.cellsEdit : Try.prog.cellsOf 71 = 2 := by kernel_rfl

theorem list2 {α : Type} {l : List α} (h : l.length = 2) : ∃ a b, l = [a, b] := by
  match l, h with
  | [a, b], _ => exact ⟨a, b, rfl⟩
theorem list5 {α : Type} {l : List α} (h : l.length = 5) : ∃ a b c d e, l = [a, b, c, d, e] := by
  match l, h with
  | [a, b, c, d, e], _ => exact ⟨a, b, c, d, e, rfl⟩

theorem read_clock {n : Nat} {cs : List Value} {x : DataW H × List MemPlace} (h : DataW.trod enc Try.prog w base spare held n 67 cs = some x) : ∃ c : Ck, cs = c.cells := by
  obtain ⟨xs, k, _, _, hl, hlen, hf⟩ := DataW.trod_struct Try.underlying67 h
  rw [Try.cellsClock] at hl
  obtain ⟨c0, c1, rfl⟩ := list2 hl
  obtain ⟨y0, y1, rfl⟩ := list2 (show xs.length = 2 from hlen)
  have g0 := hf 0 _ rfl
  have g1 := hf 1 _ rfl
  simp [Try.cellsInt] at g0 g1
  obtain ⟨n0, e0, _⟩ := DataW.trod_int Try.underlying3 g0
  obtain ⟨n1, e1, _⟩ := DataW.trod_int Try.underlying3 g1
  simp at e0 e1
  subst e0 e1
  exact ⟨⟨n0, n1⟩, rfl⟩

theorem read_edit {n : Nat} {cs : List Value} {x : DataW H × List MemPlace} (h : DataW.trod enc Try.prog w base spare held n 71 cs = some x) : ∃ c : Ed, cs = c.cells := by
  obtain ⟨xs, k, _, _, hl, hlen, hf⟩ := DataW.trod_struct Try.underlying71 h
  rw [Try.cellsEdit] at hl
  obtain ⟨c0, c1, rfl⟩ := list2 hl
  obtain ⟨y0, y1, rfl⟩ := list2 (show xs.length = 2 from hlen)
  have g0 := hf 0 _ rfl
  have g1 := hf 1 _ rfl
  simp [Try.cellsInt, Try.cellsString] at g0 g1
  obtain ⟨n0, e0, _⟩ := DataW.trod_int Try.underlying3 g0
  obtain ⟨n1, e1, _⟩ := DataW.trod_string Try.underlying9 g1
  simp at e0 e1
  subst e0 e1
  exact ⟨⟨n0, n1⟩, rfl⟩

theorem read_card {n : Nat} {cs : List Value} {x : DataW H × List MemPlace} (h : DataW.trod enc Try.prog w base spare held n 69 cs = some x) : ∃ c : Cd, cs = c.cells := by
  obtain ⟨xs, k, _, _, hl, hlen, hf⟩ := DataW.trod_struct Try.underlying69 h
  rw [Try.cellsCard] at hl
  obtain ⟨c0, c1, c2, c3, c4, rfl⟩ := list5 hl
  obtain ⟨y0, y1, y2, y3, y4, rfl⟩ := list5 (show xs.length = 5 from hlen)
  have g0 := hf 0 _ rfl
  have g1 := hf 1 _ rfl
  have g2 := hf 2 _ rfl
  have g3 := hf 3 _ rfl
  have g4 := hf 4 _ rfl
  simp [Try.cellsInt, Try.cellsString, Try.cellsBool] at g0 g1 g2 g3 g4
  obtain ⟨n0, e0, _⟩ := DataW.trod_int Try.underlying3 g0
  obtain ⟨n1, e1, _⟩ := DataW.trod_int Try.underlying3 g1
  obtain ⟨n2, e2, _⟩ := DataW.trod_int Try.underlying3 g2
  obtain ⟨n3, e3, _⟩ := DataW.trod_bool Try.underlying4 g3
  obtain ⟨n4, e4, _⟩ := DataW.trod_string Try.underlying9 g4
  simp at e0 e1 e2 e3 e4
  subst e0 e1 e2 e3 e4
  exact ⟨⟨n0, n1, n2, n3, n4⟩, rfl⟩

theorem addr_plus (b off j : Nat) : (⟨b, off, none⟩ : Addr).add j = ⟨b, off + j, none⟩ := by
  unfold Addr.add
  by_cases h : j = 0 <;> simp [h]

/-- A slice of records that comes in. -/
theorem read_rows {α : Type} [Inhabited α] (cells : α → List Value) (m : Nat) {t e : TypeId} {fuel : Nat} {v : Value} {x : DataW H × List MemPlace} (ht : Try.prog.underlying t = some (.slice e)) (hc : Try.prog.cellsOf e = m) (h0 : 0 < m)
    (hr : ∀ (n : Nat) (cs : List Value) (y : DataW H × List MemPlace), DataW.trod enc Try.prog w 0 (fun _ => true) held n e cs = some y → ∃ c : α, cs = cells c)
    (h : DataW.trod enc Try.prog w 0 (fun _ => true) held fuel t [v] = some x) :
    ∃ (a : Option Addr) (n k : Nat) (f : Nat → α), v = .slice a n k ∧ Lies w a n m (fun i => cells (f i)) ∧ n ≤ k ∧ ((x.1 = .nil ∧ n = 0) ∨ ∃ el sp : List (DataW H), x.1 = .slice el sp ∧ el.length + sp.length = k) := by
  rcases open_slice ht h with ⟨hcs, hx⟩ | ⟨a, len, cap, mm, n, D, Pl, hcs, _, hl, hm, hmm, hx, hel⟩
  · simp at hcs
    exact ⟨none, 0, 0, fun _ => default, hcs, Or.inl rfl, Nat.le_refl _, Or.inl ⟨by rw [hx], rfl⟩⟩
  · simp at hcs
    simp at hmm
    subst hmm
    rw [hc] at hel
    have hall : ∀ i, i < mm → ∃ c : α, w.cells? 0 (a.add (i * m)) m = some (cells c) := fun i hi => by
      obtain ⟨cs', h1, h2⟩ := hel i hi
      obtain ⟨c, rfl⟩ := hr _ _ _ h2
      exact ⟨c, h1⟩
    obtain ⟨f, hf⟩ := choose_lt (α := α) (p := fun i c => w.cells? 0 (a.add (i * m)) m = some (cells c)) hall
    refine ⟨some a, len, mm, f, hcs, ?_, hl, Or.inr ⟨_, _, by rw [hx], by simp; omega⟩⟩
    by_cases hz : len = 0
    · exact Or.inl hz
    · obtain ⟨b, off, spot⟩ := a
      obtain ⟨_, hlen0, hc0⟩ := World.cells?_some (hf 0 (by omega))
      have hcell : w.cell? ((Addr.add ⟨b, off, spot⟩ (0 * m)).add 0) = (cells (f 0))[0]? := hc0 0 h0
      rw [List.getElem?_eq_getElem (by omega)] at hcell
      have hspot : spot = none := by simpa [Addr.add] using World.cell?_spot hcell
      subst hspot
      have hblk : b < w.heap.size := by
        simp only [Nat.zero_mul, addr_plus, Nat.add_zero] at hcell
        unfold World.cell? at hcell
        rcases Nat.lt_or_ge b w.heap.size with h | h
        · exact h
        · simp [Array.getElem?_eq_none h] at hcell
      refine Or.inr ⟨b, off, rfl, hblk, fun i hi j v hj hv => ?_⟩
      obtain ⟨_, _, hci⟩ := World.cells?_some (hf i (by omega))
      have := hci j hj
      rw [addr_plus, addr_plus] at this
      rw [this, hv]

theorem Try.bytesClock : Try.prog.bytesOf 67 = 16 := by kernel_rfl
theorem Try.bytesCard : Try.prog.bytesOf 69 = 48 := by kernel_rfl
theorem Try.bytesEdit : Try.prog.bytesOf 71 = 24 := by kernel_rfl

/-- The bytes of a slice that came in. -/
theorem weigh {t e : TypeId} {d : DataW H} {n k b : Nat} (ht : Try.prog.underlying t = some (.slice e)) (hb : Try.prog.bytesOf e = b) (hn : n ≤ k)
    (hx : (d = .nil ∧ n = 0) ∨ ∃ el sp : List (DataW H), d = .slice el sp ∧ el.length + sp.length = k) (hw : ∀ q, q ∈ d.weights Try.prog t → q ≤ reachBytes) : n * b ≤ reachBytes := by
  rcases hx with ⟨_, rfl⟩ | ⟨el, sp, rfl, rfl⟩
  · simp
  · have := hw ((el.length + sp.length) * Try.prog.bytesOf e) (by simp [DataW.weights, ht])
    rw [hb] at this
    exact Nat.le_trans (Nat.mul_le_mul_right _ hn) this

set_option maxRecDepth 100000 in
/-- A replica that comes in. -/
theorem open_rep {r : Reach} {b0 : Nat} {v : Value} {d : DataW H} {p : List MemPlace} (hv : Value.okWide Try.prog w r b0 26 v)
    (h : DataW.Trod enc Try.prog w 0 (fun _ => true) held 26 v d p) (hw : ∀ q, q ∈ d.weights Try.prog 26 → q ≤ reachBytes) :
    ∃ (R : Rep) (a1 a2 a3 : Option Addr) (k1 k2 k3 : Nat), v = repV R a1 a2 a3 k1 k2 k3 ∧ Has w R a1 a2 a3 := by
  obtain ⟨v0, v1, v2, y0, y1, y2, n, rfl, rfl, _, h0, h1, h2⟩ := open_agg3 Try.underlying26 (by kernel_rfl) (by kernel_rfl) hv h
  have : Inhabited Ck := ⟨⟨0, 0⟩⟩
  have : Inhabited Cd := ⟨⟨0, 0, 0, false, ⟨#[]⟩⟩⟩
  have : Inhabited Ed := ⟨⟨0, ⟨#[]⟩⟩⟩
  obtain ⟨a1, n1, k1, c, rfl, l1, m1, x1⟩ := read_rows Ck.cells 2 Try.underlying22 Try.cellsClock (by omega) (fun _ _ _ hh => read_clock hh) h0
  obtain ⟨a2, n2, k2, dd, rfl, l2, m2, x2⟩ := read_rows Cd.cells 5 Try.underlying23 Try.cellsCard (by omega) (fun _ _ _ hh => read_card hh) h1
  obtain ⟨a3, n3, k3, e, rfl, l3, m3, x3⟩ := read_rows Ed.cells 2 Try.underlying24 Try.cellsEdit (by omega) (fun _ _ _ hh => read_edit hh) h2
  have hw' : ∀ q, q ∈ DataW.weightsEach Try.prog [22, 23, 24] [y0.1, y1.1, y2.1] → q ≤ reachBytes := fun q hq => hw q (by
    simp only [DataW.weights, Try.underlying26]; exact hq)
  simp only [DataW.weightsEach, List.mem_append] at hw'
  have z1 := weigh Try.underlying22 Try.bytesClock m1 x1 (fun q hq => hw' q (Or.inl hq))
  have z2 := weigh Try.underlying23 Try.bytesCard m2 x2 (fun q hq => hw' q (Or.inr (Or.inl hq)))
  have z3 := weigh Try.underlying24 Try.bytesEdit m3 x3 (fun q hq => hw' q (Or.inr (Or.inr (Or.inl hq))))
  unfold reachBytes at z1 z2 z3
  exact ⟨⟨n1, n2, n3, c, dd, e⟩, a1, a2, a3, k1, k2, k3, rfl, l1, l2, l3, by show n1 ≤ _; omega, by show n2 ≤ _; omega, by show n3 ≤ _; omega, by show 16 * n1 ≤ _; omega, by show 48 * n2 ≤ _; omega, by show 24 * n3 ≤ _; omega⟩
end
end Go.Proofs.Ytdjpkgaicmklmaa

