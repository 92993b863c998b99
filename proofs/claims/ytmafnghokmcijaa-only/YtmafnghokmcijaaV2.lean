/- More of lists that a call grows: append of a whole list, parts of lists. -/
import Derived.Test.YtmafnghokmcijaaV
namespace Go.Proofs.Ytmafnghokmcijaa
open Go.RowKit

section
variable {P : Program} {w : World} {ops : Array Oper} {rest : List Oper} {o : Oper} {a : Act} {Q : Exit → Act → World → Prop}

theorem Lies.news {w : World} {ad : Addr} {n m : Nat} {f : Nat → List Value} (hL : Lies w (some ad) n m f) (hf : ∀ i, i < n → (f i).length = m) :
    ∀ j u, ((List.range n).map f).flatten[j]? = some u → w.cell? (ad.add j) = some u := by
  have hE : Even m ((List.range n).map f) := Even.range n hf
  have hEl : ((List.range n).map f).flatten.length = n * m := by rw [hE.length]; simp
  intro j v hj
  have hjl : j < n * m := by
    rcases Nat.lt_or_ge j (n * m) with h | h
    · exact h
    · rw [List.getElem?_eq_none (by omega)] at hj; cases hj
  rcases hL with h0 | ⟨b, off, had, _, hc⟩
  · subst h0; simp at hjl
  · simp at had
    subst had
    have h0 : 0 < m := by rcases Nat.eq_zero_or_pos m with h | h; (subst h; simp at hjl); exact h
    have hk2 : j = j / m * m + j % m := by rw [Nat.mul_comm]; exact (Nat.div_add_mod j m).symm
    have hqn : j / m < n := Nat.div_lt_of_lt_mul (by rw [Nat.mul_comm]; exact hjl)
    have hr : j % m < m := Nat.mod_lt _ h0
    have hat := hE.at (j / m) (j % m) hr (by simpa using hqn)
    rw [← hk2, hj] at hat
    have hget : ((List.range n).map f).getD (j / m) [] = f (j / m) := by simp [List.getD, hqn]
    rw [hget] at hat
    have hcell := hc (j / m) hqn (j % m) v hr hat.symm
    rw [addr_add]
    rw [show off + j / m * m + j % m = off + j by omega] at hcell
    exact hcell

/-- 'l = append(l, x...)'. -/
theorem wpList_pushAll (hgd : o.guard = none) (s x : Operand) (t : TypeId) (ho : o.op = .call { callee := .builtin .append, args := #[s, x], argTypes := #[t, t] })
    (B e m bytes : Nat) (z : Value) (ht : P.underlying t = some (.slice e)) (hinfo : (P.info? e).map (fun i => (i.zero, i.size, i.bytes)) = some (some z, m, bytes)) (hzs : z.cells.size = m) (hm : 0 < m)
    (ad : Option Addr) (n cap : Nat) (xs : List Value) (hs : a.eval s = .slice ad n cap) (hown : Vec w B e m ad n cap xs)
    (sa : Option Addr) (k c : Nat) (f : Nat → List Value) (hx : a.eval x = .slice sa k c) (hL : Lies w sa k m f) (hf : ∀ i, i < k → (f i).length = m) (h1 : ∀ i, i < k → ∀ u, u ∈ f i → u.oneCell' = true)
    (hbytes : (n + k) * bytes ≤ 140737488355328) (hn : n + k < 9223372036854775807) (hB : B ≤ w.heap.size) (N : Nat) (hN : n + k = N)
    (h : ∀ ad' cap' w', Vec w' B e m ad' N cap' (xs ++ ((List.range k).map f).flatten) → Below B w w' → w.heap.size ≤ w'.heap.size → wpList P ops Q rest (a.put o.dst (.slice ad' N cap')) w') : wpList P ops Q (o :: rest) a w := by
  subst hN
  obtain ⟨i, hi, hzz⟩ := Option.map_eq_some_iff.1 hinfo
  simp only [Prod.mk.injEq] at hzz
  obtain ⟨hz, hsz, hby⟩ := hzz
  cases sa with
  | none =>
    have hk : k = 0 := by
      rcases hL with h | ⟨b, off, he, _⟩
      · exact h
      · cases he
    subst hk
    refine wpList_plain hgd fun K hK => ?_
    have hrun : (Builtin.append_ #[t, t] o.type #[.slice ad n cap, .slice none 0 c]).run P w = .ok (.slice ad n cap) w := by
      rcases hown.2 with ⟨hh, rfl⟩ | ⟨g, cap, cur, hh, _, _, hnc, _⟩
      · rw [hh]; simp [Builtin.append_, run_underlying ht, sizeOf, typeInfo, hi, Builtin.lenOf, Builtin.firstCells]
      · rw [hh]; simp [Builtin.append_, run_underlying ht, sizeOf, typeInfo, hi, Builtin.lenOf, Builtin.firstCells, hnc, storeCells]
    unfold Oper.wp
    simp [execOp, ho, resolve, invoke, builtin, hs, hx, hrun, Result.andThen]
    refine hK _ _ (h ad cap w (by simpa using hown) (Below.refl _ _) (Nat.le_refl _))
  | some ad1 =>
    have hE : Even m ((List.range k).map f) := Even.range k hf
    refine wpList_append_own w hgd s x t ho B e i z m bytes ht hi hz hsz hby hzs hm (.slice ad n cap) n xs hs hown ad1 k c ((List.range k).map f).flatten hx (by rw [hE.length]; simp) (hL.news hf) (by
        intro v hv
        obtain ⟨r, hr, hv⟩ := List.mem_flatten.1 hv
        exact Ones.range k h1 r hr v hv) (by unfold maxLen; omega) hbytes hB ?_
    intro v' w' ho' hgr _
    have hbw : Below B w w' := (Below.refl _ _).grown hgr hB (fun k hk => (World.ownsRow.lt hown k hk).1)
    rcases ho'.2 with ⟨hh, hz0⟩ | ⟨g, cap', cur, hh, hrest⟩
    · have hv : v' = .slice none (n + k) 0 := by rw [hh, hz0]
      rw [hv] at ho' ⊢
      exact h none 0 w' ho' hbw hgr.size
    · rw [hh] at ho' ⊢
      exact h _ cap' w' ho' hbw hgr.size

end

/-- 'l[a:]': it lies behind. -/
theorem Lies.drop {w : World} {ad : Option Addr} {n m : Nat} {f : Nat → List Value} (h : Lies w ad n m f) (cap k : Nat) (hc : n ≤ cap) : Lies w (if cap = k then ad else ad.map (·.add (k * m))) (n - k) m (fun i => f (k + i)) := by
  rcases Nat.lt_or_ge k n with hk | hk
  · rcases h with h | ⟨b, off, rfl, hb, hcell⟩
    · omega
    · rw [if_neg (by omega)]
      refine Or.inr ⟨b, off + k * m, by simp [addr_add], hb, fun i hi j v hj hv => ?_⟩
      have := hcell (k + i) (by omega) j v hj hv
      rw [show off + k * m + i * m + j = off + (k + i) * m + j by rw [Nat.add_mul]; omega]
      exact this
  · exact Or.inl (by omega)
theorem Lies.drop' {w : World} {ad : Option Addr} {n m : Nat} {f : Nat → List Value} (h : Lies w ad n m f) (cap k : Nat) (hc : n ≤ cap) (hk : k < cap) : Lies w (ad.map (·.add (k * m))) (n - k) m (fun i => f (k + i)) := by
  have := h.drop cap k hc
  rwa [if_neg (by omega)] at this
theorem Lies.take {w : World} {ad : Option Addr} {n m : Nat} {f : Nat → List Value} (h : Lies w ad n m f) (k : Nat) (hk : k ≤ n) : Lies w ad k m f := by
  rcases h with h | ⟨b, off, had, hb, hcell⟩
  · exact Or.inl (by omega)
  · exact Or.inr ⟨b, off, had, hb, fun i hi => hcell i (by omega)⟩
theorem Vec.cap_le {w : World} {B e m : Nat} {ad : Option Addr} {n cap : Nat} {xs : List Value} (h : Vec w B e m ad n cap xs) : n ≤ cap := by
  rcases h.2 with ⟨h2, rfl⟩ | ⟨g, c, cur, hv, hB, hg, hnc, r⟩
  · omega
  · simp at hv; rw [hv.2]; exact hnc

end Go.Proofs.Ytmafnghokmcijaa
