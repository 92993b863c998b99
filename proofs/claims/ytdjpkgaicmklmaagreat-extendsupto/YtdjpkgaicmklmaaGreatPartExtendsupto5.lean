/- Texts of the proof, one behind the other; what each holds is said at its head. -/
import Derived.Test.YtdjpkgaicmklmaaGreatPartExtendsupto4
import Derived.Test.YtdjpkgaicmklmaaGreatPartExtendsupto0
import Derived.Test.YtdjpkgaicmklmaaGreatPartExtendsupto2
import Derived.Deep.RegionLaw
/- What Read says, without the program: frames, their order, the link. -/
namespace Go.Proofs.YtdjpkgaicmklmaaGreat
open Go.RowKit

def Kd (f : Fd) : Prop := f.kind = 1 ∨ f.kind = 2 ∨ f.kind = 3 ∨ f.kind = 4
/-- May f stand behind p? -/
def fitB (p f : Fd) : Bool :=
  if f.kind = 1 then (p.kind == 4 || (p.kind == 1 && decide (p.site < f.site)))
  else if f.kind = 2 then ((p.kind == 4 || p.kind == 1) || (p.kind == 2 && decide (p.id < f.id)))
  else if f.kind = 3 then true else false
def mayB (p f : Fd) : Bool :=
  if f.kind = 4 then false else if p.kind = 4 then true else if f.kind ≠ p.kind then decide (p.kind < f.kind)
  else if f.kind = 1 then decide (p.site < f.site) else if f.kind = 2 then decide (p.id < f.id) else true
theorem may_fit {p f : Fd} (hp : Kd p) (hf : Kd f) : mayB p f = fitB p f := by
  unfold mayB fitB
  rcases hp with h | h | h | h <;> rcases hf with h' | h' | h' | h' <;> rw [h, h'] <;> simp
/-- The place of the first that cannot stand there. -/
def ordF : Fd → List Fd → Option Int
  | _, [] => none
  | p, f :: l => if fitB p f = true then ordF f l else some f.at_
def ordRd : List Fd → Option Int
  | [] => some 4
  | f :: l => if f.kind = 4 then ordF f l else some f.at_
/-- Frames one directly behind the other, and the first place behind them. -/
def frF : Nat → Nat → List UInt8 → List Fd × Nat
  | 0, i, _ => ([], i)
  | k + 1, i, s => if s = [] then ([], i) else match standRd s with
    | some (f, n) => (f.putI i :: (frF k (i + n) (s.drop n)).1, (frF k (i + n) (s.drop n)).2)
    | none => ([], i)
theorem frF_nil (k i : Nat) : frF k i [] = ([], i) := by cases k <;> rfl
theorem frF_none {k i : Nat} {s : List UInt8} (h : standRd s = none) : frF k i s = ([], i) := by
  cases k with
  | zero => rfl
  | succ k => by_cases hs : s = []
              · subst hs; rfl
              · simp only [frF, if_neg hs, h]
theorem frF_some {k i : Nat} {s : List UInt8} {f : Fd} {n : Nat} (hne : s ≠ []) (h : standRd s = some (f, n)) : frF (k + 1) i s = (f.putI i :: (frF k (i + n) (s.drop n)).1, (frF k (i + n) (s.drop n)).2) := by simp only [frF, if_neg hne, h]
def ckOf (l : List Fd) : List Ck := (l.filter (fun f => f.kind == 1)).map (fun f => ⟨f.site, f.count⟩)
def cdOf (l : List Fd) : List Cd := (l.filter (fun f => f.kind == 2)).map (fun f => ⟨f.id, f.site, f.count, f.gone, f.text⟩)
def edOf (l : List Fd) : List Ed := (l.filter (fun f => f.kind == 3)).map (fun f => ⟨f.id, f.text⟩)
/-- What Read answers. -/
structure Ans where
  seq : Int
  base : Int
  err : Int
  place : Int
  K : List Ck
  C : List Cd
  E : List Ed
def ansErr (e p : Int) : Ans := ⟨0, 0, e, p, [], [], []⟩
def ansOk (l : List Fd) : Ans := ⟨(l.getD 0 fd0).seq, (l.getD 0 fd0).base, 0, 0, ckOf l, cdOf l, edOf l⟩
def magicB : List UInt8 := [80, 82, 67, 49]
def sealedB (b : List UInt8) : Bool := decide (8 ≤ b.length) && (b.drop (b.length - 4) == fourI (crc pSeal (b.take (b.length - 4))))
def framed (body : List UInt8) : List Fd × Nat := frF body.length 4 (body.drop 4)
def readRd (b : List UInt8) : Ans :=
  if b.length < 4 ∨ b.take 4 ≠ magicB then ansErr 7 0
  else if sealedB b = true then
    if (framed (b.take (b.length - 4))).2 < b.length - 4 then ansErr 9 (framed (b.take (b.length - 4))).2
    else match ordRd (framed (b.take (b.length - 4))).1 with
      | some p => ansErr 10 p
      | none => ansOk (framed (b.take (b.length - 4))).1
  else ansErr 8 0

theorem recRd_kd {s : List UInt8} {f : Fd} (h : recRd s = some f) : Kd f := by
  match s, h with
  | c :: s, h =>
    simp only [recRd] at h
    split at h
    · split at h
      · split at h
        · split at h
          · simp at h; subst h; exact Or.inr (Or.inr (Or.inr rfl))
          · cases h
        · split at h
          · simp at h; subst h; exact Or.inr (Or.inr (Or.inr rfl))
          · cases h
      · cases h
    · split at h
      · split at h
        · split at h
          · simp at h; subst h; exact Or.inl rfl
          · cases h
        · cases h
      · split at h
        · split at h
          · split at h
            · simp at h; subst h; exact Or.inr (Or.inl rfl)
            · cases h
          · cases h
        · split at h
          · split at h
            · simp at h; subst h; exact Or.inr (Or.inr (Or.inl rfl))
            · cases h
          · cases h
theorem standRd_kd {s : List UInt8} {f : Fd} {n : Nat} (h : standRd s = some (f, n)) : Kd f := by
  match s, h with
  | x :: y :: k :: t, h =>
    simp only [standRd] at h
    split at h
    · split at h
      · cases h
      · split at h
        · cases hr : recRd (t.take k.toNat) with
          | none => rw [hr] at h; cases h
          | some g => rw [hr] at h; simp at h; obtain ⟨rfl, _⟩ := h; exact recRd_kd hr
        · cases h
    · cases h
theorem frF_kd : ∀ (k i : Nat) (s : List UInt8), ∀ f ∈ (frF k i s).1, Kd f
  | 0, _, _, f, h => by simp [frF] at h
  | k + 1, i, s, f, h => by
    by_cases hs : s = []
    · subst hs; simp [frF] at h
    · cases hst : standRd s with
      | none => rw [frF_none hst] at h; cases h
      | some p =>
        obtain ⟨g, n⟩ := p
        rw [frF_some hs hst] at h
        rcases List.mem_cons.1 h with rfl | h
        · exact (standRd_kd hst : Kd g)
        · exact frF_kd k (i + n) (s.drop n) f h
theorem frF_first (k i : Nat) (s : List UInt8) (f : Fd) (l : List Fd) (h : (frF k i s).1 = f :: l) : f.at_ = i := by
  cases k with
  | zero => simp [frF] at h
  | succ k =>
    by_cases hs : s = []
    · subst hs; simp [frF] at h
    · cases hst : standRd s with
      | none => rw [frF_none hst] at h; cases h
      | some p =>
        obtain ⟨g, n⟩ := p
        rw [frF_some hs hst] at h
        simp at h
        rw [← h.1]; rfl
theorem frF_length : ∀ (k i : Nat) (s : List UInt8), (frF k i s).1.length ≤ k
  | 0, _, _ => by simp [frF]
  | k + 1, i, s => by
    by_cases hs : s = []
    · subst hs; simp [frF]
    · cases hst : standRd s with
      | none => rw [frF_none hst]; simp
      | some p =>
        obtain ⟨g, n⟩ := p
        rw [frF_some hs hst]
        have := frF_length k (i + n) (s.drop n)
        simp; omega
theorem frF_le : ∀ (k i : Nat) (s : List UInt8), i ≤ (frF k i s).2 ∧ (frF k i s).2 ≤ i + s.length
  | 0, i, s => by simp [frF]
  | k + 1, i, s => by
    by_cases hs : s = []
    · subst hs; simp [frF]
    · cases hst : standRd s with
      | none => rw [frF_none hst]; simp
      | some p =>
        obtain ⟨g, n⟩ := p
        rw [frF_some hs hst]
        have := frF_le k (i + n) (s.drop n)
        have := standRd_le hst
        simp at this ⊢
        simp at *
        omega
end Go.Proofs.YtdjpkgaicmklmaaGreat

/- Lists that came out and that their owner writes over with a mark: append of marks, stores, and what stays. -/
namespace Go.Proofs.YtdjpkgaicmklmaaGreat
open Go.RowKit

/-- n rows of one mark. -/
def rep (n : Nat) (mk : List Value) : List Value := (List.replicate n mk).flatten
theorem rep_length (n : Nat) (mk : List Value) : (rep n mk).length = n * mk.length := by simp [rep]
theorem rep_add (n c : Nat) (mk : List Value) : rep (n + c) mk = rep n mk ++ rep c mk := by simp [rep, ← List.replicate_append_replicate]
theorem rep_one (mk : List Value) : rep 1 mk = mk := by simp [rep]
theorem rep_zero (mk : List Value) : rep 0 mk = [] := rfl
theorem rep_at (mk : List Value) : ∀ (n j : Nat), j < n * mk.length → (rep n mk)[j]? = mk[j % mk.length]?
  | 0, j, h => by simp at h
  | n + 1, j, h => by
    have e : rep (n + 1) mk = mk ++ rep n mk := by simp [rep, List.replicate_succ]
    rw [e]
    by_cases hj : j < mk.length
    · rw [List.getElem?_append_left hj, Nat.mod_eq_of_lt hj]
    · rw [List.getElem?_append_right (by omega), rep_at mk n (j - mk.length) (by rw [Nat.add_mul] at h; omega)]
      congr 1
      conv => rhs; rw [show j = (j - mk.length) + mk.length by omega]
      rw [Nat.add_mod_right]
theorem rep_eq {mk xs : List Value} {n : Nat} (hl : xs.length = n * mk.length) (h : ∀ j, j < n * mk.length → xs[j]? = mk[j % mk.length]?) : xs = rep n mk := by
  apply List.ext_getElem?
  intro j
  by_cases hj : j < n * mk.length
  · rw [h j hj, rep_at mk n j hj]
  · rw [List.getElem?_eq_none (by omega), List.getElem?_eq_none (by rw [rep_length]; omega)]

/-- Nothing but block g is changed of what there was; in it what was marked is so still. -/
structure Kp (g : Option Nat) (mk : List Value) (w w' : World) : Prop where
  os : w'.os = w.os
  tape : w'.tape = w.tape
  output : w'.output = w.output
  size : w.heap.size ≤ w'.heap.size
  block : ∀ k, k < w.heap.size → g ≠ some k → w'.heap[k]? = w.heap[k]?
  mark : ∀ k cur e, g = some k → w.heap[k]? = some (.cells cur e) → ∃ cur', w'.heap[k]? = some (.cells cur' e) ∧ cur'.size = cur.size ∧ ∀ j, cur[j]? = mk[j % mk.length]? → cur'[j]? = mk[j % mk.length]?

theorem Kp.of_below {g : Option Nat} {mk : List Value} {w w' : World} (h : Below w.heap.size w w') : Kp g mk w w' :=
  ⟨h.os, h.tape, h.output, h.size, fun k hk _ => h.block k hk, fun k cur e _ hc => ⟨cur, by rw [h.block k (Array.getElem?_eq_some_iff.1 hc).1]; exact hc, rfl, fun _ h => h⟩⟩
theorem Kp.below {g : Option Nat} {mk : List Value} {B : Nat} {w0 w w' : World} (h : Kp g mk w w') (hb : Below B w0 w) (hB : B ≤ w.heap.size) (hg : ∀ k, g = some k → B ≤ k) : Below B w0 w' :=
  ⟨h.os.trans hb.os, h.tape.trans hb.tape, h.output.trans hb.output, Nat.le_trans hb.size h.size, fun k hk => (h.block k (by omega) (fun e => by have := hg k e; omega)).trans (hb.block k hk)⟩
theorem Bx.kp {w w' : World} {k e : Nat} {cs mk : List Value} {g : Option Nat} (b : Bx w k e cs) (h : Kp g mk w w') (hg : g ≠ some k) : Bx w' k e cs := ⟨by rw [h.block k b.lt hg]; exact b.h⟩
theorem Vec.kpo {w w' : World} {B e m : Nat} {ad : Option Addr} {n cap : Nat} {xs mk : List Value} {g : Option Nat} (h : Vec w B e m ad n cap xs) (hk : Kp g mk w w') (hg : ∀ b, ad = some b → g ≠ some b.block) : Vec w' B e m ad n cap xs := by
  refine ⟨h.1, ?_⟩
  rcases h.2 with h2 | ⟨k, c, cur, hv, hB, hc, r⟩
  · exact Or.inl h2
  · refine Or.inr ⟨k, c, cur, hv, hB, ?_, r⟩
    simp at hv
    rw [hk.block k (Array.getElem?_eq_some_iff.1 hc).1 (hg _ hv.1)]; exact hc
theorem Vec.kp {w w' : World} {B e m : Nat} {ad : Option Addr} {n cap : Nat} {mk mk' : List Value} {g : Option Nat} (h : Vec w B e m ad n cap (rep n mk)) (hm : mk.length = m) (hk : Kp g mk' w w') (hg : ∀ b, ad = some b → g = some b.block → mk = mk') : Vec w' B e m ad n cap (rep n mk) := by
  refine ⟨h.1, ?_⟩
  rcases h.2 with h2 | ⟨k, c, cur, hv, hB, hc, h1, h3, h4, h5⟩
  · exact Or.inl h2
  · have hv' := hv
    simp at hv'
    by_cases hgk : g = some k
    · obtain rfl := hg _ hv'.1 hgk
      obtain ⟨cur', hc', hs, hmk⟩ := hk.mark k cur e hgk hc
      refine Or.inr ⟨k, c, cur', hv, hB, hc', h1, h3, by rw [hs, h4], ?_⟩
      subst hm
      refine rep_eq ?_ ?_
      · simp only [List.length_take, Array.length_toList, hs, h4]
        exact Nat.min_eq_left (Nat.mul_le_mul_right _ h1)
      · intro j hj
        rw [List.getElem?_take_of_lt hj, Array.getElem?_toList]
        apply hmk
        have := rep_at mk n j hj
        rw [← h5, List.getElem?_take_of_lt hj, Array.getElem?_toList] at this
        exact this
    · refine Or.inr ⟨k, c, cur, hv, hB, ?_, h1, h3, h4, h5⟩
      rw [hk.block k (Array.getElem?_eq_some_iff.1 hc).1 hgk]; exact hc

/-- Blocks of two types are two blocks. -/
theorem Vec.apart {w : World} {B B' e e' m m' : Nat} {ad ad' : Option Addr} {n n' cap cap' : Nat} {xs xs' : List Value} (h : Vec w B e m ad n cap xs) (h' : Vec w B' e' m' ad' n' cap' xs') (he : e ≠ e') : ∀ b, ad = some b → ad'.map (·.block) ≠ some b.block := by
  intro b hb hb'
  rcases h.2 with ⟨h2, _⟩ | ⟨k, c, cur, hv, hB, hc, _⟩
  · simp at h2; rw [h2.1] at hb; cases hb
  · rcases h'.2 with ⟨h2, _⟩ | ⟨k', c', cur', hv', hB', hc', _⟩
    · simp at h2; rw [h2.1] at hb'; cases hb'
    · simp at hv hv'
      rw [hv.1] at hb; cases hb
      rw [hv'.1] at hb'; simp at hb'
      subst hb'
      rw [hc] at hc'
      simp at hc'
      exact he hc'.2
theorem Bx.apart {w : World} {B e e' m k : Nat} {ad : Option Addr} {n cap : Nat} {xs cs : List Value} (b : Bx w k e' cs) (h : Vec w B e m ad n cap xs) (he : e ≠ e') : ad.map (·.block) ≠ some k := by
  intro hb
  rcases h.2 with ⟨h2, _⟩ | ⟨k', c, cur, hv, hB, hc, _⟩
  · simp at h2; rw [h2.1] at hb; cases hb
  · simp at hv
    rw [hv.1] at hb; simp at hb
    subst hb
    have := b.h
    rw [hc] at this
    simp at this
    exact he this.2
theorem Bx.frozen {w : World} {g e : Nat} {cs : List Value} (b : Bx w g e cs) (k : Nat) : w.frozen? ⟨g, k, none⟩ = false := by
  simp [World.frozen?, b.h]
theorem Bx.setCell {w : World} {g e : Nat} {cs : List Value} (b : Bx w g e cs) (k : Nat) (v : Value) : Bx (w.setCell ⟨g, k, none⟩ v) g e (cs.set k v) := by
  refine ⟨?_⟩
  rw [heap_setCell_same w g k cs.toArray e v b.h]
  simp

section
variable {P : Program} {w : World} {ops : Array Oper} {rest : List Oper} {o : Oper} {a : Act} {Q : Exit → Act → World → Prop}

theorem run_append_marks (B : Nat) (t ty e : TypeId) (i : TypeInfo) (z : Value) (size bytes : Nat) (ht : P.underlying t = some (.slice e)) (hi : P.info? e = some i) (hz : i.zero = some z)
    (hsize : i.size = size) (hby : i.bytes = bytes) (hzs : z.cells.size = size) (_hsz : 0 < size)
    (ad : Option Addr) (n cap : Nat) (xs : List Value) (hown : Vec w B e size ad n cap xs)
    (a : Addr) (m c : Nat) (mk : List Value) (hl : mk.length = size) (hnews : ∀ j u, (rep m mk)[j]? = some u → w.cell? (a.add j) = some u) (h1 : ∀ u ∈ mk, u.oneCell' = true) (hm : 0 < m)
    (h63 : n + m ≤ maxLen) (hbytes : (n + m) * bytes ≤ 140737488355328) (hbase : B ≤ w.heap.size) :
    ∃ ad' cap' w', (Builtin.append_ #[t, t] ty #[.slice ad n cap, .slice (some a) m c]).run P w = .ok (.slice ad' (n + m) cap') w' ∧ Vec w' B e size ad' (n + m) cap' (xs ++ rep m mk) ∧ Kp (ad.map (·.block)) mk w w' := by
  subst hsize
  subst hby
  have hsmall : n + m ≤ 9223372036854775807 := by simp only [maxLen] at h63; omega
  have hln : (rep m mk).length = m * i.size := by rw [rep_length, hl]
  have h1' : ∀ u ∈ rep m mk, u.oneCell' = true := by
    intro u hu
    simp only [rep, List.mem_flatten, List.mem_replicate] at hu
    obtain ⟨r, ⟨_, rfl⟩, hu⟩ := hu
    exact h1 u hu
  have hlen : (xs ++ rep m mk).length = (n + m) * i.size := by rw [List.length_append, hown.1, hln, Nat.add_mul]
  have grown : ∀ (old : Nat), old < n + m →
      Vec (w.drew.alloc (.cells (xs.toArray ++ (rep m mk).toArray ++ Builtin.zeroCells z.cells (grownCap w (n + m) old e - (n + m))) e)) B e i.size (some ⟨w.heap.size, 0, none⟩) (n + m) (grownCap w (n + m) old e) (xs ++ rep m mk) ∧
      Below w.heap.size w (w.drew.alloc (.cells (xs.toArray ++ (rep m mk).toArray ++ Builtin.zeroCells z.cells (grownCap w (n + m) old e - (n + m))) e)) := by
    intro old ho
    have hge := grownCap_ge w (n + m) old e
    have hcm : grownCap w (n + m) old e ≤ maxLen := grownCap_le_maxLen w (n + m) old e h63
    refine ⟨⟨hlen, .inr ⟨w.heap.size, _, _, rfl, hbase, heap_alloc_new w.drew _, hge, hcm, ?_, ?_⟩⟩, (Below.refl _ w).drew.alloc (by simp) _⟩
    · simp only [Array.size_append, List.size_toArray, size_zeroCells, hzs, hown.1, hln, ← Nat.add_mul]
      congr 1
      omega
    · simp only [Array.toList_append, List.append_assoc]
      rw [← List.append_assoc, ← hlen]
      exact List.take_left
  rcases hown.2 with ⟨hv, rfl⟩ | ⟨g, cap0, cur, hv, hbg, hg, hnc, hcm, hcs, htake⟩
  · simp at hv
    obtain ⟨rfl, rfl⟩ := hv
    have hx : xs = [] := List.eq_nil_of_length_eq_zero (by have := hown.1; omega)
    subst hx
    have hr := run_append_nil (P := P) w t ty e i z ht hi hz a m c (rep m mk) hln hnews (by omega) (by omega) (by have hb := hbytes; simp only [Nat.zero_add] at hb; omega)
    have hgr := grown 0 (by omega)
    simp only [Nat.zero_add, List.nil_append, Array.empty_append] at hgr ⊢
    exact ⟨_, _, _, hr, hgr.1, Kp.of_below hgr.2⟩
  · simp at hv
    obtain ⟨rfl, rfl⟩ := hv
    by_cases hroom : n + m ≤ cap
    · have hfit : n * i.size + (rep m mk).length ≤ cur.size := by rw [hln, hcs, ← Nat.add_mul]; exact Nat.mul_le_mul_right _ hroom
      have hr := run_append_room (P := P) w t ty e i ht hi g n cap cur hg a m c (rep m mk) hln hnews h1' hroom hfit
      refine ⟨_, _, _, hr, ⟨hlen, .inr ⟨g, cap, _, rfl, hbg, setRow_heap w g cur _ e _ hg, hroom, hcm, ?_, ?_⟩⟩, ⟨rfl, rfl, rfl, by simp, fun k _ hk => setRow_other w g k _ (fun e => hk (by simp [e])), ?_⟩⟩
      · simp only [List.size_toArray, List.length_append, List.length_take, List.length_drop, Array.length_toList]
        omega
      · rw [htake, ← hlen]
        exact List.take_left
      · intro k cur1 e1 hk hc1
        simp at hk
        subst hk
        rw [hg] at hc1
        simp at hc1
        obtain ⟨rfl, rfl⟩ := hc1
        refine ⟨_, setRow_heap w g cur _ e _ hg, ?_, ?_⟩
        · simp only [List.size_toArray, List.length_append, List.length_take, List.length_drop, Array.length_toList]
          omega
        · intro j hj
          simp only [List.getElem?_toArray]
          by_cases h1 : j < n * i.size
          · rw [List.append_assoc, List.getElem?_append_left (by simp; omega), List.getElem?_take_of_lt h1, Array.getElem?_toList]; exact hj
          · by_cases h2 : j < n * i.size + (rep m mk).length
            · rw [List.getElem?_append_left (by simp; omega), List.getElem?_append_right (by simp; omega)]
              have e1 : (cur.toList.take (n * i.size)).length = n * i.size := by simp; omega
              rw [e1, rep_at mk m (j - n * i.size) (by rw [hl]; omega), hl]
              congr 1
              conv => rhs; rw [show j = (j - n * i.size) + n * i.size by omega]
              rw [Nat.add_mul_mod_self_right]
            · rw [List.getElem?_append_right (by simp; omega)]
              have e1 : (cur.toList.take (n * i.size) ++ rep m mk).length = n * i.size + (rep m mk).length := by simp; omega
              rw [e1, List.getElem?_drop, Array.getElem?_toList, show n * i.size + (rep m mk).length + (j - (n * i.size + (rep m mk).length)) = j by omega]
              exact hj
    · have holds : ∀ j u, xs[j]? = some u → w.cell? ((⟨g, 0, none⟩ : Addr).add j) = some u := World.ownsRow.cells (g := g) hown rfl
      have hr := run_append_grow (P := P) w t ty e i z ht hi hz ⟨g, 0, none⟩ n cap xs hown.1 holds a m c (rep m mk) hln hnews (by omega) (by omega) (growslice_fits (by omega) hbytes)
      have hgr := grown cap (by omega)
      exact ⟨_, _, _, hr, hgr.1, Kp.of_below hgr.2⟩

/-- 'a := append(l, m, ..)'. -/
theorem wpList_pushk (hgd : o.guard = none) (s x : Operand) (t : TypeId) (ho : o.op = .call { callee := .builtin .append, args := #[s, x], argTypes := #[t, t] })
    (B e m bytes : Nat) (z : Value) (ht : P.underlying t = some (.slice e)) (hinfo : (P.info? e).map (fun i => (i.zero, i.size, i.bytes)) = some (some z, m, bytes)) (hzs : z.cells.size = m) (hm : 0 < m)
    (ad : Option Addr) (n cap : Nat) (xs : List Value) (hs : a.eval s = .slice ad n cap) (hown : Vec w B e m ad n cap xs)
    (ad1 : Addr) (k c : Nat) (mk : List Value) (hx : a.eval x = .slice (some ad1) k c) (hl : mk.length = m) (hnews : ∀ j u, (rep k mk)[j]? = some u → w.cell? (ad1.add j) = some u) (h1 : ∀ u, u ∈ mk → u.oneCell' = true) (hk : 0 < k)
    (hbytes : (n + k) * bytes ≤ 140737488355328) (hn : n + k ≤ 9223372036854775807) (hB : B ≤ w.heap.size)
    (h : ∀ ad' cap' w', Vec w' B e m ad' (n + k) cap' (xs ++ rep k mk) → Kp (ad.map (·.block)) mk w w' → wpList P ops Q rest (a.put o.dst (.slice ad' (n + k) cap')) w') : wpList P ops Q (o :: rest) a w := by
  obtain ⟨i, hi, hzz⟩ := Option.map_eq_some_iff.1 hinfo
  simp only [Prod.mk.injEq] at hzz
  obtain ⟨hz, hsz, hby⟩ := hzz
  obtain ⟨ad', cap', w', hr, h2, h3⟩ := run_append_marks (P := P) (w := w) B t o.type e i z m bytes ht hi hz hsz hby hzs hm ad n cap xs hown ad1 k c mk hl hnews h1 hk (by unfold maxLen; omega) hbytes hB
  refine wpList_plain hgd fun K hK => ?_
  unfold Oper.wp execOp
  simp only [ho, resolve, invoke, builtin, Sem.run_bind, Sem.run_pure, Result.andThen_ok, List.map_toArray, List.map_cons, List.map_nil, hs, hx, hr]
  exact hK _ _ (h ad' cap' w' h2 h3)
/-- The same within a region that draws its order. -/
theorem step_pushk {K : Act → World → Prop} {E : Prop} (hgd : o.guard = none) (s x : Operand) (t : TypeId) (ho : o.op = .call { callee := .builtin .append, args := #[s, x], argTypes := #[t, t] })
    (B e m bytes : Nat) (z : Value) (ht : P.underlying t = some (.slice e)) (hinfo : (P.info? e).map (fun i => (i.zero, i.size, i.bytes)) = some (some z, m, bytes)) (hzs : z.cells.size = m) (hm : 0 < m)
    (ad : Option Addr) (n cap : Nat) (xs : List Value) (hs : a.eval s = .slice ad n cap) (hown : Vec w B e m ad n cap xs)
    (ad1 : Addr) (c : Nat) (mk : List Value) (hx : a.eval x = .slice (some ad1) 1 c) (hl : mk.length = m) (hnews : ∀ j u, mk[j]? = some u → w.cell? (ad1.add j) = some u) (h1 : ∀ u, u ∈ mk → u.oneCell' = true)
    (hbytes : (n + 1) * bytes ≤ 140737488355328) (hn : n + 1 ≤ 9223372036854775807) (hB : B ≤ w.heap.size)
    (h : ∀ ad' cap' w', Vec w' B e m ad' (n + 1) cap' (xs ++ mk) → Kp (ad.map (·.block)) mk w w' → K (a.put o.dst (.slice ad' (n + 1) cap')) w') :
    if Region.wanted o (yielded ops a.tmps) = true then Oper.wp P o a w K Q else E := by
  have hw : Region.wanted o (yielded ops a.tmps) = true := by simp [Region.wanted, hgd]
  rw [if_pos hw]
  obtain ⟨i, hi, hzz⟩ := Option.map_eq_some_iff.1 hinfo
  simp only [Prod.mk.injEq] at hzz
  obtain ⟨hz, hsz, hby⟩ := hzz
  obtain ⟨ad', cap', w', hr, h2, h3⟩ := run_append_marks (P := P) (w := w) B t o.type e i z m bytes ht hi hz hsz hby hzs hm ad n cap xs hown ad1 1 c mk hl (by rw [rep_one]; exact hnews) h1 (by omega) (by unfold maxLen; omega) hbytes hB
  rw [rep_one] at h2
  unfold Oper.wp execOp
  simp only [ho, resolve, invoke, builtin, Sem.run_bind, Sem.run_pure, Result.andThen_ok, List.map_toArray, List.map_cons, List.map_nil, hs, hx, hr]
  exact h ad' cap' w' h2 h3

/-- 'l[i] = m'. -/
theorem wpList_vstore (hgd : o.guard = none) (p v : Operand) (t : TypeId) (ho : o.op = .store t p v) (B e m : Nat) (hs : (P.info? t).map (·.size) = some m) (ad : Option Addr) (n cap : Nat) (mk ys : List Value) (i g : Nat) (hg : Hid (ad = some ⟨g, 0, none⟩))
    (hown : Vec w B e m ad n cap (rep i mk ++ ys)) (hin : i < n) (hl : mk.length = m) (h1 : ∀ u, u ∈ mk → u.oneCell' = true) (hp : a.eval p = .pointer (some ⟨g, i * m, none⟩)) (hv : a.eval v = .agg mk.toArray)
    (h : ∀ w', Vec w' B e m ad n cap (rep (i + 1) mk ++ ys.drop m) → Upd g w w' → wpList P ops Q rest (a.put o.dst undef) w') : wpList P ops Q (o :: rest) a w := by
  subst hl
  have hg' := hg.out
  subst hg'
  rcases hown.2 with ⟨h2, _⟩ | ⟨k, c, cur, hvv, hB, hc, r1, r2, r3, r4⟩
  · simp at h2
  · simp at hvv
    obtain ⟨rfl, rfl⟩ := hvv
    have hlen := hown.1
    rw [List.length_append, rep_length] at hlen
    have hmul : (i + 1) * mk.length ≤ n * mk.length := Nat.mul_le_mul_right _ hin
    have hmul2 : n * mk.length ≤ cap * mk.length := Nat.mul_le_mul_right _ r1
    rw [Nat.add_mul, Nat.one_mul] at hmul
    have hfit : i * mk.length + 0 + mk.length ≤ cur.size := by rw [r3]; omega
    have hst := run_storeCells_at P g (i * mk.length) e mk 0 cur w hc hfit h1
    refine wpList_plain hgd fun K hK => ?_
    cases hq : P.info? t with
    | none => simp [hq] at hs
    | some inf =>
      have hi' : inf.size = mk.length := by simpa [hq] using hs
      unfold Oper.wp
      simp [execOp, ho, hp, hv, Instr.storeAt, Instr.sureAddr, storeVar, sizeOf, typeInfo, hq, hi', Value.cells, hst, Result.andThen]
      refine hK _ _ (h _ ⟨?_, .inr ⟨g, cap, _, rfl, hB, setRow_heap w g cur _ e _ hc, r1, r2, ?_, ?_⟩⟩ (Upd.setRow _ _ _))
      · rw [List.length_append, rep_length, List.length_drop, Nat.add_mul]; omega
      · simp only [List.size_toArray, List.length_append, List.length_take, List.length_drop, Array.length_toList]; omega
      · have hcur : cur.toList = rep i mk ++ ys ++ cur.toList.drop (n * mk.length) := by rw [← r4, List.take_append_drop]
        have e1 : cur.toList.take (i * mk.length) = rep i mk := by
          rw [hcur, List.append_assoc, List.take_append_of_le_length (by rw [rep_length]; omega), List.take_of_length_le (by rw [rep_length]; omega)]
        have e2 : cur.toList.drop (i * mk.length + mk.length) = ys.drop mk.length ++ cur.toList.drop (n * mk.length) := by
          conv => lhs; rw [hcur]
          rw [List.append_assoc, List.drop_append, rep_length, List.drop_of_length_le (by rw [rep_length]; omega), List.nil_append, List.drop_append, show i * mk.length + mk.length - i * mk.length = mk.length by omega, show mk.length - ys.length = 0 by omega, List.drop_zero]
        rw [e1, e2]
        have e3 : rep i mk ++ (mk ++ (ys.drop mk.length ++ cur.toList.drop (n * mk.length))) = (rep (i + 1) mk ++ ys.drop mk.length) ++ cur.toList.drop (n * mk.length) := by rw [rep_add, rep_one]; simp
        rw [e3]
        refine List.take_left' ?_
        rw [List.length_append, rep_length, List.length_drop, Nat.add_mul]; omega
end
end Go.Proofs.YtdjpkgaicmklmaaGreat

/- linkOf of the program: walked. -/
namespace Go.Proofs.YtdjpkgaicmklmaaGreat
open Go.RowKit

section
variable {P : Program} {w : World} {ops : Array Oper} {rest : List Oper} {o : Oper} {a : Act} {Q : Exit → Act → World → Prop}
/-- A part of a variable that is a struct itself is written. -/
theorem wpList_bputs (hgd : o.guard = none) (p v : Operand) (t : TypeId) (ho : o.op = .store t p v) (g e k : Nat) (hp : a.eval p = .pointer (some ⟨g, k, none⟩)) (cs vs : List Value) (hv : a.eval v = .agg vs.toArray)
    (hb : Bx w g e cs) (m : Nat) (hm : vs.length = m) (hs : (P.info? t).map (·.size) = some m) (hk : k + m ≤ cs.length) (h1 : ∀ x, x ∈ vs → x.oneCell' = true)
    (h : ∀ w', Bx w' g e (cs.take k ++ vs ++ cs.drop (k + m)) → Upd g w w' → wpList P ops Q rest (a.put o.dst undef) w') : wpList P ops Q (o :: rest) a w := by
  subst hm
  refine wpList_plain hgd fun K hK => ?_
  have hst := run_storeCells_at P g k e vs 0 cs.toArray w hb.h (by simp; omega) h1
  simp only [Nat.add_zero] at hst
  cases hq : P.info? t with
  | none => simp [hq] at hs
  | some inf =>
    have hi' : inf.size = vs.length := by simpa [hq] using hs
    unfold Oper.wp
    simp [execOp, ho, hp, hv, Instr.storeAt, Instr.sureAddr, storeVar, sizeOf, typeInfo, hq, hi', Value.cells, hst, Result.andThen]
    have hB := setRow_heap w g _ (cs.take k ++ vs ++ cs.drop (k + vs.length)).toArray e _ hb.h
    refine hK _ _ (h _ ⟨?_⟩ (Upd.setRow _ _ _))
    simpa using hB
end

theorem ckOf_take (l : List Fd) (i : Nat) (h : i < l.length) : ckOf (l.take (i + 1)) = ckOf (l.take i) ++ ckOf [l[i]] := by
  unfold ckOf; rw [List.take_add_one, List.getElem?_eq_getElem h, Option.toList_some, List.filter_append, List.map_append]
theorem cdOf_take (l : List Fd) (i : Nat) (h : i < l.length) : cdOf (l.take (i + 1)) = cdOf (l.take i) ++ cdOf [l[i]] := by
  unfold cdOf; rw [List.take_add_one, List.getElem?_eq_getElem h, Option.toList_some, List.filter_append, List.map_append]
theorem edOf_take (l : List Fd) (i : Nat) (h : i < l.length) : edOf (l.take (i + 1)) = edOf (l.take i) ++ edOf [l[i]] := by
  unfold edOf; rw [List.take_add_one, List.getElem?_eq_getElem h, Option.toList_some, List.filter_append, List.map_append]
theorem ccells_app (a b : List Cd) : ccells (a ++ b) = ccells a ++ ccells b := by simp [ccells]
theorem ecells_app (a b : List Ed) : ecells (a ++ b) = ecells a ++ ecells b := by simp [ecells]
theorem ckOf_le (l : List Fd) : (ckOf l).length ≤ l.length := by simp only [ckOf, List.length_map]; exact List.length_filter_le _ _
theorem cdOf_le (l : List Fd) : (cdOf l).length ≤ l.length := by simp only [cdOf, List.length_map]; exact List.length_filter_le _ _
theorem edOf_le (l : List Fd) : (edOf l).length ≤ l.length := by simp only [edOf, List.length_map]; exact List.length_filter_le _ _

/-- Records that stand in a bundle's order: a head, and no other. -/
structure Ordered (l : List Fd) : Prop where
  first : (l.getD 0 fd0).kind = 4
  some_ : 0 < l.length
  rest : ∀ i, 0 < i → i < l.length → (l.getD i fd0).kind = 1 ∨ (l.getD i fd0).kind = 2 ∨ (l.getD i fd0).kind = 3
theorem ordF_rest : ∀ (l : List Fd) (p : Fd), ordF p l = none → ∀ f ∈ l, f.kind = 1 ∨ f.kind = 2 ∨ f.kind = 3
  | [], _, _, f, h => by cases h
  | g :: l, p, h, f, hf => by
    simp only [ordF] at h
    split at h
    · rename_i hfit
      rcases List.mem_cons.1 hf with rfl | hf
      · unfold fitB at hfit
        split at hfit
        · exact Or.inl ‹_›
        · split at hfit
          · exact Or.inr (Or.inl ‹_›)
          · split at hfit
            · exact Or.inr (Or.inr ‹_›)
            · cases hfit
      · exact ordF_rest l g h f hf
    · cases h
theorem ordered_of {l : List Fd} (h : ordRd l = none) : Ordered l := by
  cases l with
  | nil => cases h
  | cons f l =>
    simp only [ordRd] at h
    split at h
    · rename_i h4
      refine ⟨h4, by simp, fun i h0 hi => ?_⟩
      obtain ⟨j, rfl⟩ : ∃ j, i = j + 1 := ⟨i - 1, by omega⟩
      have hj : j < l.length := by simpa using hi
      have := ordF_rest l f h l[j] (List.getElem_mem hj)
      simpa [List.getD, hj] using this
    · cases h

abbrev lnkC (s b : Int) (a1 : Option Addr) (n1 c1 : Nat) (a2 : Option Addr) (n2 c2 : Nat) (a3 : Option Addr) (n3 c3 : Nat) : List Value := [.int .i64 s, .int .i64 b, .slice a1 n1 c1, .slice a2 n2 c2, .slice a3 n3 c3]
/-- Three lists, out of records. -/
structure Three (w : World) (B : Nat) (l : List Fd) (a1 : Option Addr) (n1 c1 : Nat) (a2 : Option Addr) (n2 c2 : Nat) (a3 : Option Addr) (n3 c3 : Nat) : Prop where
  v1 : Vec w B 37 2 a1 n1 c1 (kcells (ckOf l))
  v2 : Vec w B 39 5 a2 n2 c2 (ccells (cdOf l))
  v3 : Vec w B 41 2 a3 n3 c3 (ecells (edOf l))
  e1 : n1 = (ckOf l).length
  e2 : n2 = (cdOf l).length
  e3 : n3 = (edOf l).length
theorem Three.keep {w w' : World} {B : Nat} {l : List Fd} {a1 : Option Addr} {n1 c1 : Nat} {a2 : Option Addr} {n2 c2 : Nat} {a3 : Option Addr} {n3 c3 : Nat} (h : Three w B l a1 n1 c1 a2 n2 c2 a3 n3 c3) (hb : Below w.heap.size w w') : Three w' B l a1 n1 c1 a2 n2 c2 a3 n3 c3 := ⟨h.v1.keep hb, h.v2.keep hb, h.v3.keep hb, h.e1, h.e2, h.e3⟩
theorem Three.upd {w w' : World} {B g : Nat} {l : List Fd} {a1 : Option Addr} {n1 c1 : Nat} {a2 : Option Addr} {n2 c2 : Nat} {a3 : Option Addr} {n3 c3 : Nat} (h : Three w B l a1 n1 c1 a2 n2 c2 a3 n3 c3) (hu : Upd g w w') (hg : g < B) : Three w' B l a1 n1 c1 a2 n2 c2 a3 n3 c3 := ⟨h.v1.upd hu hg, h.v2.upd hu hg, h.v3.upd hu hg, h.e1, h.e2, h.e3⟩
theorem ckOf_snoc (l : List Fd) (f : Fd) : ckOf (l ++ [f]) = ckOf l ++ ckOf [f] := by unfold ckOf; rw [List.filter_append, List.map_append]
theorem cdOf_snoc (l : List Fd) (f : Fd) : cdOf (l ++ [f]) = cdOf l ++ cdOf [f] := by unfold cdOf; rw [List.filter_append, List.map_append]
theorem edOf_snoc (l : List Fd) (f : Fd) : edOf (l ++ [f]) = edOf l ++ edOf [f] := by unfold edOf; rw [List.filter_append, List.map_append]
theorem Three.push1 {w w' : World} {B : Nat} {l : List Fd} {f : Fd} {a1 : Option Addr} {n1 c1 : Nat} {a2 : Option Addr} {n2 c2 : Nat} {a3 : Option Addr} {n3 c3 : Nat} {ad' : Option Addr} {cap' : Nat} (h : Three w B l a1 n1 c1 a2 n2 c2 a3 n3 c3) (hf : f.kind = 1)
    (hv' : Vec w' B 37 2 ad' (n1 + 1) cap' (kcells (ckOf l) ++ rep 1 (Ck.mk f.site f.count).cells)) (hk : Kp (a1.map (·.block)) (Ck.mk f.site f.count).cells w w') : Three w' B (l ++ [f]) ad' (n1 + 1) cap' a2 n2 c2 a3 n3 c3 :=
  ⟨by rw [ckOf_snoc, kcells_append]; rw [rep_one] at hv'; simpa [ckOf, kcells, hf] using hv', by rw [cdOf_snoc, show cdOf [f] = [] by simp [cdOf, hf], List.append_nil]; exact h.v2.kpo hk (fun b hb hb' => h.v2.apart h.v1 (by decide) b hb hb'), by rw [edOf_snoc, show edOf [f] = [] by simp [edOf, hf], List.append_nil]; exact h.v3.kpo hk (fun b hb hb' => h.v3.apart h.v1 (by decide) b hb hb'), by rw [ckOf_snoc, List.length_append, ← h.e1]; simp [ckOf, hf], by rw [cdOf_snoc, show cdOf [f] = [] by simp [cdOf, hf], List.append_nil]; exact h.e2, by rw [edOf_snoc, show edOf [f] = [] by simp [edOf, hf], List.append_nil]; exact h.e3⟩
theorem Three.push2 {w w' : World} {B : Nat} {l : List Fd} {f : Fd} {a1 : Option Addr} {n1 c1 : Nat} {a2 : Option Addr} {n2 c2 : Nat} {a3 : Option Addr} {n3 c3 : Nat} {ad' : Option Addr} {cap' : Nat} (h : Three w B l a1 n1 c1 a2 n2 c2 a3 n3 c3) (hf : f.kind = 2)
    (hv' : Vec w' B 39 5 ad' (n2 + 1) cap' (ccells (cdOf l) ++ rep 1 (Cd.mk f.id f.site f.count f.gone f.text).cells)) (hk : Kp (a2.map (·.block)) (Cd.mk f.id f.site f.count f.gone f.text).cells w w') : Three w' B (l ++ [f]) a1 n1 c1 ad' (n2 + 1) cap' a3 n3 c3 :=
  ⟨by rw [ckOf_snoc, show ckOf [f] = [] by simp [ckOf, hf], List.append_nil]; exact h.v1.kpo hk (fun b hb hb' => h.v1.apart h.v2 (by decide) b hb hb'), by rw [cdOf_snoc, ccells_app]; rw [rep_one] at hv'; simpa [cdOf, ccells, hf] using hv', by rw [edOf_snoc, show edOf [f] = [] by simp [edOf, hf], List.append_nil]; exact h.v3.kpo hk (fun b hb hb' => h.v3.apart h.v2 (by decide) b hb hb'), by rw [ckOf_snoc, show ckOf [f] = [] by simp [ckOf, hf], List.append_nil]; exact h.e1, by rw [cdOf_snoc, List.length_append, ← h.e2]; simp [cdOf, hf], by rw [edOf_snoc, show edOf [f] = [] by simp [edOf, hf], List.append_nil]; exact h.e3⟩
theorem Three.push3 {w w' : World} {B : Nat} {l : List Fd} {f : Fd} {a1 : Option Addr} {n1 c1 : Nat} {a2 : Option Addr} {n2 c2 : Nat} {a3 : Option Addr} {n3 c3 : Nat} {ad' : Option Addr} {cap' : Nat} (h : Three w B l a1 n1 c1 a2 n2 c2 a3 n3 c3) (hf : f.kind = 3)
    (hv' : Vec w' B 41 2 ad' (n3 + 1) cap' (ecells (edOf l) ++ rep 1 (Ed.mk f.id f.text).cells)) (hk : Kp (a3.map (·.block)) (Ed.mk f.id f.text).cells w w') : Three w' B (l ++ [f]) a1 n1 c1 a2 n2 c2 ad' (n3 + 1) cap' :=
  ⟨by rw [ckOf_snoc, show ckOf [f] = [] by simp [ckOf, hf], List.append_nil]; exact h.v1.kpo hk (fun b hb hb' => h.v1.apart h.v3 (by decide) b hb hb'), by rw [cdOf_snoc, show cdOf [f] = [] by simp [cdOf, hf], List.append_nil]; exact h.v2.kpo hk (fun b hb hb' => h.v2.apart h.v3 (by decide) b hb hb'), by rw [edOf_snoc, ecells_app]; rw [rep_one] at hv'; simpa [edOf, ecells, hf] using hv', by rw [ckOf_snoc, show ckOf [f] = [] by simp [ckOf, hf], List.append_nil]; exact h.e1, by rw [cdOf_snoc, show cdOf [f] = [] by simp [cdOf, hf], List.append_nil]; exact h.e2, by rw [edOf_snoc, List.length_append, ← h.e3]; simp [edOf, hf]⟩
theorem Three.head {w : World} {B : Nat} {l : List Fd} {f : Fd} {a1 : Option Addr} {n1 c1 : Nat} {a2 : Option Addr} {n2 c2 : Nat} {a3 : Option Addr} {n3 c3 : Nat} (h : Three w B l a1 n1 c1 a2 n2 c2 a3 n3 c3) (hf : f.kind = 4) : Three w B (l ++ [f]) a1 n1 c1 a2 n2 c2 a3 n3 c3 := by
  have e1 : ckOf (l ++ [f]) = ckOf l := by rw [ckOf_snoc, show ckOf [f] = [] by simp [ckOf, hf], List.append_nil]
  have e2 : cdOf (l ++ [f]) = cdOf l := by rw [cdOf_snoc, show cdOf [f] = [] by simp [cdOf, hf], List.append_nil]
  have e3 : edOf (l ++ [f]) = edOf l := by rw [edOf_snoc, show edOf [f] = [] by simp [edOf, hf], List.append_nil]
  exact ⟨by rw [e1]; exact h.v1, by rw [e2]; exact h.v2, by rw [e3]; exact h.v3, by rw [e1]; exact h.e1, by rw [e2]; exact h.e2, by rw [e3]; exact h.e3⟩
end Go.Proofs.YtdjpkgaicmklmaaGreat

/- Read of a bundle is the link that was written: without the program. -/
namespace Go.Proofs.YtdjpkgaicmklmaaGreat
open Go.RowKit

theorem frF_frames : ∀ (l : List Fd), Okay l → ∀ (fuel p : Nat), (framesB l).length ≤ fuel → frF fuel p (framesB l) = (atL p l, p + lenL l)
  | [], _, fuel, p, _ => by simp only [framesB, List.flatMap_nil]; rw [frF_nil]; simp [atL, lenL]
  | f :: l, ho, fuel, p, hf => by
    have hw := ho f (by simp)
    have ho' : Okay l := fun g hg => ho g (by simp [hg])
    have hlen : (frameB (recF f)).length = lenF f := frameB_length _
    have e : framesB (f :: l) = frameB (recF f) ++ framesB l := by simp [framesB]
    rw [e] at hf ⊢
    rw [List.length_append, hlen] at hf
    obtain ⟨fuel, rfl⟩ : ∃ k, fuel = k + 1 := ⟨fuel - 1, by simp [lenF] at hf; omega⟩
    rw [frF_some (by simp [frameB]) (standRd_back hw.1 hw.2 _), ← hlen, List.drop_left, hlen, frF_frames l ho' fuel (p + lenF f) (by simp [lenF] at hf ⊢; omega)]
    simp only [atL, lenL, List.map_cons, List.sum_cons]
    refine Prod.ext rfl ?_
    simp only []; omega

theorem fitB_put (p f : Fd) (x y : Nat) : fitB (p.put x) (f.put y) = fitB p f := rfl
/-- Neighbours that fit. -/
def Chain : Fd → List Fd → Prop
  | _, [] => True
  | p, f :: l => fitB p f = true ∧ Chain f l
theorem ordF_chain : ∀ (l : List Fd) (p : Fd) (x q : Nat), Chain p l → ordF (p.put x) (atL q l) = none
  | [], _, _, _, _ => rfl
  | f :: l, p, x, q, h => by
    simp only [atL, ordF]
    rw [if_pos (by rw [fitB_put]; exact h.1)]
    exact ordF_chain l f q _ h.2
theorem Chain.append : ∀ (a b : List Fd) (p : Fd), Chain p a → Chain ((a.getLast?).getD p) b → Chain p (a ++ b)
  | [], _, _, _, h => h
  | f :: a, b, p, h, h' => by
    refine ⟨h.1, Chain.append a b f h.2 ?_⟩
    cases a with
    | nil => simpa using h'
    | cons g a => simpa [List.getLast?_cons] using h'
theorem chain_range (g : Nat → Fd) : ∀ (n k : Nat) (p : Fd), (0 < n → fitB p (g k) = true) → (∀ i, k ≤ i → i + 1 < k + n → fitB (g i) (g (i + 1)) = true) → Chain p ((List.range' k n).map g)
  | 0, _, _, _, _ => trivial
  | n + 1, k, p, h0, h => by
    rw [List.range'_succ, List.map_cons]
    exact ⟨h0 (by omega), chain_range g n (k + 1) (g k) (fun hn => h k (Nat.le_refl _) (by omega)) (fun i hi hi2 => h i (by omega) (by omega))⟩
theorem chain_map (g : Nat → Fd) (n : Nat) (p : Fd) (h0 : 0 < n → fitB p (g 0) = true) (h : ∀ i, i + 1 < n → fitB (g i) (g (i + 1)) = true) : Chain p ((List.range n).map g) := by
  rw [List.range_eq_range']
  exact chain_range g n 0 p h0 (fun i _ hi => h i (by omega))
theorem last_map (g : Nat → Fd) (n : Nat) (p : Fd) : ((List.range n).map g).getLast?.getD p = if n = 0 then p else g (n - 1) := by
  cases n with
  | zero => rfl
  | succ n => rw [List.range_succ, List.map_append]; simp

/-- A replica whose sites and numbers rise. -/
structure Rising (R : Rep) : Prop where
  c : ∀ i, i + 1 < R.n1 → (R.c i).site < (R.c (i + 1)).site
  d : ∀ i, i + 1 < R.n2 → (R.d i).id < (R.d (i + 1)).id
theorem Rep.rising {R : Rep} (h : R.chk = 0) : Rising R := by
  have g : R.risB = false := by
    unfold Rep.chk at h
    split at h
    · cases h
    · split at h
      · cases h
      · split at h
        · cases h
        · split at h
          · cases h
          · rename_i hh; simpa using hh
  unfold Rep.risB at g
  simp only [Bool.or_eq_false_iff] at g
  have none_of : ∀ (p : Nat → Bool) (n : Nat), anyTo p n = false → ∀ i, i < n → p i = false := by
    intro p n hh i hi
    cases hp : p i
    · rfl
    · rw [anyTo_hit hi hp] at hh; cases hh
  refine ⟨fun i hi => ?_, fun i hi => ?_⟩
  · have := none_of _ _ g.1 i (by omega); unfold Rep.ris1 at this; simp at this; omega
  · have := none_of _ _ g.2 i (by omega); unfold Rep.ris2 at this; simp at this; omega

theorem recs_chain (s b : Int) {R : Rep} (h : Rising R) : ∃ l, recsOf s b R = fdHead s b :: l ∧ Chain (fdHead s b) l := by
  refine ⟨(List.range R.n1).map (fun i => fdClock (R.c i)) ++ ((List.range R.n2).map (fun i => fdCard (R.d i)) ++ (List.range R.n3).map (fun i => fdEdit (R.e i))), by simp [recsOf, recs3, recs2, recs1], ?_⟩
  refine Chain.append _ _ _ (chain_map _ _ _ (fun _ => by simp [fitB, fdClock, fdHead]) (fun i hi => by have := h.c i hi; simp [fitB, fdClock, this])) ?_
  rw [last_map]
  refine Chain.append _ _ _ (chain_map _ _ _ (fun _ => ?_) (fun i hi => by have := h.d i hi; simp [fitB, fdCard, this])) ?_
  · split <;> simp [fitB, fdCard, fdHead, fdClock]
  · exact chain_map _ _ _ (fun _ => by simp [fitB, fdEdit]) (fun i _ => by simp [fitB, fdEdit])

theorem ckOf_atL : ∀ (l : List Fd) (p : Nat), ckOf (atL p l) = ckOf l
  | [], _ => rfl
  | f :: l, p => by
    have ih := ckOf_atL l (p + lenF f)
    unfold ckOf at ih ⊢
    simp only [atL, List.filter_cons, show (f.put p).kind = f.kind from rfl]
    split
    · rw [List.map_cons, List.map_cons, ih]; rfl
    · exact ih
theorem cdOf_atL : ∀ (l : List Fd) (p : Nat), cdOf (atL p l) = cdOf l
  | [], _ => rfl
  | f :: l, p => by
    have ih := cdOf_atL l (p + lenF f)
    unfold cdOf at ih ⊢
    simp only [atL, List.filter_cons, show (f.put p).kind = f.kind from rfl]
    split
    · rw [List.map_cons, List.map_cons, ih]; rfl
    · exact ih
theorem edOf_atL : ∀ (l : List Fd) (p : Nat), edOf (atL p l) = edOf l
  | [], _ => rfl
  | f :: l, p => by
    have ih := edOf_atL l (p + lenF f)
    unfold edOf at ih ⊢
    simp only [atL, List.filter_cons, show (f.put p).kind = f.kind from rfl]
    split
    · rw [List.map_cons, List.map_cons, ih]; rfl
    · exact ih
theorem filt_t (l : List Nat) : l.filter (fun _ => true) = l := by simp [List.filter_eq_self]
theorem filt_f (l : List Nat) : l.filter (fun _ => false) = [] := by simp [List.filter_eq_nil_iff]
theorem of_recs (s b : Int) (R : Rep) : ckOf (recsOf s b R) = (List.range R.n1).map R.c ∧ cdOf (recsOf s b R) = (List.range R.n2).map R.d ∧ edOf (recsOf s b R) = (List.range R.n3).map R.e := by
  have e : recsOf s b R = [fdHead s b] ++ ((List.range R.n1).map (fun i => fdClock (R.c i)) ++ ((List.range R.n2).map (fun i => fdCard (R.d i)) ++ (List.range R.n3).map (fun i => fdEdit (R.e i)))) := by simp [recsOf, recs3, recs2, recs1]
  rw [e]
  refine ⟨?_, ?_, ?_⟩
  · simp [ckOf, List.filter_map, Function.comp_def, fdHead, fdClock, fdCard, fdEdit]
    rw [filt_t, filt_f, filt_f]; simp
  · simp [cdOf, List.filter_map, Function.comp_def, fdHead, fdClock, fdCard, fdEdit]
    rw [filt_t, filt_f, filt_f]; simp
  · simp [edOf, List.filter_map, Function.comp_def, fdHead, fdClock, fdCard, fdEdit]
    rw [filt_t, filt_f, filt_f]; simp

/-- Read of a link's bundle is that link. -/
theorem readRd_bundle {s b : Int} {R : Rep} (hF : Fit R) (hr : Rising R) (hs : Num s) (hb1 : 0 ≤ b) (hb2 : b ≤ 4294967295) (h0 : s = 0 → b = 0) :
    readRd (bundleB (recsOf s b R)) = ⟨s, b, 0, 0, (List.range R.n1).map R.c, (List.range R.n2).map R.d, (List.range R.n3).map R.e⟩ := by
  have hok : Okay (recsOf s b R) := fun f hf => ⟨hF.ok hs hb1 hb2 f hf, fun hq => by
    simp only [recsOf, recs3, recs2, recs1, List.mem_append, List.mem_cons, List.mem_map] at hf
    rcases hf with ((rfl | ⟨_, _, rfl⟩) | ⟨_, _, rfl⟩) | ⟨_, _, rfl⟩
    · exact h0 hq
    · rfl
    · rfl
    · rfl⟩
  obtain ⟨l, hl, hc⟩ := recs_chain s b hr
  obtain ⟨o1, o2, o3⟩ := of_recs s b R
  generalize hL : recsOf s b R = L at *
  have hlen := bundleB_length L
  have e4 : (bundleB L).length - 4 = (bodyB L).length := by unfold bundleB; rw [List.length_append]; simp [fourI]
  have ebody : (bundleB L).take ((bundleB L).length - 4) = bodyB L := by rw [e4]; unfold bundleB; rw [List.take_left]
  have eseal : (bundleB L).drop ((bundleB L).length - 4) = fourI (crc pSeal (bodyB L)) := by rw [e4]; unfold bundleB; rw [List.drop_left]
  have hsl : sealedB (bundleB L) = true := by unfold sealedB; rw [ebody, eseal, hlen]; simp
  have hfr : framed (bodyB L) = (atL 4 L, 4 + lenL L) := by
    unfold framed
    have : (bodyB L).drop 4 = framesB L := rfl
    rw [this]
    exact frF_frames L hok _ 4 (by simp [bodyB]; omega)
  unfold readRd
  rw [if_neg (by
    rintro (h | h)
    · omega
    · exact h rfl), if_pos hsl, ebody, hfr]
  simp only []
  rw [if_neg (by omega)]
  have hord : ordRd (atL 4 L) = none := by
    rw [hl]
    simp only [atL, ordRd]
    rw [if_pos (by rfl)]
    exact ordF_chain l _ 4 _ hc
  rw [hord]
  simp only [ansOk]
  rw [ckOf_atL, cdOf_atL, edOf_atL, o1, o2, o3, hl]
  rfl
end Go.Proofs.YtdjpkgaicmklmaaGreat

/- sealed and framesOf of the program: walked. -/
namespace Go.Proofs.YtdjpkgaicmklmaaGreat
open Go.RowKit

set_option maxRecDepth 100000 in
set_option maxHeartbeats 4000000 in
theorem sealed_any (b : List UInt8) (w : World) (hb : b.length ≤ 1099511627776) :
    Calls Tryz.prog 85 #[.string (str b)] w fun e w' => e = .returned (.bool (sealedB b)) ∧ Below w.heap.size w w' := by
  have hz := str_size b
  have HZ : Hid ((str b).size = b.length) := hz
  have hbb : (str b).size ≤ 1099511627776 := by omega
  by_cases h8 : (str b).size < 8
  · have HN : Hid (sealedB b = false) := by show _ = _; simp [sealedB]; intro h; omega
    clear hz
    go_enter Tryz.func85, Tryz.ntmps85
    go_wp2_with fail
    go_ret
    exact ⟨by rw [HN.out]; rfl, Below.refl _ _⟩
  · obtain ⟨n, hn⟩ : ∃ n, (str b).size = n + 4 := ⟨(str b).size - 4, by omega⟩
    have hbl : b.length - 4 = n := by omega
    have hx1 : (str b).extract 0 n = str (b.take n) := by rw [str_extract]; simp
    have hx2 : (str b).extract n (n + 4) = str (b.drop n) := by rw [str_extract, List.take_of_length_le (by simp; omega)]
    have hsub : ((n : Int) + 4 - 4) = (n : Int) := by omega
    have h4n : 4 ≤ n := by omega
    have hle : (n : Int) ≤ ((str b).size : Int) := by omega
    have hle2 : (n : Int) ≤ (n : Int) + 4 := by omega
    have hlt : (b.take n).length ≤ 9223372036854775807 := by simp; omega
    have HN : Hid (sealedB b = (b.drop n == fourI (crc pSeal (b.take n)))) := by
      show _ = _; simp only [sealedB, hbl]; simp [show 8 ≤ b.length by omega]
    have hnb : n ≤ 1099511627776 := by omega
    clear hz h8 hbl
    go_enter Tryz.func85, Tryz.ntmps85
    go_wp2_with fail
    refine (seal_any (b.take n) _ hlt).mono ?_
    rintro e w1 ⟨rfl, hw1⟩
    subst hw1
    have hc := crc_lt (p := pSeal) (by decide) (b.take n)
    go_wp2_with fail
    go_region_law (go_simp; go_at_call 58; refine (fourBytes_any _ _ (by omega) (by omega)).mono ?_; rintro e w' ⟨rfl, hb'⟩; dsimp only)
    all_goals
      go_wp2_with fail
      go_ret
      refine ⟨?_, ?_⟩
      · have e1 := HN.out
        rw [← str_beq] at e1
        rw [e1]
        first | rfl | (simp; done) | (simp [Bool.beq_comm]; done)
      · first | exact hb' | exact Below.trans (Below.drew (Below.refl _ _)) hb'

set_option maxRecDepth 100000 in
set_option maxHeartbeats 4000000 in
theorem framesOf_any (b : List UInt8) (w : World) (hb : b.length ≤ 1099511627776) (h4 : 4 ≤ b.length) :
    Calls Tryz.prog 86 #[.string (str b)] w fun e w' => ∃ ad cap N, e = .returned (.tuple #[.slice ad N cap, .int .i64 ((framed b).2 : Nat)]) ∧ N = (framed b).1.length ∧ Vec w' w.heap.size 64 9 ad N cap (fcells (framed b).1) ∧ Below w.heap.size w w' := by
  have hz := str_size b
  have HZ : Hid ((str b).size = b.length) := hz
  have hbb : (str b).size ≤ 1099511627776 := by omega
  have h4b : 4 ≤ (str b).size := by omega
  have HB : Hid (b.length ≤ 1099511627776) := hb
  clear hz hb h4
  have hV0 : Hid (Vec (w.alloc (.cells #[] 64)) w.heap.size 64 9 (some ⟨w.heap.size, 0, none⟩) 0 0 (fcells [])) := Vec.lit w w.heap.size 64 9 0 [] (Nat.le_refl _) (by omega) rfl
  go_enter Tryz.func86, Tryz.ntmps86
  go_wp2_with fail
  go_loopw [4, 5, 6, 7] (fun v u _ _ wr => ∃ (i : Nat) (ad : Option Addr) (cap N k : Nat) (l : List Fd), i ≤ (str b).size ∧ u = .int .i64 i ∧ v = .slice ad N cap ∧ N = l.length ∧ N ≤ i ∧ b.length - i ≤ k ∧ (l ++ (frF k i (b.drop i)).1, (frF k i (b.drop i)).2) = framed b ∧ Vec wr w.heap.size 64 9 ad N cap (fcells l) ∧ Below w.heap.size w wr) (fun _ u _ _ _ => b.length - (intOf u).toNat)
  case atStart => exact ⟨4, _, _, 0, b.length, [], h4b, rfl, rfl, rfl, by omega, by omega, by simp [framed], hV0.out, (Below.refl _ _).alloc (Nat.le_refl _) _⟩
  case round =>
    obtain ⟨i, ad, cap, N, k, l, hi, rfl, rfl, hN, hNi, hk, hl, hv, hbw⟩ := hrel
    have HN : Hid (N = l.length) := hN
    have HL : Hid ((l ++ (frF k i (b.drop i)).1, (frF k i (b.drop i)).2) = framed b) := hl
    have HK : Hid (b.length - i ≤ k) := hk
    clear hN hl hk
    by_cases hlt : i < (str b).size
    · have hi2 : i ≤ b.length := by rw [← HZ.out]; omega
      go_wp2_with fail
      refine (frameAt_any b i _ HB.out hi2).mono ?_
      rintro e w1 ⟨rfl, hb1⟩
      have hv1 := hv.keep hb1
      have hbw1 := hbw.trans (hb1.mono hbw.size)
      have hz1 := hbw1.size
      clear hv hbw hb1
      obtain ⟨k, rfl⟩ : ∃ k', k = k' + 1 := ⟨k - 1, by have := HK.out; have := HZ.out; omega⟩
      have hne : b.drop i ≠ [] := by
        intro h; have := congrArg List.length h; simp at this; have := HZ.out; omega
      cases hst : standRd (b.drop i) with
      | none =>
        have HS : Hid (framed b = (l, i)) := by
          show _ = _; rw [← HL.out, frF_none hst]; simp
        simp only [standV]
        clear hst hne HL
        go_wp2_with fail
        go_ret2
        exact ⟨ad, cap, N, by rw [HS.out]; rfl, by rw [HS.out]; exact HN.out, by rw [HS.out]; exact hv1.keep ((Below.refl _ _).alloc (Nat.le_refl _) _), hbw1.alloc hz1 _⟩
      | some p =>
        obtain ⟨f, n⟩ := p
        have hn := standRd_le hst
        simp at hn
        have HS : Hid (((l ++ [f.putI i]) ++ (frF k (i + n) (b.drop (i + n))).1, (frF k (i + n) (b.drop (i + n))).2) = framed b) := by
          show _ = _; rw [← HL.out, frF_some hne hst, List.drop_drop]; simp
        have hnl : i + n ≤ (str b).size := by have := HZ.out; omega
        have hn7 : 7 < n := by omega
        simp only [standV]
        clear hst hne HL hn
        have hn0 : ((n : Int) == 0) = false := by rw [beq_eq_false_iff_ne]; omega
        have hvx : ∀ o1 o2, Vec ((w1.alloc o1).alloc o2) w.heap.size 64 9 ad N cap (fcells l) := fun o1 o2 => hv1.keep (((Below.refl _ w1).alloc (Nat.le_refl _) _).alloc (by simp) _)
        have HX : Hid (∀ o1 o2, Vec ((w1.alloc o1).alloc o2) w.heap.size 64 9 ad N cap (fcells l)) := hvx
        clear hvx
        go_wp2_with (at_builtin; refine wpList_push (by rfl) _ _ 62 (by rfl) w.heap.size 64 9 80 (.agg #[.int .i64 0, .int .i64 0, .int .i64 0, .int .i64 0, .int .i64 0, .int .i64 0, .int .i64 0, .bool false, .string ⟨#[]⟩]) Tryz.underlying62 (by kernel_rfl) rfl (by decide) ad N cap _ (by rfl) (HX.out _ _) _ _ (f.putI i).cells (by rfl) rfl ?_ ?_ ?_ ?_ ?_ ?_; exact new_cells2 _ _ _ _; exact onesF _; (omega); (omega); (simp; omega); intro ad' cap' w' hv' hb' hs')
        have h2 : Below w.heap.size w w' := ((hbw1.alloc hz1 _).alloc (by simp; omega) _).trans hb'
        have hv2 : Vec w' w.heap.size 64 9 ad' (N + 1) cap' (fcells (l ++ [f.putI i])) := by
          rw [fcells_append, fcells_one]; exact hv'
        go_roundw
        case rel => exact ⟨i + n, ad', cap', N + 1, k, l ++ [f.putI i], by omega, by go_num, rfl, by have := HN.out; simp; omega, by omega, by have := HK.out; omega, HS.out, hv2, h2⟩
        case measure => have := HZ.out; simp [intOf]; omega
    · have he : b.drop i = [] := List.drop_of_length_le (by rw [← HZ.out]; omega)
      have HS : Hid (framed b = (l, i)) := by show _ = _; rw [← HL.out, he, frF_nil]; simp
      go_wp2_with fail
      go_ret2
      exact ⟨ad, cap, N, by rw [HS.out]; rfl, by rw [HS.out]; exact HN.out, by rw [HS.out]; exact hv, hbw⟩
end Go.Proofs.YtdjpkgaicmklmaaGreat

/- mayFollow of the program, fits of the reference: walked. -/
namespace Go.Proofs.YtdjpkgaicmklmaaGreat
open Go.RowKit

set_option maxRecDepth 100000 in
set_option maxHeartbeats 4000000 in
theorem mayFollow_any (p f : Fd) (w : World) :
    Calls Tryz.prog 97 #[fdV p, fdV f] w fun e w' => e = .returned (.bool (mayB p f)) ∧ Below w.heap.size w w' := by
  have HB : Hid (Below w.heap.size w ((w.alloc (.cells p.cells.toArray 64)).alloc (.cells f.cells.toArray 64))) := (two_boxes w 64 64 p.cells.toArray f.cells.toArray).2.2.2
  by_cases h4 : f.kind = 4
  · have b4 : (f.kind == 4) = true := by simp [h4]
    have HN : Hid (mayB p f = false) := by show _ = _; simp only [mayB]; rw [if_pos h4]
    clear h4
    go_enter Tryz.func97, Tryz.ntmps97
    go_wp2_with fail
    go_ret
    exact ⟨by rw [HN.out]; rfl, HB.out⟩
  · have b4 : (f.kind == 4) = false := by simp [h4]
    by_cases g4 : p.kind = 4
    · have q4 : (p.kind == 4) = true := by simp [g4]
      have HN : Hid (mayB p f = true) := by show _ = _; simp only [mayB]; rw [if_neg h4, if_pos g4]
      clear h4 g4
      go_enter Tryz.func97, Tryz.ntmps97
      go_wp2_with fail
      go_ret
      exact ⟨by rw [HN.out]; rfl, HB.out⟩
    · have q4 : (p.kind == 4) = false := by simp [g4]
      by_cases hne : f.kind ≠ p.kind
      · have bne : (f.kind != p.kind) = true := by simpa using hne
        have HN : Hid (mayB p f = decide (p.kind < f.kind)) := by show _ = _; simp only [mayB]; rw [if_neg h4, if_neg g4, if_pos hne]
        clear h4 g4 hne
        go_enter Tryz.func97, Tryz.ntmps97
        go_wp2_with fail
        go_ret
        exact ⟨by rw [HN.out]; rfl, HB.out⟩
      · have bne : (f.kind != p.kind) = false := by simpa using hne
        by_cases h1 : f.kind = 1
        · have b1 : (f.kind == 1) = true := by simp [h1]
          have HN : Hid (mayB p f = decide (p.site < f.site)) := by show _ = _; simp only [mayB]; rw [if_neg h4, if_neg g4, if_neg hne, if_pos h1]
          clear h4 g4 hne h1
          go_enter Tryz.func97, Tryz.ntmps97
          go_wp2_with fail
          go_ret
          exact ⟨by rw [HN.out]; rfl, HB.out⟩
        · have b1 : (f.kind == 1) = false := by simp [h1]
          by_cases h2 : f.kind = 2
          · have b2 : (f.kind == 2) = true := by simp [h2]
            have HN : Hid (mayB p f = decide (p.id < f.id)) := by show _ = _; simp only [mayB]; rw [if_neg h4, if_neg g4, if_neg hne, if_neg h1, if_pos h2]
            clear h4 g4 hne h1 h2
            go_enter Tryz.func97, Tryz.ntmps97
            go_wp2_with fail
            go_ret
            exact ⟨by rw [HN.out]; rfl, HB.out⟩
          · have b2 : (f.kind == 2) = false := by simp [h2]
            have HN : Hid (mayB p f = true) := by show _ = _; simp only [mayB]; rw [if_neg h4, if_neg g4, if_neg hne, if_neg h1, if_neg h2]
            clear h4 g4 hne h1 h2
            go_enter Tryz.func97, Tryz.ntmps97
            go_wp2_with fail
            go_ret
            exact ⟨by rw [HN.out]; rfl, HB.out⟩

set_option maxRecDepth 100000 in
set_option maxHeartbeats 4000000 in
theorem fits0_any (p f : Fd) (w : World) :
    Calls Tryz.prog 35 #[fdV p, fdV f, .int .i64 0] w fun e w' => e = .returned (.bool (f.kind == 4)) ∧ Below w.heap.size w w' := by
  have HB : Hid (Below w.heap.size w ((w.alloc (.cells p.cells.toArray 64)).alloc (.cells f.cells.toArray 64))) := (two_boxes w 64 64 p.cells.toArray f.cells.toArray).2.2.2
  go_enter Tryz.func35, Tryz.ntmps35
  go_wp2_with fail
  go_ret
  exact ⟨rfl, HB.out⟩

set_option maxRecDepth 100000 in
set_option maxHeartbeats 4000000 in
theorem fits_any (p f : Fd) (i : Nat) (w : World) (hi : i ≠ 0) :
    Calls Tryz.prog 35 #[fdV p, fdV f, .int .i64 i] w fun e w' => e = .returned (.bool (fitB p f)) ∧ Below w.heap.size w w' := by
  have HB : Hid (Below w.heap.size w ((w.alloc (.cells p.cells.toArray 64)).alloc (.cells f.cells.toArray 64))) := (two_boxes w 64 64 p.cells.toArray f.cells.toArray).2.2.2
  · have hib : ((i : Int) == 0) = false := by simp [hi]
    by_cases h1 : f.kind = 1
    · have b1 : (f.kind == 1) = true := by simp [h1]
      have HN : Hid (fitB p f = (p.kind == 4 || (p.kind == 1 && decide (p.site < f.site)))) := by show _ = _; simp only [fitB, if_pos h1]
      clear h1
      by_cases g4 : p.kind = 4
      · have q4 : (p.kind == 4) = true := by simp [g4]
        clear g4
        go_enter Tryz.func35, Tryz.ntmps35
        go_wp2_with fail
        go_ret
        exact ⟨by rw [HN.out, q4]; rfl, HB.out⟩
      · have q4 : (p.kind == 4) = false := by simp [g4]
        by_cases g1 : p.kind = 1
        · have q1 : (p.kind == 1) = true := by simp [g1]
          clear g4 g1
          go_enter Tryz.func35, Tryz.ntmps35
          go_wp2_with fail
          go_ret
          exact ⟨by rw [HN.out, q4, q1]; rfl, HB.out⟩
        · have q1 : (p.kind == 1) = false := by simp [g1]
          clear g4 g1
          go_enter Tryz.func35, Tryz.ntmps35
          go_wp2_with fail
          go_ret
          exact ⟨by rw [HN.out, q4, q1]; rfl, HB.out⟩
    · have b1 : (f.kind == 1) = false := by simp [h1]
      by_cases h2 : f.kind = 2
      · have b2 : (f.kind == 2) = true := by simp [h2]
        have HN : Hid (fitB p f = ((p.kind == 4 || p.kind == 1) || (p.kind == 2 && decide (p.id < f.id)))) := by show _ = _; simp only [fitB, if_neg h1, if_pos h2]
        clear h1 h2
        by_cases g4 : p.kind = 4
        · have q4 : (p.kind == 4) = true := by simp [g4]
          clear g4
          go_enter Tryz.func35, Tryz.ntmps35
          go_wp2_with fail
          go_ret
          exact ⟨by rw [HN.out, q4]; rfl, HB.out⟩
        · have q4 : (p.kind == 4) = false := by simp [g4]
          by_cases g1 : p.kind = 1
          · have q1 : (p.kind == 1) = true := by simp [g1]
            clear g4 g1
            go_enter Tryz.func35, Tryz.ntmps35
            go_wp2_with fail
            go_ret
            exact ⟨by rw [HN.out, q4, q1]; rfl, HB.out⟩
          · have q1 : (p.kind == 1) = false := by simp [g1]
            by_cases g2 : p.kind = 2
            · have q2 : (p.kind == 2) = true := by simp [g2]
              clear g4 g1 g2
              go_enter Tryz.func35, Tryz.ntmps35
              go_wp2_with fail
              go_ret
              exact ⟨by rw [HN.out, q4, q1, q2]; rfl, HB.out⟩
            · have q2 : (p.kind == 2) = false := by simp [g2]
              clear g4 g1 g2
              go_enter Tryz.func35, Tryz.ntmps35
              go_wp2_with fail
              go_ret
              exact ⟨by rw [HN.out, q4, q1, q2]; rfl, HB.out⟩
      · have b2 : (f.kind == 2) = false := by simp [h2]
        by_cases h3 : f.kind = 3
        · have b3 : (f.kind == 3) = true := by simp [h3]
          have HN : Hid (fitB p f = true) := by show _ = _; simp only [fitB, if_neg h1, if_neg h2, if_pos h3]
          clear h1 h2 h3
          go_enter Tryz.func35, Tryz.ntmps35
          go_wp2_with fail
          go_ret
          exact ⟨by rw [HN.out]; rfl, HB.out⟩
        · have b3 : (f.kind == 3) = false := by simp [h3]
          have HN : Hid (fitB p f = false) := by show _ = _; simp only [fitB, if_neg h1, if_neg h2, if_neg h3]
          clear h1 h2 h3
          go_enter Tryz.func35, Tryz.ntmps35
          go_wp2_with fail
          go_ret
          exact ⟨by rw [HN.out]; rfl, HB.out⟩
end Go.Proofs.YtdjpkgaicmklmaaGreat

/- outOfOrder of the program: walked. -/
namespace Go.Proofs.YtdjpkgaicmklmaaGreat
open Go.RowKit

theorem getD_lt (l : List Fd) (i : Nat) (h : i < l.length) : l.getD i fd0 = l[i] := by simp [List.getD, h]
theorem ordF_step {p f : Fd} {l : List Fd} : ordF p (f :: l) = if fitB p f = true then ordF f l else some f.at_ := rfl

set_option maxRecDepth 100000 in
set_option maxHeartbeats 4000000 in
theorem outOfOrder_any (l : List Fd) (ad : Option Addr) (N cap : Nat) (w : World) (hN : N = l.length) (hl : Lies w ad N 9 (fun i => (l.getD i fd0).cells)) (hk : ∀ f, f ∈ l → Kd f) (h4 : ∀ f r, l = f :: r → f.at_ = 4) (hNb : N ≤ 1099511627776) :
    Calls Tryz.prog 87 #[.slice ad N cap] w fun e w' => e = .returned (.int .i64 ((ordRd l).getD 0)) ∧ Below w.heap.size w w' := by
  cases l with
  | nil =>
    have hn0 : ((N : Int) == 0) = true := by rw [hN]; rfl
    clear hN hl
    go_enter Tryz.func87, Tryz.ntmps87
    go_wp2_with fail
    go_ret
    exact ⟨rfl, Below.refl _ _⟩
  | cons f0 r =>
    have HN : Hid (N = (f0 :: r).length) := hN
    have hpos : 0 < N := by rw [hN]; simp
    have hn0 : ((N : Int) == 0) = false := by simp; omega
    obtain ⟨b, o, hbl, hix, c0, c1, -⟩ := hl.found cap hpos
    have hix0 : ∀ w', (Instr.indexAt 62 (.slice ad N cap) (.int .i64 0)).run Tryz.prog w' = .ok (.pointer (some ⟨b, o, none⟩)) w' := hix
    have hc1 : w.cell? ⟨b, o + 1, none⟩ = some (.int .i64 f0.kind) := c1
    clear hix c0 c1 hN
    by_cases hk0 : f0.kind = 4
    · have hkb : (f0.kind != 4) = false := by rw [hk0]; rfl
      have HO : Hid (ordRd (f0 :: r) = ordF f0 r) := by show _ = _; simp only [ordRd, if_pos hk0]
      clear hk0
      go_enter Tryz.func87, Tryz.ntmps87
      go_wp2_with fail
      go_loopw [3] (fun u wr => ∃ i : Nat, 1 ≤ i ∧ i ≤ N ∧ u = .int .i64 i ∧ ordRd (f0 :: r) = ordF ((f0 :: r).getD (i - 1) fd0) ((f0 :: r).drop i) ∧ Below w.heap.size w wr) (fun u _ => N - (intOf u).toNat)
      case atStart => exact ⟨1, by omega, by omega, rfl, HO.out, Below.refl _ _⟩
      case round =>
        obtain ⟨i, hi1, hi, rfl, ho, hbr⟩ := hrel
        have HOI : Hid (ordRd (f0 :: r) = ordF ((f0 :: r).getD (i - 1) fd0) ((f0 :: r).drop i)) := ho
        clear ho
        by_cases hlt : i < N
        · have hil : i < (f0 :: r).length := by rw [← HN.out]; exact hlt
          have hdr : (f0 :: r).drop i = (f0 :: r).getD i fd0 :: (f0 :: r).drop (i + 1) := by
            rw [List.drop_eq_getElem_cons hil, getD_lt _ _ hil]
          have HST : Hid (ordRd (f0 :: r) = if fitB ((f0 :: r).getD (i - 1) fd0) ((f0 :: r).getD i fd0) = true then ordF ((f0 :: r).getD i fd0) ((f0 :: r).drop (i + 1)) else some ((f0 :: r).getD i fd0).at_) := by
            show _ = _; rw [HOI.out, hdr]; rfl
          have hmem : ∀ j, j < (f0 :: r).length → Kd ((f0 :: r).getD j fd0) := fun j hj => by
            rw [getD_lt _ _ hj]; exact hk _ (List.getElem_mem hj)
          have HMF : Hid (mayB ((f0 :: r).getD (i - 1) fd0) ((f0 :: r).getD i fd0) = fitB ((f0 :: r).getD (i - 1) fd0) ((f0 :: r).getD i fd0)) := may_fit (hmem _ (by omega)) (hmem _ hil)
          obtain ⟨b1, o1, hbl1, hix1, c0, c1, c2, c3, c4, c5, c6, c7, c8⟩ := (hl.below hbr).found cap (show i - 1 < N by omega)
          obtain ⟨b2, o2, hbl2, hix2, d0, d1, d2, d3, d4, d5, d6, d7, d8⟩ := (hl.below hbr).found cap hlt
          replace hix1 : ∀ w', (Instr.indexAt 62 (.slice ad N cap) (.int .i64 ((i : Int) - 1))).run Tryz.prog w' = .ok (.pointer (some ⟨b1, o1, none⟩)) w' := by
            intro w'; have := hix1 w'; rwa [show ((i - 1 : Nat) : Int) = (i : Int) - 1 by omega] at this
          have HD0 : Hid (∀ wX, Below wr.heap.size wr wX → wX.cell? ⟨b2, o2, none⟩ = some (.int .i64 ((f0 :: r).getD i fd0).at_)) := fun wX hX => (hX.cell (p := ⟨b2, o2, none⟩) hbl2).trans d0
          have hwr : IntKind.i64.wrap ((i : Int) - 1) = (i : Int) - 1 := by rw [IntKind.wrap_i64]; omega
          clear hdr hmem HOI hil
          generalize (f0 :: r).getD (i - 1) fd0 = p at *
          generalize hgf : (f0 :: r).getD i fd0 = f at *
          have HGF : Hid ((f0 :: r).getD i fd0 = f) := hgf
          clear hgf
          go_wp2_with fail
          go_region_law (go_simp; go_at_call 97; refine (mayFollow_any p f _).mono ?_; rintro e w' ⟨rfl, hb'⟩; rw [HMF.out]; dsimp only)
          all_goals
            have hb2 : Below wr.heap.size wr w' := Below.trans (Below.drew (Below.refl _ _)) hb'
            have hbw : Below w.heap.size w w' := hbr.trans (hb2.mono hbr.size)
            have hd0 := HD0.out _ hb2
            cases hfit : fitB p f with
            | true =>
              have HS2 : Hid (ordRd (f0 :: r) = ordF f ((f0 :: r).drop (i + 1))) := by show _ = _; rw [HST.out, if_pos hfit]
              clear HST HMF hb' hb2
              go_wp2_with fail
              go_roundw
              case rel => exact ⟨i + 1, by omega, by omega, by go_num, by rw [show i + 1 - 1 = i by omega, HGF.out]; exact HS2.out, hbw⟩
              case measure => simp [intOf]; omega
            | false =>
              have HS2 : Hid ((ordRd (f0 :: r)).getD 0 = f.at_) := by show _ = _; rw [HST.out, hfit]; rfl
              clear HST HMF hb' hb2
              go_wp2_with fail
              go_ret
              exact ⟨by rw [HS2.out]; rfl, hbw⟩
        · have hi3 : i = N := by omega
          subst hi3
          have HE : Hid ((ordRd (f0 :: r)).getD 0 = 0) := by
            show _ = _; rw [HOI.out, List.drop_of_length_le (by rw [← HN.out]; exact Nat.le_refl _)]; rfl
          go_wp2_with fail
          go_ret
          exact ⟨by rw [HE.out]; rfl, hbr⟩
    · have hkb : (f0.kind != 4) = true := by rw [bne_iff_ne]; exact hk0
      have HE : Hid ((ordRd (f0 :: r)).getD 0 = 4) := by show _ = _; simp only [ordRd, if_neg hk0]; exact h4 f0 r rfl
      clear hk0
      go_enter Tryz.func87, Tryz.ntmps87
      go_wp2_with fail
      go_ret
      exact ⟨by rw [HE.out]; rfl, Below.refl _ _⟩
end Go.Proofs.YtdjpkgaicmklmaaGreat

/- The owner's books: lists that came out, each with its mark, and what stays of them at each step. -/
namespace Go.Proofs.YtdjpkgaicmklmaaGreat
open Go.RowKit

/-- A list that came out, and the mark that its elements read. -/
structure Bk where
  ad : Option Addr
  n : Nat
  cap : Nat
  mrk : List Value
abbrev Bk.cells (x : Bk) : List Value := .slice x.ad x.n x.cap :: x.mrk
def bcells (L : List Bk) : List Value := (L.map Bk.cells).flatten
theorem bcells_snoc (L : List Bk) (x : Bk) : bcells (L ++ [x]) = bcells L ++ x.cells := by simp [bcells]
/-- It reads so. -/
structure Reads1 (Sh : List Value → Prop) (w : World) (B e m : Nat) (x : Bk) : Prop where
  len : x.mrk.length = m
  vec : Vec w B e m x.ad x.n x.cap (rep x.n x.mrk)
  few : x.n ≤ 1099511627780
  shape : Sh x.mrk
/-- The books of one kind. -/
structure Books (Sh : List Value → Prop) (w : World) (B e eb m : Nat) (ad : Option Addr) (cap : Nat) (L : List Bk) : Prop where
  list : Vec w B eb (m + 1) ad L.length cap (bcells L)
  each : ∀ x, x ∈ L → Reads1 Sh w B e m x
theorem Books.nil {Sh : List Value → Prop} (w : World) (B e eb m : Nat) : Books Sh w B e eb m none 0 [] := ⟨Vec.nil _ _ _ _, fun x h => by cases h⟩
theorem Books.keep {Sh : List Value → Prop} {w w' : World} {B e eb m : Nat} {ad : Option Addr} {cap : Nat} {L : List Bk} (h : Books Sh w B e eb m ad cap L) (hb : Below w.heap.size w w') : Books Sh w' B e eb m ad cap L :=
  ⟨h.list.keep hb, fun x hx => ⟨(h.each x hx).len, (h.each x hx).vec.keep hb, (h.each x hx).few, (h.each x hx).shape⟩⟩

/-- But for block go, and blocks of two types, all is as it was. -/
structure But3 (go e eb : Nat) (w w' : World) : Prop where
  size : w.heap.size ≤ w'.heap.size
  block : ∀ k cur t, k ≠ go → w.heap[k]? = some (.cells cur t) → t ≠ e → t ≠ eb → w'.heap[k]? = some (.cells cur t)
theorem But3.trans {go e eb : Nat} {a b c : World} (h : But3 go e eb a b) (h' : But3 go e eb b c) : But3 go e eb a c :=
  ⟨Nat.le_trans h.size h'.size, fun k cur t h1 h2 h3 h4 => h'.block k cur t h1 (h.block k cur t h1 h2 h3 h4) h3 h4⟩
theorem But3.of_below {go e eb : Nat} {w w' : World} (h : Below w.heap.size w w') : But3 go e eb w w' :=
  ⟨h.size, fun k _ _ _ h2 _ _ => by rw [h.block k (Array.getElem?_eq_some_iff.1 h2).1]; exact h2⟩
theorem But3.of_upd {go e eb g : Nat} {w w' : World} (h : Upd g w w') (hg : g = go ∨ ∃ cur t, w.heap[g]? = some (.cells cur t) ∧ (t = e ∨ t = eb)) : But3 go e eb w w' :=
  ⟨by rw [h.size]; exact Nat.le_refl _, fun k cur t h1 h2 h3 h4 => by
    have hk : k ≠ g := by
      rintro rfl
      rcases hg with hg | ⟨cur', t', hc, ht⟩
      · exact h1 hg
      · rw [h2] at hc; simp at hc; obtain ⟨-, rfl⟩ := hc; rcases ht with ht | ht
        · exact h3 ht
        · exact h4 ht
    rw [h.block k hk]; exact h2⟩
theorem But3.of_kp {go e eb : Nat} {g : Option Nat} {mk : List Value} {w w' : World} (h : Kp g mk w w') (hg : ∀ k, g = some k → ∃ cur t, w.heap[k]? = some (.cells cur t) ∧ (t = e ∨ t = eb)) : But3 go e eb w w' :=
  ⟨h.size, fun k cur t _ h2 h3 h4 => by
    have hk : g ≠ some k := by
      intro hk
      obtain ⟨cur', t', hc, ht⟩ := hg k hk
      rw [h2] at hc; simp at hc; obtain ⟨-, rfl⟩ := hc; rcases ht with ht | ht
      · exact h3 ht
      · exact h4 ht
    rw [h.block k (Array.getElem?_eq_some_iff.1 h2).1 hk]; exact h2⟩
theorem Vec.typed {w : World} {B e m : Nat} {ad : Option Addr} {n cap : Nat} {xs : List Value} (h : Vec w B e m ad n cap xs) : ∀ k, ad.map (·.block) = some k → B ≤ k ∧ ∃ cur, w.heap[k]? = some (.cells cur e) := by
  intro k hk
  rcases h.2 with ⟨h2, _⟩ | ⟨g, c, cur, hv, hB, hc, _⟩
  · simp at h2; rw [h2.1] at hk; cases hk
  · simp at hv; rw [hv.1] at hk; simp at hk; subst hk; exact ⟨hB, cur, hc⟩
theorem Vec.but3 {w w' : World} {B e m go e1 eb1 : Nat} {ad : Option Addr} {n cap : Nat} {xs : List Value} (h : Vec w B e m ad n cap xs) (hb : But3 go e1 eb1 w w') (h1 : e ≠ e1) (h2 : e ≠ eb1) (hgo : ∀ k, ad.map (·.block) = some k → k ≠ go) : Vec w' B e m ad n cap xs := by
  refine ⟨h.1, ?_⟩
  rcases h.2 with h3 | ⟨k, c, cur, hv, hB, hc, r⟩
  · exact Or.inl h3
  · refine Or.inr ⟨k, c, cur, hv, hB, hb.block k cur e (hgo k ?_) hc h1 h2, r⟩
    simp at hv; rw [hv.1]; rfl
theorem Vec.updo {w w' : World} {B e m g : Nat} {ad : Option Addr} {n cap : Nat} {xs : List Value} (h : Vec w B e m ad n cap xs) (hu : Upd g w w') (hg : ∀ b, ad = some b → b.block ≠ g) : Vec w' B e m ad n cap xs := by
  refine ⟨h.1, ?_⟩
  rcases h.2 with h2 | ⟨k, c, cur, hv, hB, hk, r⟩
  · exact Or.inl h2
  · refine Or.inr ⟨k, c, cur, hv, hB, ?_, r⟩
    simp at hv
    rw [hu.block k (hg _ hv.1)]; exact hk
/-- Books of other types stay. -/
theorem Books.but3 {Sh : List Value → Prop} {w w' : World} {B e eb m go e1 eb1 tT : Nat} {oc : List Value} {ad : Option Addr} {cap : Nat} {L : List Bk} (h : Books Sh w B e eb m ad cap L) (hb : But3 go e1 eb1 w w') (ho : Bx w go tT oc)
    (h1 : e ≠ e1) (h2 : e ≠ eb1) (h3 : eb ≠ e1) (h4 : eb ≠ eb1) (h5 : e ≠ tT) (h6 : eb ≠ tT) : Books Sh w' B e eb m ad cap L :=
  ⟨h.list.but3 hb h3 h4 (fun k hk e => ho.apart h.list h6 (by rw [hk, e])), fun x hx => ⟨(h.each x hx).len, (h.each x hx).vec.but3 hb h1 h2 (fun k hk e => ho.apart (h.each x hx).vec h5 (by rw [hk, e])), (h.each x hx).few, (h.each x hx).shape⟩⟩

/-- While the owner writes a list over: his variable, the mark, the list, the books of its kind. -/
structure St (Sh : List Value → Prop) (w0 w : World) (B B1 go gm tT e eb m f : Nat) (oc mk : List Value) (ad : Option Addr) (N cap : Nat) (a4 : Option Addr) (c4 : Nat) (L : List Bk) : Prop where
  o : Bx w go tT oc
  k : Bx w gm e mk
  l : Vec w B1 e m ad N cap (rep N mk)
  b : Vec w B eb (m + 1) a4 L.length c4 (bcells L)
  each : ∀ x, x ∈ L → Reads1 Sh w B e m x ∧ ((∀ b, x.ad = some b → b.block < B1) ∨ x.mrk = mk)
  at_ : oc[f]? = some (.slice a4 L.length c4)
  mark : mk.length = m
  low : B ≤ go
  big : B ≤ B1
  apt : ∀ b, ad = some b → b.block ≠ gm
  old : Below B w0 w
  but : But3 go e eb w0 w

theorem St.step {Sh : List Value → Prop} {w0 w w' : World} {B B1 go gm tT e eb m f : Nat} {oc mk : List Value} {ad : Option Addr} {N cap : Nat} {a4 : Option Addr} {c4 : Nat} {L : List Bk} (h : St Sh w0 w B B1 go gm tT e eb m f oc mk ad N cap a4 c4 L) (hb : Below w.heap.size w w') (hB : B ≤ w.heap.size) : St Sh w0 w' B B1 go gm tT e eb m f oc mk ad N cap a4 c4 L :=
  ⟨h.o.below hb h.o.lt, h.k.below hb h.k.lt, h.l.keep hb, h.b.keep hb, fun x hx => ⟨⟨(h.each x hx).1.len, (h.each x hx).1.vec.keep hb, (h.each x hx).1.few, (h.each x hx).1.shape⟩, (h.each x hx).2⟩, h.at_, h.mark, h.low, h.big, h.apt, h.old.trans (hb.mono hB), h.but.trans (But3.of_below hb)⟩
/-- 'a := append(l, m, ..)': all stays. -/
theorem St.push {Sh : List Value → Prop} {w0 w w' : World} {B B1 go gm tT e eb m f : Nat} {oc mk : List Value} {ad : Option Addr} {N cap : Nat} {a4 : Option Addr} {c4 : Nat} {L : List Bk} (h : St Sh w0 w B B1 go gm tT e eb m f oc mk ad N cap a4 c4 L) (hk : Kp (ad.map (·.block)) mk w w')
    (h1 : e ≠ tT) (h2 : e ≠ eb) (hB : B ≤ w.heap.size) : St Sh w0 w' B B1 go gm tT e eb m f oc mk ad N cap a4 c4 L := by
  refine ⟨h.o.kp hk (h.o.apart h.l h1), h.k.kp hk ?_, h.l.kp h.mark hk (fun _ _ _ => rfl), h.b.kpo hk (fun b hb hb' => ?_), fun x hx => ?_, h.at_, h.mark, h.low, h.big, h.apt, hk.below h.old hB (fun k e => Nat.le_trans h.big (h.l.typed k e).1), h.but.trans (But3.of_kp hk fun k e => ?_)⟩
  · intro e; cases ad with
    | none => cases e
    | some b => simp at e; exact h.apt b rfl e
  · exact h.b.apart h.l (fun e => h2 e.symm) b hb hb'
  · obtain ⟨h3, h4⟩ := h.each x hx
    refine ⟨⟨h3.len, h3.vec.kp h3.len hk (fun b hb hb' => ?_), h3.few, h3.shape⟩, h4⟩
    rcases h4 with h4 | h4
    · have := (h.l.typed _ hb').1; have := h4 b hb; omega
    · exact h4
  · obtain ⟨_, cur, hc⟩ := h.l.typed k e; exact ⟨cur, _, hc, Or.inl rfl⟩
/-- 'o.l = append(o.l, book{..})': one book more. -/
theorem St.book {Sh : List Value → Prop} {w0 w w' : World} {B B1 go gm tT e eb m f : Nat} {oc mk : List Value} {ad : Option Addr} {N cap : Nat} {a4 : Option Addr} {c4 : Nat} {L : List Bk} (h : St Sh w0 w B B1 go gm tT e eb m f oc mk ad N cap a4 c4 L) {x : Bk} {a5 : Option Addr} {c5 : Nat}
    (hv : Vec w' B eb (m + 1) a5 (L.length + 1) c5 (bcells L ++ x.cells)) (hk : Kp (a4.map (·.block)) x.cells w w') (hx : Reads1 Sh w B e m x) (hm : x.mrk = mk) (h1 : eb ≠ tT) (h2 : e ≠ eb) (h3 : e ≠ tT) (hf : f < oc.length) (hB : B ≤ w.heap.size) :
    St Sh w0 (w'.setCell ⟨go, f, none⟩ (.slice a5 (L.length + 1) c5)) B B1 go gm tT e eb m f (oc.set f (.slice a5 (L.length + 1) c5)) mk ad N cap a5 c5 (L ++ [x]) := by
  have hu : Upd go w' (w'.setCell ⟨go, f, none⟩ (.slice a5 (L.length + 1) c5)) := (Upd.refl go w').setCell _ rfl _
  have ho : Bx w' go tT oc := h.o.kp hk (h.o.apart h.b h1)
  have hkk : Bx w' gm e mk := h.k.kp hk (h.k.apart h.b (fun e => h2 e.symm))
  have hl : Vec w' B1 e m ad N cap (rep N mk) := h.l.kpo hk (fun b hb hb' => h.l.apart h.b h2 b hb hb')
  have hgo : gm ≠ go := by
    intro e1; have a := hkk.h; have b := ho.h; rw [e1, b] at a; simp at a; exact h3 a.2.symm
  have each : ∀ y, Reads1 Sh w B e m y → Reads1 Sh (w'.setCell ⟨go, f, none⟩ (.slice a5 (L.length + 1) c5)) B e m y := fun y hy => by
    have := hy.vec.kpo hk (fun b hb hb' => hy.vec.apart h.b h2 b hb hb')
    exact ⟨hy.len, this.updo hu (fun b hb e1 => ho.apart this h3 (by rw [hb]; simp [e1])), hy.few, hy.shape⟩
  refine ⟨ho.setCell f _, hkk.upd hu hgo, hl.updo hu (fun b hb e1 => ho.apart hl h3 (by rw [hb]; simp [e1])), ?_, fun y hy => ?_, ?_, h.mark, h.low, h.big, h.apt, ?_, ?_⟩
  · rw [bcells_snoc, List.length_append]
    exact hv.updo hu (fun b hb e1 => ho.apart hv h1 (by rw [hb]; simp [e1]))
  · rcases List.mem_append.1 hy with hy | hy
    · exact ⟨each y (h.each y hy).1, (h.each y hy).2⟩
    · simp at hy; subst hy; exact ⟨each _ hx, Or.inr hm⟩
  · simp [hf]
  · exact hu.below (hk.below h.old hB (fun k e => (h.b.typed k e).1)) h.low
  · exact (h.but.trans (But3.of_kp hk fun k e1 => by obtain ⟨_, cur, hc⟩ := h.b.typed k e1; exact ⟨cur, _, hc, Or.inr rfl⟩)).trans (But3.of_upd hu (Or.inl rfl))
end Go.Proofs.YtdjpkgaicmklmaaGreat

/- linkOf of the program: walked. -/
namespace Go.Proofs.YtdjpkgaicmklmaaGreat
open Go.RowKit

set_option maxRecDepth 100000 in
set_option maxHeartbeats 4000000 in
theorem linkOf_any (l : List Fd) (ad : Option Addr) (N cap : Nat) (w : World) (hN : N = l.length) (hl : Lies w ad N 9 (fun i => (l.getD i fd0).cells)) (ho : Ordered l) (hNb : N ≤ 1099511627776) :
    Calls Tryz.prog 88 #[.slice ad N cap] w fun e w' => ∃ a1 n1 c1 a2 n2 c2 a3 n3 c3, e = .returned (.agg (lnkC (l.getD 0 fd0).seq (l.getD 0 fd0).base a1 n1 c1 a2 n2 c2 a3 n3 c3).toArray) ∧ Three w' w.heap.size l a1 n1 c1 a2 n2 c2 a3 n3 c3 ∧ Below w.heap.size w w' := by
  obtain ⟨hR0, hL0, hs2, hb0⟩ := two_boxes w 46 46 (lnkC 0 0 none 0 0 none 0 0 none 0 0).toArray (lnkC 0 0 none 0 0 none 0 0 none 0 0).toArray
  have HN : Hid (N = l.length) := hN
  have HO : Hid (Ordered l) := ho
  clear hN ho
  have HS : Hid (∃ a1 n1 c1 a2 n2 c2 a3 n3 c3, a1 = some ⟨w.heap.size + 2, 0, none⟩ ∧ n1 = 0 ∧ c1 = 0 ∧ a2 = some ⟨w.heap.size + 3, 0, none⟩ ∧ n2 = 0 ∧ c2 = 0 ∧ a3 = some ⟨w.heap.size + 4, 0, none⟩ ∧ n3 = 0 ∧ c3 = 0 ∧
      Three (((((w.alloc (.cells (lnkC 0 0 none 0 0 none 0 0 none 0 0).toArray 46)).alloc (.cells (lnkC 0 0 none 0 0 none 0 0 none 0 0).toArray 46)).alloc (.cells #[] 37)).alloc (.cells #[] 39)).alloc (.cells #[] 41)) (w.heap.size + 2) [] a1 n1 c1 a2 n2 c2 a3 n3 c3 ∧
      Bx (((((w.alloc (.cells (lnkC 0 0 none 0 0 none 0 0 none 0 0).toArray 46)).alloc (.cells (lnkC 0 0 none 0 0 none 0 0 none 0 0).toArray 46)).alloc (.cells #[] 37)).alloc (.cells #[] 39)).alloc (.cells #[] 41)) w.heap.size 46 (lnkC 0 0 none 0 0 none 0 0 none 0 0) ∧
      Bx (((((w.alloc (.cells (lnkC 0 0 none 0 0 none 0 0 none 0 0).toArray 46)).alloc (.cells (lnkC 0 0 none 0 0 none 0 0 none 0 0).toArray 46)).alloc (.cells #[] 37)).alloc (.cells #[] 39)).alloc (.cells #[] 41)) (w.heap.size + 1) 46 (lnkC 0 0 none 0 0 none 0 0 none 0 0) ∧
      Below w.heap.size w (((((w.alloc (.cells (lnkC 0 0 none 0 0 none 0 0 none 0 0).toArray 46)).alloc (.cells (lnkC 0 0 none 0 0 none 0 0 none 0 0).toArray 46)).alloc (.cells #[] 37)).alloc (.cells #[] 39)).alloc (.cells #[] 41)) ∧
      w.heap.size + 2 ≤ (((((w.alloc (.cells (lnkC 0 0 none 0 0 none 0 0 none 0 0).toArray 46)).alloc (.cells (lnkC 0 0 none 0 0 none 0 0 none 0 0).toArray 46)).alloc (.cells #[] 37)).alloc (.cells #[] 39)).alloc (.cells #[] 41)).heap.size) := by
    have q1 := Vec.lit ((w.alloc (.cells (lnkC 0 0 none 0 0 none 0 0 none 0 0).toArray 46)).alloc (.cells (lnkC 0 0 none 0 0 none 0 0 none 0 0).toArray 46)) (w.heap.size + 2) 37 2 0 [] (Nat.le_of_eq hs2.symm) (by omega) rfl
    have q2 := Vec.lit (((w.alloc (.cells (lnkC 0 0 none 0 0 none 0 0 none 0 0).toArray 46)).alloc (.cells (lnkC 0 0 none 0 0 none 0 0 none 0 0).toArray 46)).alloc (.cells #[] 37)) (w.heap.size + 2) 39 5 0 [] (by rw [World.size_alloc, hs2]; omega) (by omega) rfl
    have q3 := Vec.lit ((((w.alloc (.cells (lnkC 0 0 none 0 0 none 0 0 none 0 0).toArray 46)).alloc (.cells (lnkC 0 0 none 0 0 none 0 0 none 0 0).toArray 46)).alloc (.cells #[] 37)).alloc (.cells #[] 39)) (w.heap.size + 2) 41 2 0 [] (by rw [World.size_alloc, World.size_alloc, hs2]; omega) (by omega) rfl
    rw [hs2] at q1
    rw [World.size_alloc, hs2] at q2
    rw [World.size_alloc, World.size_alloc, hs2] at q3
    refine ⟨_, 0, 0, _, 0, 0, _, 0, 0, rfl, rfl, rfl, rfl, rfl, rfl, rfl, rfl, rfl, ⟨?_, ?_, q3, rfl, rfl, rfl⟩, ((hR0.alloc _).alloc _).alloc _, ((hL0.alloc _).alloc _).alloc _, ((hb0.alloc (by rw [hs2]; omega) _).alloc (by rw [World.size_alloc, hs2]; omega) _).alloc (by rw [World.size_alloc, World.size_alloc, hs2]; omega) _, by rw [World.size_alloc, World.size_alloc, World.size_alloc, hs2]; omega⟩
    · exact (q1.keep ((Below.refl _ _).alloc (Nat.le_refl _) _)).keep ((Below.refl _ _).alloc (Nat.le_refl _) _)
    · exact q2.keep ((Below.refl _ _).alloc (Nat.le_refl _) _)
  clear hR0 hL0 hs2 hb0
  go_enter Tryz.func88, Tryz.ntmps88
  go_wp2_with fail
  go_loopw [4, 5, 6, 7, 8] (fun x1 x2 x3 u _ wr => ∃ (i : Nat) (a1 : Option Addr) (n1 c1 : Nat) (a2 : Option Addr) (n2 c2 : Nat) (a3 : Option Addr) (n3 c3 : Nat), i ≤ N ∧ u = .int .i64 i ∧ x1 = .slice a1 n1 c1 ∧ x2 = .slice a2 n2 c2 ∧ x3 = .slice a3 n3 c3 ∧
    Bx wr (w.heap.size + 1) 46 (lnkC (if i = 0 then 0 else (l.getD 0 fd0).seq) (if i = 0 then 0 else (l.getD 0 fd0).base) none 0 0 none 0 0 none 0 0) ∧ Three wr (w.heap.size + 2) (l.take i) a1 n1 c1 a2 n2 c2 a3 n3 c3 ∧ Bx wr w.heap.size 46 (lnkC 0 0 none 0 0 none 0 0 none 0 0) ∧ w.heap.size + 2 ≤ wr.heap.size ∧ Below w.heap.size w wr) (fun _ _ _ u _ _ => N - (intOf u).toNat)
  case atStart =>
    obtain ⟨_, _, _, _, _, _, _, _, _, rfl, rfl, rfl, rfl, rfl, rfl, rfl, rfl, rfl, t, r1, r2, bb, zz⟩ := HS.out
    exact ⟨0, _, _, _, _, _, _, _, _, _, Nat.zero_le _, rfl, rfl, rfl, rfl, r2, by rw [List.take_zero]; exact t, r1, zz, bb⟩
  case round =>
    clear HS
    obtain ⟨i, a1, n1, c1, a2, n2, c2, a3, n3, c3, hi, rfl, rfl, rfl, rfl, hL, hT, hR, hz, hB⟩ := hrel
    have q1 : n1 ≤ 1099511627776 := by rw [hT.e1]; have := ckOf_le (l.take i); simp at this; omega
    have q2 : n2 ≤ 1099511627776 := by rw [hT.e2]; have := cdOf_le (l.take i); simp at this; omega
    have q3 : n3 ≤ 1099511627776 := by rw [hT.e3]; have := edOf_le (l.take i); simp at this; omega
    have HAL : Hid (∀ o1 o2, Below wr.heap.size wr ((wr.alloc o1).alloc o2)) := fun o1 o2 => ((Below.refl _ wr).alloc (Nat.le_refl _) _).alloc (by simp) _
    have HAL2 : Hid (∀ {g e : Nat} {cs : List Value} {o1 o2 : Obj}, Bx wr g e cs → Bx ((wr.alloc o1).alloc o2) g e cs) := fun h => (h.alloc _).alloc _
    by_cases hlt : i < N
    · have hil : i < l.length := by rw [← HN.out]; exact hlt
      obtain ⟨b, o, hbl, hix, c0', c1', c2', c3', c4', c5', c6', c7', c8'⟩ := (hl.below hB).found cap hlt
      have HTK : Hid (l.take (i + 1) = l.take i ++ [l.getD i fd0]) := by
        show _ = _; rw [List.take_add_one, List.getElem?_eq_getElem hil]; simp [List.getD, hil]
      have hkd : (i = 0 ∧ (l.getD i fd0).kind = 4) ∨ (0 < i ∧ ((l.getD i fd0).kind = 1 ∨ (l.getD i fd0).kind = 2 ∨ (l.getD i fd0).kind = 3)) := by
        by_cases h0 : i = 0
        · subst h0; exact Or.inl ⟨rfl, HO.out.first⟩
        · exact Or.inr ⟨by omega, HO.out.rest i (by omega) hil⟩
      rcases hkd with ⟨hi0, hfk⟩ | ⟨hi0, hfk⟩
      · subst hi0
        have hix0 : ∀ w', (Instr.indexAt 62 (.slice ad N cap) (.int .i64 0)).run Tryz.prog w' = .ok (.pointer (some ⟨b, o, none⟩)) w' := hix
        generalize hgf : l.getD 0 fd0 = f at *
        have HFK : Hid (f.kind = 4) := hfk
        have kb : (f.kind == 4) = true := by rw [hfk]; rfl
        simp only [↓reduceIte] at hL
        have hT2 : Three wr (w.heap.size + 2) (l.take 1) a1 n1 c1 a2 n2 c2 a3 n3 c3 := by rw [HTK.out]; exact hT.head hfk
        have al1 : ∀ o, Below wr.heap.size wr (wr.alloc o) := fun o => (Below.refl _ wr).alloc (Nat.le_refl _) _
        have hLx := hL.alloc (.cells f.cells.toArray 64)
        have hRx := hR.alloc (.cells f.cells.toArray 64)
        have hTx := hT2.keep (al1 (.cells f.cells.toArray 64))
        have hBx := hB.trans ((al1 (.cells f.cells.toArray 64)).mono hB.size)
        have hzx : w.heap.size + 2 ≤ (wr.alloc (.cells f.cells.toArray 64)).heap.size := by simp; omega
        have hFx := Bx.new wr 64 f.cells.toArray
        clear hfk hgf
        go_wp2_with (first
          | (refine wpList_bget (by rfl) 3 _ (by rfl) wr.heap.size 64 _ (by rfl) _ hFx _ (by rfl) _ Tryz.underlying3 (by rfl) ?_)
          | (refine wpList_bput (by rfl) _ _ 3 (by rfl) (w.heap.size + 1) 46 _ (by rfl) _ (.int .i64 _) (by rfl) hLx (by kernel_rfl) (by simp) (by rfl) (by rfl) ?_; intro w9 hL9 hU9; replace hLx := hL9; replace hTx := hTx.upd hU9 (by omega); replace hRx := hRx.upd hU9 (by omega); replace hFx := hFx.upd hU9 (by omega); replace hBx := hU9.below hBx (by omega); replace hzx : w.heap.size + 2 ≤ w9.heap.size := (by rw [hU9.size]; exact hzx); clear hL9 hU9; dsimp only [List.set] at hLx))
        go_roundw
        case rel => exact ⟨1, a1, n1, c1, a2, n2, c2, a3, n3, c3, by omega, by go_num, rfl, rfl, rfl, hLx, hTx, hRx, hzx, hBx⟩
        case measure => simp [intOf]; omega
      · have hi1 : ¬ i = 0 := by omega
        simp only [if_neg hi1] at hL
        generalize hgf : l.getD i fd0 = f at *
        clear hgf
        rcases hfk with hfk | hfk | hfk
        · have k4 : (f.kind == 4) = false := by rw [hfk]; rfl
          have k1 : (f.kind == 1) = true := by rw [hfk]; rfl
          go_wp2_with (at_builtin; refine wpList_pushk (by rfl) _ _ 23 (by rfl) (w.heap.size + 2) 37 2 16 (.agg #[.int .i64 0, .int .i64 0]) Tryz.underlying23 (by kernel_rfl) rfl (by decide) a1 n1 c1 _ (by rfl) ((hT.keep (HAL.out _ _)).v1) _ 1 1 (Ck.mk f.site f.count).cells (by rfl) rfl ?_ ?_ ?_ ?_ ?_ ?_ ?_; (rw [rep_one]; exact new_cells2 _ _ _ _); (intro v h; simp at h; rcases h with rfl | rfl <;> rfl); (omega); (omega); (omega); (simp; omega); intro ad' cap' w' hv' hk')
          have hT2 := (hT.keep (HAL.out _ _)).push1 hfk hv' hk'
          have hb2 : Below w.heap.size w w' := hk'.below ((hB.alloc hB.size _).alloc (by have := hB.size; simp; omega) _) (by have := hB.size; simp; omega) (fun q e => by have := (hT.v1.typed q e).1; omega)
          have hR2 := (HAL2.out hR).kp hk' (hR.apart hT.v1 (by decide))
          have hL2 := (HAL2.out hL).kp hk' (hL.apart hT.v1 (by decide))
          have hsz2 : w.heap.size + 2 ≤ w'.heap.size := by have := hk'.size; simp at this; omega
          rw [← HTK.out] at hT2
          go_roundw
          case rel => exact ⟨i + 1, ad', (n1 + 1), cap', a2, n2, c2, a3, n3, c3, by omega, by go_num, rfl, rfl, rfl, by simpa [hi0] using hL2, hT2, hR2, hsz2, hb2⟩
          case measure => simp [intOf]; omega

        · have k4 : (f.kind == 4) = false := by rw [hfk]; rfl
          have k1 : (f.kind == 1) = false := by rw [hfk]; rfl
          have k2 : (f.kind == 2) = true := by rw [hfk]; rfl
          go_wp2_with (at_builtin; refine wpList_pushk (by rfl) _ _ 24 (by rfl) (w.heap.size + 2) 39 5 48 (.agg #[.int .i64 0, .int .i64 0, .int .i64 0, .bool false, .string ⟨#[]⟩]) Tryz.underlying24 (by kernel_rfl) rfl (by decide) a2 n2 c2 _ (by rfl) ((hT.keep (HAL.out _ _)).v2) _ 1 1 (Cd.mk f.id f.site f.count f.gone f.text).cells (by rfl) rfl ?_ ?_ ?_ ?_ ?_ ?_ ?_; (rw [rep_one]; exact new_cells2 _ _ _ _); (intro v h; simp at h; rcases h with rfl | rfl | rfl | rfl | rfl <;> rfl); (omega); (omega); (omega); (simp; omega); intro ad' cap' w' hv' hk')
          have hT2 := (hT.keep (HAL.out _ _)).push2 hfk hv' hk'
          have hb2 : Below w.heap.size w w' := hk'.below ((hB.alloc hB.size _).alloc (by have := hB.size; simp; omega) _) (by have := hB.size; simp; omega) (fun q e => by have := (hT.v2.typed q e).1; omega)
          have hR2 := (HAL2.out hR).kp hk' (hR.apart hT.v2 (by decide))
          have hL2 := (HAL2.out hL).kp hk' (hL.apart hT.v2 (by decide))
          have hsz2 : w.heap.size + 2 ≤ w'.heap.size := by have := hk'.size; simp at this; omega
          rw [← HTK.out] at hT2
          go_roundw
          case rel => exact ⟨i + 1, a1, n1, c1, ad', (n2 + 1), cap', a3, n3, c3, by omega, by go_num, rfl, rfl, rfl, by simpa [hi0] using hL2, hT2, hR2, hsz2, hb2⟩
          case measure => simp [intOf]; omega

        · have k4 : (f.kind == 4) = false := by rw [hfk]; rfl
          have k1 : (f.kind == 1) = false := by rw [hfk]; rfl
          have k2 : (f.kind == 2) = false := by rw [hfk]; rfl
          have k3 : (f.kind == 3) = true := by rw [hfk]; rfl
          go_wp2_with (at_builtin; refine wpList_pushk (by rfl) _ _ 25 (by rfl) (w.heap.size + 2) 41 2 24 (.agg #[.int .i64 0, .string ⟨#[]⟩]) Tryz.underlying25 (by kernel_rfl) rfl (by decide) a3 n3 c3 _ (by rfl) ((hT.keep (HAL.out _ _)).v3) _ 1 1 (Ed.mk f.id f.text).cells (by rfl) rfl ?_ ?_ ?_ ?_ ?_ ?_ ?_; (rw [rep_one]; exact new_cells2 _ _ _ _); (intro v h; simp at h; rcases h with rfl | rfl <;> rfl); (omega); (omega); (omega); (simp; omega); intro ad' cap' w' hv' hk')
          have hT2 := (hT.keep (HAL.out _ _)).push3 hfk hv' hk'
          have hb2 : Below w.heap.size w w' := hk'.below ((hB.alloc hB.size _).alloc (by have := hB.size; simp; omega) _) (by have := hB.size; simp; omega) (fun q e => by have := (hT.v3.typed q e).1; omega)
          have hR2 := (HAL2.out hR).kp hk' (hR.apart hT.v3 (by decide))
          have hL2 := (HAL2.out hL).kp hk' (hL.apart hT.v3 (by decide))
          have hsz2 : w.heap.size + 2 ≤ w'.heap.size := by have := hk'.size; simp at this; omega
          rw [← HTK.out] at hT2
          go_roundw
          case rel => exact ⟨i + 1, a1, n1, c1, a2, n2, c2, ad', (n3 + 1), cap', by omega, by go_num, rfl, rfl, rfl, by simpa [hi0] using hL2, hT2, hR2, hsz2, hb2⟩
          case measure => simp [intOf]; omega

    · have hi3 : i = N := by omega
      subst hi3
      have hi1 : ¬ i = 0 := by have := HO.out.some_; have := HN.out; omega
      simp only [if_neg hi1] at hL
      rw [List.take_of_length_le (by rw [← HN.out]; exact Nat.le_refl _)] at hT
      go_wp2_with (first
        | (refine wpList_bputs (by rfl) _ _ 27 (by rfl) (w.heap.size + 1) 46 2 (by rfl) _ [.slice a1 n1 c1, .slice a2 n2 c2, .slice a3 n3 c3] (by rfl) hL 3 (by rfl) (by kernel_rfl) (by simp) (by intro x hx; simp at hx; rcases hx with rfl | rfl | rfl <;> rfl) ?_; intro w9 hL9 hU9; replace hR := hR.upd hU9 (by omega); replace hT := hT.upd hU9 (by omega); replace hB := hU9.below hB (by omega); clear hU9; dsimp only [List.take, List.drop, List.cons_append, List.nil_append] at hL9)
        | (refine wpList_bload (by rfl) _ _ (by rfl) (w.heap.size + 1) 46 (by rfl) _ hL9 _ Tryz.underlying46 (by rfl) 5 (by rfl) (by kernel_rfl) ?_)
        | (refine wpList_bstore (by rfl) _ _ _ (by rfl) w.heap.size 46 (by rfl) _ _ (by rfl) hR 5 (by rfl) (by kernel_rfl) (by rfl) (by intro x hx; simp at hx; rcases hx with rfl | rfl | rfl | rfl | rfl <;> rfl) ?_; intro w8 hR9 hU9; replace hT := hT.upd hU9 (by omega); replace hB := hU9.below hB (by omega); clear hU9))
      exact bodyPost_ret (v := .agg (lnkC (l.getD 0 fd0).seq (l.getD 0 fd0).base a1 n1 c1 a2 n2 c2 a3 n3 c3).toArray) (results_box1 (by rfl) _ _ w.heap.size 46 _ _ (by rfl) hR9 Tryz.underlying46 (by rfl) 5 (by rfl) (by kernel_rfl)) rfl ⟨a1, _, c1, a2, _, c2, a3, _, c3, rfl, ⟨hT.v1.mono (by omega), hT.v2.mono (by omega), hT.v3.mono (by omega), hT.e1, hT.e2, hT.e3⟩, hB⟩
end Go.Proofs.YtdjpkgaicmklmaaGreat

/- Read of the program: walked. -/
namespace Go.Proofs.YtdjpkgaicmklmaaGreat
open Go.RowKit

/-- Three lists in memory. -/
structure Lists (w : World) (B : Nat) (K : List Ck) (C : List Cd) (E : List Ed) (a1 : Option Addr) (n1 c1 : Nat) (a2 : Option Addr) (n2 c2 : Nat) (a3 : Option Addr) (n3 c3 : Nat) : Prop where
  v1 : Vec w B 37 2 a1 n1 c1 (kcells K)
  v2 : Vec w B 39 5 a2 n2 c2 (ccells C)
  v3 : Vec w B 41 2 a3 n3 c3 (ecells E)
  e1 : n1 = K.length
  e2 : n2 = C.length
  e3 : n3 = E.length
theorem Lists.nil (w : World) (B : Nat) : Lists w B [] [] [] none 0 0 none 0 0 none 0 0 := ⟨Vec.nil _ _ _ _, Vec.nil _ _ _ _, Vec.nil _ _ _ _, rfl, rfl, rfl⟩
theorem Lists.keep {w w' : World} {B : Nat} {K : List Ck} {C : List Cd} {E : List Ed} {a1 : Option Addr} {n1 c1 : Nat} {a2 : Option Addr} {n2 c2 : Nat} {a3 : Option Addr} {n3 c3 : Nat} (h : Lists w B K C E a1 n1 c1 a2 n2 c2 a3 n3 c3) (hb : Below w.heap.size w w') : Lists w' B K C E a1 n1 c1 a2 n2 c2 a3 n3 c3 := ⟨h.v1.keep hb, h.v2.keep hb, h.v3.keep hb, h.e1, h.e2, h.e3⟩
theorem Lists.mono {w : World} {B B' : Nat} {K : List Ck} {C : List Cd} {E : List Ed} {a1 : Option Addr} {n1 c1 : Nat} {a2 : Option Addr} {n2 c2 : Nat} {a3 : Option Addr} {n3 c3 : Nat} (h : Lists w B K C E a1 n1 c1 a2 n2 c2 a3 n3 c3) (hb : B' ≤ B) : Lists w B' K C E a1 n1 c1 a2 n2 c2 a3 n3 c3 := ⟨h.v1.mono hb, h.v2.mono hb, h.v3.mono hb, h.e1, h.e2, h.e3⟩
theorem Lists.upd {w w' : World} {B g : Nat} {K : List Ck} {C : List Cd} {E : List Ed} {a1 : Option Addr} {n1 c1 : Nat} {a2 : Option Addr} {n2 c2 : Nat} {a3 : Option Addr} {n3 c3 : Nat} (h : Lists w B K C E a1 n1 c1 a2 n2 c2 a3 n3 c3) (hu : Upd g w w') (hg : g < B) : Lists w' B K C E a1 n1 c1 a2 n2 c2 a3 n3 c3 := ⟨h.v1.upd hu hg, h.v2.upd hu hg, h.v3.upd hu hg, h.e1, h.e2, h.e3⟩
theorem Three.lists {w : World} {B : Nat} {l : List Fd} {a1 : Option Addr} {n1 c1 : Nat} {a2 : Option Addr} {n2 c2 : Nat} {a3 : Option Addr} {n3 c3 : Nat} (h : Three w B l a1 n1 c1 a2 n2 c2 a3 n3 c3) : Lists w B (ckOf l) (cdOf l) (edOf l) a1 n1 c1 a2 n2 c2 a3 n3 c3 := ⟨h.v1, h.v2, h.v3, h.e1, h.e2, h.e3⟩
/-- What a Read returns. -/
def ReadAns (x : Ans) (B : Nat) (e : Ending) (w' : World) : Prop := ∃ a1 n1 c1 a2 n2 c2 a3 n3 c3, e = .returned (.tuple #[.agg (lnkC x.seq x.base a1 n1 c1 a2 n2 c2 a3 n3 c3).toArray, .int .i64 x.err, .int .i64 x.place]) ∧ Lists w' B x.K x.C x.E a1 n1 c1 a2 n2 c2 a3 n3 c3
theorem frF_at : ∀ (k i : Nat) (s : List UInt8), ∀ f ∈ (frF k i s).1, (i : Int) ≤ f.at_
  | 0, _, _, f, h => by simp [frF] at h
  | k + 1, i, s, f, h => by
    by_cases hs : s = []
    · subst hs; simp [frF] at h
    · cases hst : standRd s with
      | none => rw [frF_none hst] at h; cases h
      | some p =>
        obtain ⟨g, n⟩ := p
        rw [frF_some hs hst] at h
        rcases List.mem_cons.1 h with rfl | h
        · exact Int.le_refl _
        · have := frF_at k (i + n) (s.drop n) f h; omega
theorem ordF_mem : ∀ (l : List Fd) (p : Fd) (q : Int), ordF p l = some q → ∃ f ∈ l, f.at_ = q
  | [], _, _, h => by cases h
  | f :: l, p, q, h => by
    simp only [ordF] at h
    split at h
    · obtain ⟨g, hg, he⟩ := ordF_mem l f q h; exact ⟨g, List.mem_cons_of_mem _ hg, he⟩
    · simp at h; exact ⟨f, List.mem_cons_self .., h⟩
theorem ordRd_ne {k : Nat} {s : List UInt8} {q : Int} (h : ordRd (frF k 4 s).1 = some q) : 4 ≤ q := by
  have ha := frF_at k 4 s
  cases hl : (frF k 4 s).1 with
  | nil => rw [hl] at h; simp [ordRd] at h; omega
  | cons f l =>
    rw [hl] at h ha
    simp only [ordRd] at h
    split at h
    · obtain ⟨g, hg, rfl⟩ := ordF_mem l f q h; exact ha g (List.mem_cons_of_mem _ hg)
    · simp at h; subst h; exact ha f (List.mem_cons_self ..)

set_option maxRecDepth 100000 in
set_option maxHeartbeats 4000000 in
theorem bread_any (b : List UInt8) (w : World) (hb : b.length ≤ 1099511627776) :
    Calls Tryz.prog 66 #[.string (str b)] w fun e w' => ReadAns (readRd b) w.heap.size e w' ∧ Below w.heap.size w w' := by
  have hz := str_size b
  have HZ : Hid ((str b).size = b.length) := hz
  obtain ⟨hR, hW, hB⟩ := one_box w 46 (lnkC 0 0 none 0 0 none 0 0 none 0 0).toArray
  have hbb : (str b).size ≤ 1099511627776 := by omega
  have hx4 : (str b).extract 0 4 = str (b.take 4) := by rw [str_extract]; simp
  by_cases h4 : (str b).size < 4
  · have HN : Hid (readRd b = ansErr 7 0) := by show _ = _; unfold readRd; rw [if_pos (Or.inl (by omega))]
    clear hz
    go_enter Tryz.func66, Tryz.ntmps66
    go_wp2_with fail
    exact bodyPost_ret (v := .tuple #[.agg (lnkC 0 0 none 0 0 none 0 0 none 0 0).toArray, .int .i64 7, .int .i64 0]) (results_box3 (by rfl) _ _ w.heap.size 46 _ _ _ _ (by rfl) hR (by rfl) (by rfl) Tryz.underlying46 (by rfl) 5 (by rfl) (by kernel_rfl)) rfl ⟨by rw [HN.out]; exact ⟨none, 0, 0, none, 0, 0, none, 0, 0, rfl, Lists.nil _ _⟩, hB⟩
  · by_cases hm : b.take 4 = magicB
    · have hmk : ((str (b.take 4)).toList == [80, 82, 67, 49]) = true := by rw [str_toList, hm]; rfl
      have HC : Hid (readRd b = if sealedB b = true then
          if (framed (b.take (b.length - 4))).2 < b.length - 4 then ansErr 9 (framed (b.take (b.length - 4))).2
          else match ordRd (framed (b.take (b.length - 4))).1 with
            | some p => ansErr 10 p
            | none => ansOk (framed (b.take (b.length - 4))).1
        else ansErr 8 0) := by show _ = _; unfold readRd; rw [if_neg (by rintro (h | h); (omega); exact h hm)] <;> rfl
      clear hm
      go_enter Tryz.func66, Tryz.ntmps66
      clear hz
      go_wp2_with fail
      refine (sealed_any b _ (by have := HZ.out; omega)).mono ?_
      rintro e w1 ⟨rfl, hb1⟩
      replace hR := hR.below hb1 hR.lt
      replace hB := hB.trans (hb1.mono (Nat.le_trans (Nat.le_succ _) (Nat.le_of_eq hW.symm)))
      clear hb1 hW
      cases hse : sealedB b with
      | false =>
        have HN : Hid (readRd b = ansErr 8 0) := by show _ = _; rw [HC.out, hse]; rfl
        clear HC hse
        go_wp2_with (refine wpList_bstore (by rfl) _ _ _ (by rfl) w.heap.size 46 (by rfl) _ _ (by rfl) hR 5 (by rfl) (by kernel_rfl) (by rfl) (by intro x hx; simp at hx; rcases hx with rfl | rfl | rfl | rfl | rfl <;> rfl) ?_; intro w9 hR9 hU9; replace hR := hR9; replace hB := hU9.below hB (Nat.le_refl _); clear hR9; clear hU9)
        exact bodyPost_ret (v := .tuple #[.agg (lnkC 0 0 none 0 0 none 0 0 none 0 0).toArray, .int .i64 8, .int .i64 0]) (results_box3 (by rfl) _ _ w.heap.size 46 _ _ _ _ (by rfl) hR (by rfl) (by rfl) Tryz.underlying46 (by rfl) 5 (by rfl) (by kernel_rfl)) rfl ⟨by rw [HN.out]; exact ⟨none, 0, 0, none, 0, 0, none, 0, 0, rfl, Lists.nil _ _⟩, hB⟩
      | true =>
        rw [hse, if_pos rfl] at HC
        have h8 : 8 ≤ b.length := by
          unfold sealedB at hse; simp at hse; exact hse.1
        obtain ⟨n, hn⟩ : ∃ n, (str b).size = n + 4 := ⟨(str b).size - 4, by omega⟩
        have hbl : b.length - 4 = n := by have := HZ.out; omega
        rw [hbl] at HC
        have hx1 : (str b).extract 0 n = str (b.take n) := by rw [str_extract]; simp
        have hsub : ((n : Int) + 4 - 4) = (n : Int) := by omega
        have hle2 : (n : Int) ≤ (n : Int) + 4 := by omega
        have hnl : (b.take n).length = n := by simp; omega
        have hzn : (str (b.take n)).size = n := by rw [str_size, hnl]
        have h4n : 4 ≤ n := by have := HZ.out; omega
        have hfst := frF_first (b.take n).length 4 ((b.take n).drop 4)
        have hkd := frF_kd (b.take n).length 4 ((b.take n).drop 4)
        have hlen := frF_length (b.take n).length 4 ((b.take n).drop 4)
        have hle := (frF_le (b.take n).length 4 ((b.take n).drop 4)).2
        have hne : ∀ q, ordRd (framed (b.take n)).1 = some q → 4 ≤ q := fun q h => ordRd_ne h
        have HF : Hid ((∀ f ∈ (framed (b.take n)).1, Kd f) ∧ (∀ f r, (framed (b.take n)).1 = f :: r → f.at_ = 4) ∧ (framed (b.take n)).1.length ≤ n ∧ (framed (b.take n)).2 ≤ n ∧ (∀ q, ordRd (framed (b.take n)).1 = some q → 4 ≤ q)) := ⟨hkd, fun f r h => hfst f r h, by rw [hnl] at hlen; exact Nat.le_trans hlen (Nat.le_refl _) |> fun h => by unfold framed; rw [hnl]; exact h, by unfold framed; simp only [List.length_drop, hnl] at hle ⊢; omega, hne⟩
        have HNL : Hid ((b.take n).length = n) := hnl
        clear hse hbl hnl hfst hkd hlen hle hne h4 hmk hx4
        go_wp2_with fail
        refine (framesOf_any (b.take n) _ (by rw [HNL.out]; omega) (by rw [HNL.out]; omega)).mono ?_
        rintro e w2 ⟨ad, cap, N, rfl, hN, hv, hb2⟩
        replace hR := hR.below hb2 hR.lt
        have hz1 := hB.size
        have hvl := fvec_lies hv hN
        have HN2 : Hid (N = (framed (b.take n)).1.length) := hN
        have hNb : N ≤ n := by rw [hN]; exact HF.out.2.2.1
        replace hB := hB.trans (hb2.mono hB.size)
        clear hv hN hb2 hz1
        generalize hfr : framed (b.take n) = X at *
        obtain ⟨l, st⟩ := X
        clear hfr
        have hst : st ≤ n := HF.out.2.2.2.1
        simp only at HC
        by_cases hlt : st < n
        · have HN : Hid (readRd b = ansErr 9 st) := by show _ = _; rw [HC.out, if_pos hlt]
          clear HC hst
          go_wp2_with (refine wpList_bstore (by rfl) _ _ _ (by rfl) w.heap.size 46 (by rfl) _ _ (by rfl) hR 5 (by rfl) (by kernel_rfl) (by rfl) (by intro x hx; simp at hx; rcases hx with rfl | rfl | rfl | rfl | rfl <;> rfl) ?_; intro w9 hR9 hU9; replace hR := hR9; replace hB := hU9.below hB (Nat.le_refl _); clear hR9; clear hU9)
          exact bodyPost_ret (v := .tuple #[.agg (lnkC 0 0 none 0 0 none 0 0 none 0 0).toArray, .int .i64 9, .int .i64 (st : Int)]) (results_box3 (by rfl) _ _ w.heap.size 46 _ _ _ _ (by rfl) hR (by rfl) (by rfl) Tryz.underlying46 (by rfl) 5 (by rfl) (by kernel_rfl)) rfl ⟨by rw [HN.out]; exact ⟨none, 0, 0, none, 0, 0, none, 0, 0, rfl, Lists.nil _ _⟩, hB⟩
        · rw [if_neg hlt] at HC
          have hst2 : st = n := by omega
          clear hst
          go_wp2_with fail
          refine (outOfOrder_any l ad N cap _ HN2.out hvl HF.out.1 HF.out.2.1 (by omega)).mono ?_
          rintro e w3 ⟨rfl, hb3⟩
          replace hR := hR.below hb3 hR.lt
          have hvl3 := hvl.below hb3
          replace hB := hB.trans (hb3.mono hB.size)
          clear hb3 hvl
          cases hord : ordRd l with
          | some q =>
            rw [hord] at HC
            have hq4 := HF.out.2.2.2.2 q hord
            have hqn : (q != 0) = true := by rw [bne_iff_ne]; omega
            have HN : Hid (readRd b = ansErr 10 q) := HC
            clear HC hord
            simp only [Option.getD_some]
            go_wp2_with (refine wpList_bstore (by rfl) _ _ _ (by rfl) w.heap.size 46 (by rfl) _ _ (by rfl) hR 5 (by rfl) (by kernel_rfl) (by rfl) (by intro x hx; simp at hx; rcases hx with rfl | rfl | rfl | rfl | rfl <;> rfl) ?_; intro w9 hR9 hU9; replace hR := hR9; replace hB := hU9.below hB (Nat.le_refl _); clear hR9; clear hU9)
            exact bodyPost_ret (v := .tuple #[.agg (lnkC 0 0 none 0 0 none 0 0 none 0 0).toArray, .int .i64 10, .int .i64 q]) (results_box3 (by rfl) _ _ w.heap.size 46 _ _ _ _ (by rfl) hR (by rfl) (by rfl) Tryz.underlying46 (by rfl) 5 (by rfl) (by kernel_rfl)) rfl ⟨by rw [HN.out]; exact ⟨none, 0, 0, none, 0, 0, none, 0, 0, rfl, Lists.nil _ _⟩, hB⟩
          | none =>
            rw [hord] at HC
            have HN : Hid (readRd b = ansOk l) := HC
            clear HC
            simp only [Option.getD_none]
            go_wp2_with fail
            have hg3 := hR.lt
            refine (linkOf_any l ad N cap _ HN2.out hvl3 (ordered_of hord) (by omega)).mono ?_
            rintro e w4 ⟨a1, n1, c1, a2, n2, c2, a3, n3, c3, rfl, hT, hb4⟩
            replace hR := hR.below hb4 hR.lt
            have hL := hT.lists.keep ((Below.refl w4.heap.size w4).alloc (Nat.le_refl _) (.cells (lnkC (l.getD 0 fd0).seq (l.getD 0 fd0).base a1 n1 c1 a2 n2 c2 a3 n3 c3).toArray 46))
            replace hB := (hB.trans (hb4.mono hB.size))
            clear hb4 hord hT
            go_wp2_with (refine wpList_bstore (by rfl) _ _ _ (by rfl) w.heap.size 46 (by rfl) _ _ (by rfl) (hR.alloc _) 5 (by rfl) (by kernel_rfl) (by rfl) (by intro x hx; simp at hx; rcases hx with rfl | rfl | rfl | rfl | rfl <;> rfl) ?_; intro w9 hR9 hU9; replace hR := hR9; replace hB := hU9.below (hB.alloc hB.size _) (Nat.le_refl _); clear hR9; replace hL := hL.upd hU9 hg3; clear hU9)
            exact bodyPost_ret (v := .tuple #[.agg (lnkC (l.getD 0 fd0).seq (l.getD 0 fd0).base a1 n1 c1 a2 n2 c2 a3 n3 c3).toArray, .int .i64 0, .int .i64 0]) (results_box3 (by rfl) _ _ w.heap.size 46 _ _ _ _ (by rfl) hR (by rfl) (by rfl) Tryz.underlying46 (by rfl) 5 (by rfl) (by kernel_rfl)) rfl ⟨by rw [HN.out]; exact ⟨a1, _, c1, a2, _, c2, a3, _, c3, rfl, hL.mono (Nat.le_of_lt hg3)⟩, hB⟩
    · have hmk : ((str (b.take 4)).toList == [80, 82, 67, 49]) = false := by rw [str_toList, beq_eq_false_iff_ne]; exact hm
      have HN : Hid (readRd b = ansErr 7 0) := by show _ = _; unfold readRd; rw [if_pos (Or.inr hm)]
      clear hz hm
      go_enter Tryz.func66, Tryz.ntmps66
      go_wp2_with fail
      exact bodyPost_ret (v := .tuple #[.agg (lnkC 0 0 none 0 0 none 0 0 none 0 0).toArray, .int .i64 7, .int .i64 0]) (results_box3 (by rfl) _ _ w.heap.size 46 _ _ _ _ (by rfl) hR (by rfl) (by rfl) Tryz.underlying46 (by rfl) 5 (by rfl) (by kernel_rfl)) rfl ⟨by rw [HN.out]; exact ⟨none, 0, 0, none, 0, 0, none, 0, 0, rfl, Lists.nil _ _⟩, hB⟩
end Go.Proofs.YtdjpkgaicmklmaaGreat

