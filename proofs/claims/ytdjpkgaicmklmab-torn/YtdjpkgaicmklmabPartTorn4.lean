/- Texts of the proof, one behind the other; what each holds is said at its head. -/
import Derived.Test.YtdjpkgaicmklmabPartTorn3
import Derived.Test.YtdjpkgaicmklmabPartTorn1
import Derived.Deep.RegionLaw
import Derived.Test.YtdjpkgaicmklmabPartTorn2
/- The owner's books: lists that came out, each with its mark, and what stays of them at each step. -/
namespace Go.Proofs.Ytdjpkgaicmklmab
open Go.RowKit

/-- A list that came out, and the mark that its elements read. -/
structure Bk where
  ad : Option Addr
  n : Nat
  cap : Nat
  mrk : List Value
abbrev Bk.cells (x : Bk) : List Value := .slice x.ad x.n x.cap :: x.mrk
def bcells (L : List Bk) : List Value := (L.map Bk.cells).flatten
theorem bcells_snoc (L : List Bk) (x : Bk) : bcells (L ++ [x]) = bcells L ++ x.cells := by simp [bcells]
/-- It reads so. -/
structure Reads1 (Sh : List Value → Prop) (w : World) (B e m : Nat) (x : Bk) : Prop where
  len : x.mrk.length = m
  vec : Vec w B e m x.ad x.n x.cap (rep x.n x.mrk)
  few : x.n ≤ 1099511627780
  shape : Sh x.mrk
/-- The books of one kind. -/
structure Books (Sh : List Value → Prop) (w : World) (B e eb m : Nat) (ad : Option Addr) (cap : Nat) (L : List Bk) : Prop where
  list : Vec w B eb (m + 1) ad L.length cap (bcells L)
  each : ∀ x, x ∈ L → Reads1 Sh w B e m x
theorem Books.nil {Sh : List Value → Prop} (w : World) (B e eb m : Nat) : Books Sh w B e eb m none 0 [] := ⟨Vec.nil _ _ _ _, fun x h => by cases h⟩
theorem Books.keep {Sh : List Value → Prop} {w w' : World} {B e eb m : Nat} {ad : Option Addr} {cap : Nat} {L : List Bk} (h : Books Sh w B e eb m ad cap L) (hb : Below w.heap.size w w') : Books Sh w' B e eb m ad cap L :=
  ⟨h.list.keep hb, fun x hx => ⟨(h.each x hx).len, (h.each x hx).vec.keep hb, (h.each x hx).few, (h.each x hx).shape⟩⟩

/-- But for block go, and blocks of two types, all is as it was. -/
structure But3 (go e eb : Nat) (w w' : World) : Prop where
  size : w.heap.size ≤ w'.heap.size
  block : ∀ k cur t, k ≠ go → w.heap[k]? = some (.cells cur t) → t ≠ e → t ≠ eb → w'.heap[k]? = some (.cells cur t)
theorem But3.trans {go e eb : Nat} {a b c : World} (h : But3 go e eb a b) (h' : But3 go e eb b c) : But3 go e eb a c :=
  ⟨Nat.le_trans h.size h'.size, fun k cur t h1 h2 h3 h4 => h'.block k cur t h1 (h.block k cur t h1 h2 h3 h4) h3 h4⟩
theorem But3.of_below {go e eb : Nat} {w w' : World} (h : Below w.heap.size w w') : But3 go e eb w w' :=
  ⟨h.size, fun k _ _ _ h2 _ _ => by rw [h.block k (Array.getElem?_eq_some_iff.1 h2).1]; exact h2⟩
theorem But3.of_upd {go e eb g : Nat} {w w' : World} (h : Upd g w w') (hg : g = go ∨ ∃ cur t, w.heap[g]? = some (.cells cur t) ∧ (t = e ∨ t = eb)) : But3 go e eb w w' :=
  ⟨by rw [h.size]; exact Nat.le_refl _, fun k cur t h1 h2 h3 h4 => by
    have hk : k ≠ g := by
      rintro rfl
      rcases hg with hg | ⟨cur', t', hc, ht⟩
      · exact h1 hg
      · rw [h2] at hc; simp at hc; obtain ⟨-, rfl⟩ := hc; rcases ht with ht | ht
        · exact h3 ht
        · exact h4 ht
    rw [h.block k hk]; exact h2⟩
theorem But3.of_kp {go e eb : Nat} {g : Option Nat} {mk : List Value} {w w' : World} (h : Kp g mk w w') (hg : ∀ k, g = some k → ∃ cur t, w.heap[k]? = some (.cells cur t) ∧ (t = e ∨ t = eb)) : But3 go e eb w w' :=
  ⟨h.size, fun k cur t _ h2 h3 h4 => by
    have hk : g ≠ some k := by
      intro hk
      obtain ⟨cur', t', hc, ht⟩ := hg k hk
      rw [h2] at hc; simp at hc; obtain ⟨-, rfl⟩ := hc; rcases ht with ht | ht
      · exact h3 ht
      · exact h4 ht
    rw [h.block k (Array.getElem?_eq_some_iff.1 h2).1 hk]; exact h2⟩
theorem Vec.typed {w : World} {B e m : Nat} {ad : Option Addr} {n cap : Nat} {xs : List Value} (h : Vec w B e m ad n cap xs) : ∀ k, ad.map (·.block) = some k → B ≤ k ∧ ∃ cur, w.heap[k]? = some (.cells cur e) := by
  intro k hk
  rcases h.2 with ⟨h2, _⟩ | ⟨g, c, cur, hv, hB, hc, _⟩
  · simp at h2; rw [h2.1] at hk; cases hk
  · simp at hv; rw [hv.1] at hk; simp at hk; subst hk; exact ⟨hB, cur, hc⟩
theorem Vec.but3 {w w' : World} {B e m go e1 eb1 : Nat} {ad : Option Addr} {n cap : Nat} {xs : List Value} (h : Vec w B e m ad n cap xs) (hb : But3 go e1 eb1 w w') (h1 : e ≠ e1) (h2 : e ≠ eb1) (hgo : ∀ k, ad.map (·.block) = some k → k ≠ go) : Vec w' B e m ad n cap xs := by
  refine ⟨h.1, ?_⟩
  rcases h.2 with h3 | ⟨k, c, cur, hv, hB, hc, r⟩
  · exact Or.inl h3
  · refine Or.inr ⟨k, c, cur, hv, hB, hb.block k cur e (hgo k ?_) hc h1 h2, r⟩
    simp at hv; rw [hv.1]; rfl
theorem Vec.updo {w w' : World} {B e m g : Nat} {ad : Option Addr} {n cap : Nat} {xs : List Value} (h : Vec w B e m ad n cap xs) (hu : Upd g w w') (hg : ∀ b, ad = some b → b.block ≠ g) : Vec w' B e m ad n cap xs := by
  refine ⟨h.1, ?_⟩
  rcases h.2 with h2 | ⟨k, c, cur, hv, hB, hk, r⟩
  · exact Or.inl h2
  · refine Or.inr ⟨k, c, cur, hv, hB, ?_, r⟩
    simp at hv
    rw [hu.block k (hg _ hv.1)]; exact hk
/-- Books of other types stay. -/
theorem Books.but3 {Sh : List Value → Prop} {w w' : World} {B e eb m go e1 eb1 tT : Nat} {oc : List Value} {ad : Option Addr} {cap : Nat} {L : List Bk} (h : Books Sh w B e eb m ad cap L) (hb : But3 go e1 eb1 w w') (ho : Bx w go tT oc)
    (h1 : e ≠ e1) (h2 : e ≠ eb1) (h3 : eb ≠ e1) (h4 : eb ≠ eb1) (h5 : e ≠ tT) (h6 : eb ≠ tT) : Books Sh w' B e eb m ad cap L :=
  ⟨h.list.but3 hb h3 h4 (fun k hk e => ho.apart h.list h6 (by rw [hk, e])), fun x hx => ⟨(h.each x hx).len, (h.each x hx).vec.but3 hb h1 h2 (fun k hk e => ho.apart (h.each x hx).vec h5 (by rw [hk, e])), (h.each x hx).few, (h.each x hx).shape⟩⟩

/-- While the owner writes a list over: his variable, the mark, the list, the books of its kind. -/
structure St (Sh : List Value → Prop) (w0 w : World) (B B1 go gm tT e eb m f : Nat) (oc mk : List Value) (ad : Option Addr) (N cap : Nat) (a4 : Option Addr) (c4 : Nat) (L : List Bk) : Prop where
  o : Bx w go tT oc
  k : Bx w gm e mk
  l : Vec w B1 e m ad N cap (rep N mk)
  b : Vec w B eb (m + 1) a4 L.length c4 (bcells L)
  each : ∀ x, x ∈ L → Reads1 Sh w B e m x ∧ ((∀ b, x.ad = some b → b.block < B1) ∨ x.mrk = mk)
  at_ : oc[f]? = some (.slice a4 L.length c4)
  mark : mk.length = m
  low : B ≤ go
  big : B ≤ B1
  apt : ∀ b, ad = some b → b.block ≠ gm
  old : Below B w0 w
  but : But3 go e eb w0 w

theorem St.step {Sh : List Value → Prop} {w0 w w' : World} {B B1 go gm tT e eb m f : Nat} {oc mk : List Value} {ad : Option Addr} {N cap : Nat} {a4 : Option Addr} {c4 : Nat} {L : List Bk} (h : St Sh w0 w B B1 go gm tT e eb m f oc mk ad N cap a4 c4 L) (hb : Below w.heap.size w w') (hB : B ≤ w.heap.size) : St Sh w0 w' B B1 go gm tT e eb m f oc mk ad N cap a4 c4 L :=
  ⟨h.o.below hb h.o.lt, h.k.below hb h.k.lt, h.l.keep hb, h.b.keep hb, fun x hx => ⟨⟨(h.each x hx).1.len, (h.each x hx).1.vec.keep hb, (h.each x hx).1.few, (h.each x hx).1.shape⟩, (h.each x hx).2⟩, h.at_, h.mark, h.low, h.big, h.apt, h.old.trans (hb.mono hB), h.but.trans (But3.of_below hb)⟩
/-- 'a := append(l, m, ..)': all stays. -/
theorem St.push {Sh : List Value → Prop} {w0 w w' : World} {B B1 go gm tT e eb m f : Nat} {oc mk : List Value} {ad : Option Addr} {N cap : Nat} {a4 : Option Addr} {c4 : Nat} {L : List Bk} (h : St Sh w0 w B B1 go gm tT e eb m f oc mk ad N cap a4 c4 L) (hk : Kp (ad.map (·.block)) mk w w')
    (h1 : e ≠ tT) (h2 : e ≠ eb) (hB : B ≤ w.heap.size) : St Sh w0 w' B B1 go gm tT e eb m f oc mk ad N cap a4 c4 L := by
  refine ⟨h.o.kp hk (h.o.apart h.l h1), h.k.kp hk ?_, h.l.kp h.mark hk (fun _ _ _ => rfl), h.b.kpo hk (fun b hb hb' => ?_), fun x hx => ?_, h.at_, h.mark, h.low, h.big, h.apt, hk.below h.old hB (fun k e => Nat.le_trans h.big (h.l.typed k e).1), h.but.trans (But3.of_kp hk fun k e => ?_)⟩
  · intro e; cases ad with
    | none => cases e
    | some b => simp at e; exact h.apt b rfl e
  · exact h.b.apart h.l (fun e => h2 e.symm) b hb hb'
  · obtain ⟨h3, h4⟩ := h.each x hx
    refine ⟨⟨h3.len, h3.vec.kp h3.len hk (fun b hb hb' => ?_), h3.few, h3.shape⟩, h4⟩
    rcases h4 with h4 | h4
    · have := (h.l.typed _ hb').1; have := h4 b hb; omega
    · exact h4
  · obtain ⟨_, cur, hc⟩ := h.l.typed k e; exact ⟨cur, _, hc, Or.inl rfl⟩
/-- 'o.l = append(o.l, book{..})': one book more. -/
theorem St.book {Sh : List Value → Prop} {w0 w w' : World} {B B1 go gm tT e eb m f : Nat} {oc mk : List Value} {ad : Option Addr} {N cap : Nat} {a4 : Option Addr} {c4 : Nat} {L : List Bk} (h : St Sh w0 w B B1 go gm tT e eb m f oc mk ad N cap a4 c4 L) {x : Bk} {a5 : Option Addr} {c5 : Nat}
    (hv : Vec w' B eb (m + 1) a5 (L.length + 1) c5 (bcells L ++ x.cells)) (hk : Kp (a4.map (·.block)) x.cells w w') (hx : Reads1 Sh w B e m x) (hm : x.mrk = mk) (h1 : eb ≠ tT) (h2 : e ≠ eb) (h3 : e ≠ tT) (hf : f < oc.length) (hB : B ≤ w.heap.size) :
    St Sh w0 (w'.setCell ⟨go, f, none⟩ (.slice a5 (L.length + 1) c5)) B B1 go gm tT e eb m f (oc.set f (.slice a5 (L.length + 1) c5)) mk ad N cap a5 c5 (L ++ [x]) := by
  have hu : Upd go w' (w'.setCell ⟨go, f, none⟩ (.slice a5 (L.length + 1) c5)) := (Upd.refl go w').setCell _ rfl _
  have ho : Bx w' go tT oc := h.o.kp hk (h.o.apart h.b h1)
  have hkk : Bx w' gm e mk := h.k.kp hk (h.k.apart h.b (fun e => h2 e.symm))
  have hl : Vec w' B1 e m ad N cap (rep N mk) := h.l.kpo hk (fun b hb hb' => h.l.apart h.b h2 b hb hb')
  have hgo : gm ≠ go := by
    intro e1; have a := hkk.h; have b := ho.h; rw [e1, b] at a; simp at a; exact h3 a.2.symm
  have each : ∀ y, Reads1 Sh w B e m y → Reads1 Sh (w'.setCell ⟨go, f, none⟩ (.slice a5 (L.length + 1) c5)) B e m y := fun y hy => by
    have := hy.vec.kpo hk (fun b hb hb' => hy.vec.apart h.b h2 b hb hb')
    exact ⟨hy.len, this.updo hu (fun b hb e1 => ho.apart this h3 (by rw [hb]; simp [e1])), hy.few, hy.shape⟩
  refine ⟨ho.setCell f _, hkk.upd hu hgo, hl.updo hu (fun b hb e1 => ho.apart hl h3 (by rw [hb]; simp [e1])), ?_, fun y hy => ?_, ?_, h.mark, h.low, h.big, h.apt, ?_, ?_⟩
  · rw [bcells_snoc, List.length_append]
    exact hv.updo hu (fun b hb e1 => ho.apart hv h1 (by rw [hb]; simp [e1]))
  · rcases List.mem_append.1 hy with hy | hy
    · exact ⟨each y (h.each y hy).1, (h.each y hy).2⟩
    · simp at hy; subst hy; exact ⟨each _ hx, Or.inr hm⟩
  · simp [hf]
  · exact hu.below (hk.below h.old hB (fun k e => (h.b.typed k e).1)) h.low
  · exact (h.but.trans (But3.of_kp hk fun k e1 => by obtain ⟨_, cur, hc⟩ := h.b.typed k e1; exact ⟨cur, _, hc, Or.inr rfl⟩)).trans (But3.of_upd hu (Or.inl rfl))
end Go.Proofs.Ytdjpkgaicmklmab

/- What the walks of the owner's calls share. -/
namespace Go.Proofs.Ytdjpkgaicmklmab
open Go.RowKit

def ShFd (l : List Value) : Prop := ∃ f : Fd, l = f.cells
def ShCk (l : List Value) : Prop := ∃ f : Ck, l = f.cells
def ShCd (l : List Value) : Prop := ∃ f : Cd, l = f.cells
def ShEd (l : List Value) : Prop := ∃ f : Ed, l = f.cells

theorem newc1 (X : World) (cs : List Value) (t : TypeId) : ∀ j u, cs[j]? = some u → (X.alloc (.cells cs.toArray t)).cell? ((⟨X.heap.size, 0, none⟩ : Addr).add j) = some u := by
  intro j u h
  rw [addr_add, (Bx.new X t cs.toArray).cell]
  simpa using h
/-- The worlds part in one block alone. -/
structure Upo (g : Option Nat) (w w' : World) : Prop where
  os : w'.os = w.os
  tape : w'.tape = w.tape
  output : w'.output = w.output
  size : w'.heap.size = w.heap.size
  block : ∀ k, g ≠ some k → w'.heap[k]? = w.heap[k]?
theorem Upo.refl (g : Option Nat) (w : World) : Upo g w w := ⟨rfl, rfl, rfl, rfl, fun _ _ => rfl⟩
theorem Upo.upd {g : Option Nat} {k : Nat} {w w1 w2 : World} (h : Upo g w w1) (hu : Upd k w1 w2) (hk : g = some k) : Upo g w w2 :=
  ⟨hu.os.trans h.os, hu.tape.trans h.tape, hu.output.trans h.output, hu.size.trans h.size, fun j hj => (hu.block j (fun e => hj (by rw [hk, e]))).trans (h.block j hj)⟩
theorem Bx.upo {g : Option Nat} {w w' : World} {k e : Nat} {cs : List Value} (b : Bx w k e cs) (h : Upo g w w') (hg : g ≠ some k) : Bx w' k e cs := ⟨by rw [h.block k hg]; exact b.h⟩
theorem Vec.upo {g : Option Nat} {w w' : World} {B e m : Nat} {ad : Option Addr} {n cap : Nat} {xs : List Value} (h : Vec w B e m ad n cap xs) (hu : Upo g w w') (hg : ∀ b, ad = some b → g ≠ some b.block) : Vec w' B e m ad n cap xs := by
  refine ⟨h.1, ?_⟩
  rcases h.2 with h2 | ⟨k, c, cur, hv, hB, hk, r⟩
  · exact Or.inl h2
  · refine Or.inr ⟨k, c, cur, hv, hB, ?_, r⟩
    simp at hv
    rw [hu.block k (hg _ hv.1)]; exact hk
theorem Upo.below {g : Option Nat} {B : Nat} {w0 w w' : World} (h : Upo g w w') (hb : Below B w0 w) (hg : ∀ k, g = some k → B ≤ k) : Below B w0 w' :=
  ⟨h.os.trans hb.os, h.tape.trans hb.tape, h.output.trans hb.output, by rw [h.size]; exact hb.size, fun k hk => (h.block k (fun e => by have := hg k e; omega)).trans (hb.block k hk)⟩
theorem But3.of_upo {go e eb : Nat} {g : Option Nat} {w w' : World} (h : Upo g w w') (hg : ∀ k, g = some k → ∃ cur t, w.heap[k]? = some (.cells cur t) ∧ (t = e ∨ t = eb)) : But3 go e eb w w' :=
  ⟨by rw [h.size]; exact Nat.le_refl _, fun k cur t _ h2 h3 h4 => by
    have hk : g ≠ some k := by
      intro hk
      obtain ⟨cur', t', hc, ht⟩ := hg k hk
      rw [h2] at hc; simp at hc; obtain ⟨-, rfl⟩ := hc; rcases ht with ht | ht
      · exact h3 ht
      · exact h4 ht
    rw [h.block k hk]; exact h2⟩

theorem merge {T G : Prop} (main : Hid T → G) (key : T) : G := main key
theorem St.six {Sh : List Value → Prop} {w0 w X w6 : World} {B B1 go gm tT e eb m f : Nat} {oc mk row : List Value} {ad : Option Addr} {N cap : Nat} {a4 : Option Addr} {c4 : Nat} {L : List Bk} (hk : Kp (a4.map (·.block)) row X w6) (h : St Sh w0 w B B1 go gm tT e eb m f oc mk ad N cap a4 c4 L) (hb : Below w.heap.size w X) (hB : B ≤ w.heap.size) (h1 : eb ≠ tT) {x : Bk} (hx : Reads1 Sh w B e m x) :
    Reads1 Sh X B e m x ∧ B ≤ X.heap.size ∧ St Sh w0 X B B1 go gm tT e eb m f oc mk ad N cap a4 c4 L ∧ w6.cell? ⟨go, f, none⟩ = some (.slice a4 L.length c4) ∧ w6.frozen? ⟨go, f, none⟩ = false := by
  have h2 := h.step hb hB
  have h3 := h2.o.kp hk (h2.o.apart h2.b h1)
  exact ⟨⟨hx.len, hx.vec.keep hb, hx.few, hx.shape⟩, Nat.le_trans hB hb.size, h2, by rw [h3.cell, h.at_], h3.frozen f⟩
/-- The list is written over. -/
theorem St.start {Sh : List Value → Prop} {w w1 w3 : World} {B B1 go tT e eb m f : Nat} {oc0 oc mk xs : List Value} {ad : Option Addr} {N cap : Nat} {a4 : Option Addr} {c4 : Nat} {L : List Bk} (hO : Bx w go tT oc0) (hO1 : Bx w1 go tT oc) (hU : Upd go w w1) (hK : Books Sh w B e eb m a4 c4 L)
    (hfr : ∀ x, x ∈ L → ∀ b, x.ad = some b → b.block < B1) (hv : Vec w B1 e m ad N cap xs) (hu : Upo (ad.map (·.block)) (w1.alloc (.cells mk.toArray e)) w3) (hv3 : Vec w3 B1 e m ad N cap (rep N mk)) (hf : oc[f]? = some (.slice a4 L.length c4)) (hm : mk.length = m)
    (hB : B ≤ go) (hB1 : B ≤ B1) (hBw : B ≤ w.heap.size) (h1 : e ≠ tT) (h2 : eb ≠ tT) (h3 : e ≠ eb) : St Sh w w3 B B1 go w1.heap.size tT e eb m f oc mk ad N cap a4 c4 L := by
  have hz := hU.size
  have hal : Below w1.heap.size w1 (w1.alloc (.cells mk.toArray e)) := (Below.refl _ _).alloc (Nat.le_refl _) _
  have hlt : ∀ k, ad.map (·.block) = some k → B1 ≤ k ∧ k < w1.heap.size ∧ k ≠ go := by
    intro k hk
    obtain ⟨h4, cur, hc⟩ := hv.typed k hk
    refine ⟨h4, by rw [hz]; exact (Array.getElem?_eq_some_iff.1 hc).1, fun e1 => hO.apart hv h1 (by rw [hk, e1])⟩
  have tr : ∀ {B' e' m' : Nat} {ad' : Option Addr} {n' cap' : Nat} {xs' : List Value}, Vec w B' e' m' ad' n' cap' xs' → e' ≠ tT → (∀ b, ad' = some b → ad.map (·.block) ≠ some b.block) → Vec w3 B' e' m' ad' n' cap' xs' := by
    intro B' e' m' ad' n' cap' xs' h4 h5 h6
    exact ((h4.updo hU (fun b hb e1 => hO.apart h4 h5 (by rw [hb]; simp [e1]))).keep hal).upo hu h6
  have hgm := Bx.new w1 e mk.toArray
  refine ⟨(hO1.alloc _).upo hu (fun e1 => (hlt _ e1).2.2 rfl), ?_, hv3, tr hK.list h2 (fun b hb e1 => hK.list.apart hv (fun e => h3 e.symm) b hb e1), fun x hx => ⟨⟨(hK.each x hx).len, tr (hK.each x hx).vec h1 (fun b hb e1 => ?_), (hK.each x hx).few, (hK.each x hx).shape⟩, Or.inl (hfr x hx)⟩, hf, hm, hB, hB1, fun b hb e1 => ?_, ?_, ?_⟩
  · have := hgm.upo hu (fun e1 => by have := (hlt _ e1).2.1; omega); simpa using this
  · have := hfr x hx b hb; have := (hlt _ e1).1; omega
  · have := (hlt b.block (by rw [hb]; rfl)).2.1; omega
  · exact hu.below ((hU.below (Below.refl _ _) hB).alloc (by rw [hz]; exact hBw) _) (fun k hk => Nat.le_trans hB1 (hlt k hk).1)
  · refine ((But3.of_upd hU (Or.inl rfl)).trans (But3.of_below hal)).trans (But3.of_upo hu fun k hk => ?_)
    obtain ⟨_, cur, hc⟩ := hv.typed k hk
    refine ⟨cur, e, ?_, Or.inl rfl⟩
    rw [hal.block k (hlt k hk).2.1, hU.block k (hlt k hk).2.2]; exact hc
end Go.Proofs.Ytdjpkgaicmklmab

/- Is it a volume? volumes.volumeOf and parcelref.volume, walked. -/
namespace Go.Proofs.Ytdjpkgaicmklmab
open Go.RowKit

/-- A volume's struct, by its bytes; the empty one. -/
abbrev voC (s : List UInt8) : List Value := volS (numV s) (cntV s) (sumV s) (bodyV s)
abbrev vo0 : List Value := [.int .u8 0, .int .u8 0, .string ⟨#[]⟩, .string ⟨#[]⟩]
def voOf (s : List UInt8) : List Value := if volOk s then voC s else vo0
theorem voOf_ok {s : List UInt8} (h : volOk s = true) : voOf s = voC s := by simp [voOf, h]
theorem voOf_no {s : List UInt8} (h : volOk s = false) : voOf s = vo0 := by simp [voOf, h]
theorem volOk_short {s : List UInt8} (h : s.length < 14) : volOk s = false := by simp [volOk]; intro h2; omega
theorem volOk_magic {s : List UInt8} (h : s.take 4 ≠ [86, 79, 76, 49]) : volOk s = false := by
  have : (s.take 4 == [86, 79, 76, 49]) = false := by rw [beq_eq_false_iff_ne]; exact h
  simp [volOk, this]
theorem volOk_num {s : List UInt8} (h : cntV s ≤ numV s) : volOk s = false := by
  have : decide (numV s < cntV s) = false := by rw [decide_eq_false_iff_not]; omega
  simp [volOk, this]
theorem volOk_sum {s : List UInt8} (h1 : 14 ≤ s.length) (h2 : s.take 4 = [86, 79, 76, 49]) (h3 : numV s < cntV s) : volOk s = (fourI (crc pSum (s.take (s.length - 4))) == s.drop (s.length - 4)) := by
  simp [volOk, h1, h2, h3]
theorem at_num {s : List UInt8} (h : 4 < (str s).size) : ((str s)[4]'h).toNat = numV s := by
  have : 4 < s.length := by rw [str_size] at h; exact h
  unfold numV; rw [List.getD_eq_getElem?_getD, List.getElem?_eq_getElem this]; rfl
theorem at_cnt {s : List UInt8} (h : 5 < (str s).size) : ((str s)[5]'h).toNat = cntV s := by
  have : 5 < s.length := by rw [str_size] at h; exact h
  unfold cntV; rw [List.getD_eq_getElem?_getD, List.getElem?_eq_getElem this]; rfl
theorem numV_lt (s : List UInt8) : numV s < 256 := UInt8.toNat_lt _
theorem cntV_lt (s : List UInt8) : cntV s < 256 := UInt8.toNat_lt _

set_option maxRecDepth 100000 in
set_option maxHeartbeats 4000000 in
theorem volumeOf_any (s : List UInt8) (w : World) (hs : s.length ≤ 1099511627776) :
    Calls Try.prog 80 #[.string (str s)] w fun e w' => e = .returned (.tuple #[.agg (voOf s).toArray, .bool (volOk s)]) ∧ Below w.heap.size w w' := by
  have hz := str_size s
  have HZ : Hid ((str s).size = s.length) := hz
  have hbb : (str s).size ≤ 1099511627776 := by omega
  obtain ⟨hR, hW, hB⟩ := one_box w 87 #[.int .u8 0, .int .u8 0, .string ⟨#[]⟩, .string ⟨#[]⟩]
  by_cases h14 : (str s).size < 14
  · have HN : Hid (volOk s = false) := volOk_short (by omega)
    have d1 : decide (((str s).size : Int) < 14) = true := by simp; omega
    clear hz
    go_enter Try.func80, Try.ntmps80
    go_wp2_with fail
    go_quiet (fail)
    replace hR := hR.drewN nq
    replace hB := below_drewN hB nq
    generalize (w.alloc (.cells #[.int .u8 0, .int .u8 0, .string ⟨#[]⟩, .string ⟨#[]⟩] 87)).drewN nq = W at *
    go_wp2_with (refine wpList_bstore (by rfl) _ _ _ (by rfl) w.heap.size 87 (by rfl) _ _ (by rfl) hR 4 (by rfl) (by kernel_rfl) (by rfl) (by intro x hx; simp at hx; rcases hx with rfl | rfl | rfl | rfl <;> rfl) ?_; intro w9 hR9 hU9; replace hR := hR9; replace hB := hU9.below hB (Nat.le_refl _); clear hR9 hU9)
    exact bodyPost_ret (v := .tuple #[.agg vo0.toArray, .bool false]) (results_box2 (by rfl) _ _ w.heap.size 87 _ _ _ (by rfl) hR (by rfl) Try.underlying87 (by rfl) 4 (by rfl) (by kernel_rfl)) rfl ⟨by rw [HN.out, voOf_no HN.out], hB⟩
  · have x0 : (str s).extract 0 4 = str (s.take 4) := by rw [str_extract]; simp
    have d1 : decide (((str s).size : Int) < 14) = false := by simp; omega
    have q4 : (4 : Int) ≤ ((str s).size : Int) := by omega
    have q4' : 4 ≤ (str s).size := by omega
    by_cases hm : s.take 4 = [86, 79, 76, 49]
    · have hmk : ((str (s.take 4)).toList == [86, 79, 76, 49]) = true := by rw [str_toList, hm]; rfl
      have l4 : 4 < (str s).size := by omega
      have l5 : 5 < (str s).size := by omega
      have e4 := at_num l4
      have e5 := at_cnt l5
      have n4 := numV_lt s
      have n5 := cntV_lt s
      by_cases hn : cntV s ≤ numV s
      · have HN : Hid (volOk s = false) := volOk_num hn
        have d2 : decide ((numV s : Int) ≥ (cntV s : Int)) = true := by simp; omega
        clear hz hm
        go_enter Try.func80, Try.ntmps80
        go_wp2_with fail
        go_quiet (fail)
        replace hR := hR.drewN nq
        replace hB := below_drewN hB nq
        generalize (w.alloc (.cells #[.int .u8 0, .int .u8 0, .string ⟨#[]⟩, .string ⟨#[]⟩] 87)).drewN nq = W at *
        go_wp2_with (refine wpList_bstore (by rfl) _ _ _ (by rfl) w.heap.size 87 (by rfl) _ _ (by rfl) hR 4 (by rfl) (by kernel_rfl) (by rfl) (by intro x hx; simp at hx; rcases hx with rfl | rfl | rfl | rfl <;> rfl) ?_; intro w9 hR9 hU9; replace hR := hR9; replace hB := hU9.below hB (Nat.le_refl _); clear hR9 hU9)
        exact bodyPost_ret (v := .tuple #[.agg vo0.toArray, .bool false]) (results_box2 (by rfl) _ _ w.heap.size 87 _ _ _ (by rfl) hR (by rfl) Try.underlying87 (by rfl) 4 (by rfl) (by kernel_rfl)) rfl ⟨by rw [HN.out, voOf_no HN.out], hB⟩
      · obtain ⟨n, hn4⟩ : ∃ n, (str s).size = n + 4 := ⟨(str s).size - 4, by omega⟩
        have d2 : decide ((numV s : Int) ≥ (cntV s : Int)) = false := by simp; omega
        have hsl : s.length - 4 = n := by omega
        have HN : Hid (volOk s = (fourI (crc pSum (s.take n)) == s.drop n)) := by
          have := volOk_sum (by omega) hm (show numV s < cntV s by omega); rw [hsl] at this; exact this
        have hx1 : (str s).extract 0 n = str (s.take n) := by rw [str_extract]; simp
        have hx2 : (str s).extract n (n + 4) = str (s.drop n) := by rw [str_extract, List.take_of_length_le (by simp; omega)]
        have hx3 : (str s).extract 6 10 = str (sumV s) := by rw [str_extract]; rfl
        have hx4 : (str s).extract 10 n = str (bodyV s) := by rw [str_extract]; unfold bodyV; rw [show n - 10 = s.length - 14 by omega]
        have hsub : ((n : Int) + 4 - 4) = (n : Int) := by omega
        have hlt : (s.take n).length ≤ 1099511627776 := by simp; omega
        have h10 : 10 ≤ n := by omega
        have HN4 : Hid ((str s).size = n + 4) := hn4
        have HX2 : Hid ((str s).extract n (n + 4) = str (s.drop n)) := hx2
        clear hz hm hsl hn4 hx2
        go_enter Try.func80, Try.ntmps80
        go_wp2_with fail
        go_quiet (fail)
        replace hR := hR.drewN nq
        replace hB := below_drewN hB nq
        generalize (w.alloc (.cells #[.int .u8 0, .int .u8 0, .string ⟨#[]⟩, .string ⟨#[]⟩] 87)).drewN nq = W at *
        have hn4 := HN4.out
        have hx2 := HX2.out
        clear d1 d2 q4 q4' h14
        go_wp2_with fail
        refine (sum_any (s.take n) _ (by omega)).mono ?_
        rintro e w1 ⟨rfl, hw1⟩
        subst hw1
        obtain ⟨c1, c2⟩ := crc_le pSum (by decide) (s.take n)
        have hle2 : (n : Int) ≤ (n : Int) + 4 := by omega
        have h10' : (10 : Int) ≤ (n : Int) := by omega
        have h10a : (10 : Int) ≤ (n : Int) + 4 := by omega
        have h4a : (4 : Int) < (n : Int) + 4 := by omega
        have h5a : (5 : Int) < (n : Int) + 4 := by omega
        generalize hW1 : w1 = W1 at *
        clear hW1
        by_cases hq : fourI (crc pSum (s.take n)) = s.drop n
        · have hqb : ((str (s.drop n)).toList == (str (fourI (crc pSum (s.take n)))).toList) = true := by rw [str_beq, hq]; simp
          replace HN : Hid (volOk s = true) := by show _ = _; rw [HN.out, hq]; simp
          clear hq
          go_wp2_with fail
          go_region_law (go_simp; go_at_call 50; refine (fourBytes_any _ _ c1 c2).mono ?_; rintro e w' ⟨rfl, hb'⟩; dsimp only)
          have hD := below_drewN (Below.refl W1.heap.size W1) 1
          replace hb' := hD.trans (hb'.mono hD.size)
          replace hR := hR.below hb' hR.lt
          replace hB := hB.trans (hb'.mono hB.size)
          clear hb' hD
          have z0 := hR.cell 0
          have z1 := hR.cell 1
          have z2 := hR.cell 2
          have z3 := hR.cell 3
          dsimp only [List.getElem?_cons_zero, List.getElem?_cons_succ] at z0 z1 z2 z3
          have f0 := hR.frozen 0
          have f1 := hR.frozen 1
          have f2 := hR.frozen 2
          have f3 := hR.frozen 3
          go_wp2_with fail
          go_region_law (fail)
          all_goals
            go_wp2_with fail
            have hR' := ((((hR.drewN 1).setCell 0 (.int .u8 (numV s))).setCell 1 (.int .u8 (cntV s))).setCell 2 (.string (str (sumV s)))).setCell 3 (.string (str (bodyV s)))
            have hU := (((((Upd.refl w.heap.size w').drew).setCell ⟨w.heap.size, 0, none⟩ rfl (.int .u8 (numV s))).setCell ⟨w.heap.size, 1, none⟩ rfl (.int .u8 (cntV s))).setCell ⟨w.heap.size, 2, none⟩ rfl (.string (str (sumV s)))).setCell ⟨w.heap.size, 3, none⟩ rfl (.string (str (bodyV s)))
            exact bodyPost_ret (v := .tuple #[.agg (voC s).toArray, .bool true]) (results_box2 (by rfl) _ _ w.heap.size 87 _ _ _ (by rfl) hR' (by rfl) Try.underlying87 (by rfl) 4 (by rfl) (by kernel_rfl)) rfl ⟨by rw [HN.out, voOf_ok HN.out], hU.below hB (Nat.le_refl _)⟩
        · have hqb : ((str (s.drop n)).toList == (str (fourI (crc pSum (s.take n)))).toList) = false := by rw [str_beq, beq_eq_false_iff_ne]; exact fun e => hq e.symm
          replace HN : Hid (volOk s = false) := by show _ = _; rw [HN.out, beq_eq_false_iff_ne]; exact hq
          clear hq
          go_wp2_with fail
          go_region_law (go_simp; go_at_call 50; refine (fourBytes_any _ _ c1 c2).mono ?_; rintro e w' ⟨rfl, hb'⟩; dsimp only)
          have hD := below_drewN (Below.refl W1.heap.size W1) 1
          replace hb' := hD.trans (hb'.mono hD.size)
          replace hR := hR.below hb' hR.lt
          replace hB := hB.trans (hb'.mono hB.size)
          clear hb' hD
          go_wp2_with (refine wpList_bstore (by rfl) _ _ _ (by rfl) w.heap.size 87 (by rfl) _ _ (by rfl) hR 4 (by rfl) (by kernel_rfl) (by rfl) (by intro x hx; simp at hx; rcases hx with rfl | rfl | rfl | rfl <;> rfl) ?_; intro w9 hR9 hU9; replace hR := hR9; replace hB := hU9.below hB (Nat.le_refl _); clear hR9 hU9)
          exact bodyPost_ret (v := .tuple #[.agg vo0.toArray, .bool false]) (results_box2 (by rfl) _ _ w.heap.size 87 _ _ _ (by rfl) hR (by rfl) Try.underlying87 (by rfl) 4 (by rfl) (by kernel_rfl)) rfl ⟨by rw [HN.out, voOf_no HN.out], hB⟩
    · have hmk : ((str (s.take 4)).toList == [86, 79, 76, 49]) = false := by rw [str_toList, beq_eq_false_iff_ne]; exact hm
      have HN : Hid (volOk s = false) := volOk_magic hm
      clear hz hm
      go_enter Try.func80, Try.ntmps80
      go_wp2_with fail
      go_quiet (fail)
      replace hR := hR.drewN nq
      replace hB := below_drewN hB nq
      generalize (w.alloc (.cells #[.int .u8 0, .int .u8 0, .string ⟨#[]⟩, .string ⟨#[]⟩] 87)).drewN nq = W at *
      go_wp2_with (refine wpList_bstore (by rfl) _ _ _ (by rfl) w.heap.size 87 (by rfl) _ _ (by rfl) hR 4 (by rfl) (by kernel_rfl) (by rfl) (by intro x hx; simp at hx; rcases hx with rfl | rfl | rfl | rfl <;> rfl) ?_; intro w9 hR9 hU9; replace hR := hR9; replace hB := hU9.below hB (Nat.le_refl _); clear hR9 hU9)
      exact bodyPost_ret (v := .tuple #[.agg vo0.toArray, .bool false]) (results_box2 (by rfl) _ _ w.heap.size 87 _ _ _ (by rfl) hR (by rfl) Try.underlying87 (by rfl) 4 (by rfl) (by kernel_rfl)) rfl ⟨by rw [HN.out, voOf_no HN.out], hB⟩
end Go.Proofs.Ytdjpkgaicmklmab

/- The program's Join: the list of volumes, walked. -/
namespace Go.Proofs.Ytdjpkgaicmklmab
open Go.RowKit

/-- Volumes as cells. -/
abbrev vcells (l : List (List UInt8)) : List Value := (l.map voC).flatten
theorem vcells_snoc (l : List (List UInt8)) (s : List UInt8) : vcells (l ++ [s]) = vcells l ++ voC s := by simp [vcells]
theorem vcells_lies {w : World} {B e : Nat} {ad : Option Addr} {n cap : Nat} {L : List (List UInt8)} (h : Vec w B e 4 ad n cap (vcells L)) (hn : n = L.length) : Lies w ad n 4 (fun i => voC (L.getD i [])) := by
  refine Vec.lies (rows := L.map voC) h ?_ (by simp [hn]) _ ?_
  · intro r hr; obtain ⟨f, _, rfl⟩ := List.mem_map.1 hr; rfl
  · intro i hi; subst hn; simp [List.getD, hi]
theorem take_snoc (l : List (List UInt8)) (i : Nat) (h : i < l.length) : l.take (i + 1) = l.take i ++ [l.getD i []] := by
  rw [List.take_succ_eq_append_getElem h, List.getD_eq_getElem?_getD, List.getElem?_eq_getElem h]; rfl
/-- How many there are up to the first string that is none. -/
def voN (l : List (List UInt8)) : Nat := (firstOf (bad1 l) l.length).getD l.length
theorem voN_at {l : List (List UInt8)} {i : Nat} (hi : i < l.length) (h : ∀ j, j < i → bad1 l j = false) (hb : bad1 l i = true) : voN l = i := by
  unfold voN; rw [firstOf_some.mpr ⟨hb, hi, h⟩]; rfl
theorem voN_all {l : List (List UInt8)} (h : ∀ j, j < l.length → bad1 l j = false) : voN l = l.length := by
  unfold voN; rw [firstOf_none.mpr h]; rfl

set_option maxRecDepth 100000 in
set_option maxHeartbeats 4000000 in
theorem volumesOf_any (l : List (List UInt8)) (ad0 : Option Addr) (N cap0 : Nat) (w : World) (hL : Lies w ad0 N 1 (fun i => [.string (str (l.getD i []))])) (hN : N = l.length) (hl : ∀ v, v ∈ l → v.length ≤ 1099511627776) (hb : N ≤ 1099511627776) :
    Calls Try.prog 54 #[.slice ad0 N cap0] w fun e w' => ∃ ad cap k, e = .returned (.slice ad k cap) ∧ k = voN l ∧ Vec w' w.heap.size 87 4 ad k cap (vcells (l.take k)) ∧ Below w.heap.size w w' := by
  have hV0 : Hid (Vec (w.alloc (.cells #[] 87)) w.heap.size 87 4 (some ⟨w.heap.size, 0, none⟩) 0 0 (vcells [])) := Vec.lit w w.heap.size 87 4 0 [] (Nat.le_refl _) (by omega) rfl
  have HN : Hid (N = l.length) := hN
  have HL : Hid (∀ v, v ∈ l → v.length ≤ 1099511627776) := hl
  clear hN hl
  go_enter Try.func54, Try.ntmps54
  go_wp2_with fail
  go_loopw [3, 4, 5, 6] (fun v u _ _ wr => ∃ (i : Nat) (ad : Option Addr) (cap : Nat), i ≤ N ∧ u = .int .i64 i ∧ v = .slice ad i cap ∧ (∀ j, j < i → bad1 l j = false) ∧ Vec wr w.heap.size 87 4 ad i cap (vcells (l.take i)) ∧ Below w.heap.size w wr) (fun _ u _ _ _ => N - (intOf u).toNat)
  case atStart => exact ⟨0, _, _, by omega, rfl, rfl, by intro j hj; omega, by simpa using hV0.out, (Below.refl _ _).alloc (Nat.le_refl _) _⟩
  case round =>
    obtain ⟨i, ad, cap, hi, rfl, rfl, hbad, hv, hbw⟩ := hrel
    have HBAD : Hid (∀ j, j < i → bad1 l j = false) := hbad
    clear hbad
    by_cases hlt : i < N
    · obtain ⟨b, o, hbl, hix, hc⟩ := (hL.below hbw).at cap0 (P := Try.prog) (t := 33) (by kernel_rfl) (by kernel_rfl) hlt
      have c0 : wr.cell? ⟨b, o, none⟩ = some (.string (str (l.getD i []))) := hc 0 _ (by omega) rfl
      have hil : i < l.length := by rw [← HN.out]; exact hlt
      have hsl : (l.getD i []).length ≤ 1099511627776 := HL.out _ (volAt_mem hil)
      have HT : Hid (l.take (i + 1) = l.take i ++ [l.getD i []]) := take_snoc l i hil
      have HB1 : Hid (bad1 l i = !volOk (l.getD i [])) := rfl
      clear hc
      generalize l.getD i [] = s at *
      go_wp2_with fail
      refine (volumeOf_any s _ hsl).mono ?_
      rintro e w1 ⟨rfl, hb1⟩
      have hv1 := hv.keep hb1
      have hbw1 := hbw.trans (hb1.mono hbw.size)
      have hz1 := hbw1.size
      clear hv hbw hb1 c0
      cases hok : volOk s with
      | false =>
        have HK : Hid (voN l = i) := voN_at hil HBAD.out (by rw [HB1.out, hok]; rfl)
        rw [voOf_no hok]
        clear hok
        go_wp2_with fail
        go_ret
        exact ⟨ad, cap, i, rfl, HK.out.symm, hv1.keep ((Below.refl _ _).alloc (Nat.le_refl _) _), hbw1.alloc hz1 _⟩
      | true =>
        have HB2 : Hid (bad1 l i = false) := by show _ = _; rw [HB1.out, hok]; rfl
        rw [voOf_ok hok]
        clear hok
        have HX : Hid (∀ o1 o2, Vec ((w1.alloc o1).alloc o2) w.heap.size 87 4 ad i cap (vcells (l.take i))) := fun o1 o2 => hv1.keep (((Below.refl _ w1).alloc (Nat.le_refl _) _).alloc (by simp) _)
        go_wp2_with (at_builtin; refine wpList_push (by rfl) _ _ 88 (by rfl) w.heap.size 87 4 40 (.agg #[.int .u8 0, .int .u8 0, .string ⟨#[]⟩, .string ⟨#[]⟩]) Try.underlying88 (by kernel_rfl) rfl (by decide) ad i cap _ (by rfl) (HX.out _ _) _ _ (voC s) (by rfl) rfl ?_ ?_ ?_ ?_ ?_ ?_; exact new_cells2 _ _ _ _; (intro u hu; simp at hu; rcases hu with rfl | rfl | rfl | rfl <;> rfl); (omega); (omega); (simp; omega); intro ad' cap' w' hv' hb' hs')
        have h2 : Below w.heap.size w w' := ((hbw1.alloc hz1 _).alloc (by simp; omega) _).trans hb'
        go_roundw
        case rel => exact ⟨i + 1, ad', cap', by omega, by go_num, rfl, fun j hj => by rcases Nat.lt_or_ge j i with h | h; (exact HBAD.out j h); (rw [show j = i by omega]; exact HB2.out), by rw [HT.out, vcells_snoc]; exact hv', h2⟩
        case measure => simp [intOf]; omega
    · have hiN : i = N := by omega
      subst hiN
      have HK : Hid (voN l = i) := by show _ = _; rw [HN.out]; exact voN_all (fun j hj => HBAD.out j (by rw [HN.out]; exact hj))
      go_wp2_with fail
      go_ret
      exact ⟨ad, cap, i, rfl, HK.out.symm, hv, hbw⟩

theorem idV_eq (v u : List UInt8) (hv : 14 ≤ v.length) (hu : 14 ≤ u.length) : idV v = idV u ↔ cntV v = cntV u ∧ sumV v = sumV u := by
  have e : ∀ v : List UInt8, 14 ≤ v.length → idV v = v.getD 5 0 :: sumV v := by
    intro v hv
    unfold idV sumV
    have : v.drop 5 = v.getD 5 0 :: v.drop 6 := by
      rw [List.drop_eq_getElem_cons (by omega), List.getD_eq_getElem?_getD, List.getElem?_eq_getElem (by omega)]; rfl
    rw [this, List.take_succ_cons]
  rw [e v hv, e u hu]
  unfold cntV
  simp only [List.cons.injEq]
  constructor
  · rintro ⟨h1, h2⟩; exact ⟨by rw [h1], h2⟩
  · rintro ⟨h1, h2⟩; exact ⟨UInt8.toNat_inj.1 h1, h2⟩
theorem volOk_len {v : List UInt8} (h : volOk v = true) : 14 ≤ v.length := by
  simp only [volOk, Bool.and_eq_true, decide_eq_true_eq] at h; exact h.1.1.1
/-- The place of the first, or the end. -/
def firstEnd (f : Nat → Bool) (n : Nat) : Nat := (firstOf f n).getD n
theorem firstEnd_at {f : Nat → Bool} {n i : Nat} (hi : i < n) (h : ∀ j, j < i → f j = false) (hb : f i = true) : firstEnd f n = i := by
  unfold firstEnd; rw [firstOf_some.mpr ⟨hb, hi, h⟩]; rfl
theorem firstEnd_none {f : Nat → Bool} {n : Nat} (h : ∀ j, j < n → f j = false) : firstEnd f n = n := by
  unfold firstEnd; rw [firstOf_none.mpr h]; rfl

set_option maxRecDepth 100000 in
set_option maxHeartbeats 4000000 in
theorem firstMixed_any (l : List (List UInt8)) (ad0 : Option Addr) (N cap0 : Nat) (w : World) (hL : Lies w ad0 N 4 (fun i => voC (l.getD i []))) (hN : N = l.length) (hok : ∀ i, i < l.length → volOk (l.getD i []) = true) (hb : N ≤ 1099511627776) :
    Calls Try.prog 55 #[.slice ad0 N cap0] w fun e w' => e = .returned (.int .i64 (firstEnd (bad2 l) l.length : Nat)) ∧ Below w.heap.size w w' := by
  have HN : Hid (N = l.length) := hN
  have HOK : Hid (∀ i, i < l.length → volOk (l.getD i []) = true) := hok
  clear hN hok
  go_enter Try.func55, Try.ntmps55
  go_wp2_with fail
  go_loopw [3] (fun u wr => ∃ (i : Nat), i ≤ N ∧ u = .int .i64 i ∧ (∀ j, j < i → bad2 l j = false) ∧ Below w.heap.size w wr) (fun u _ => N - (intOf u).toNat)
  case atStart => exact ⟨0, by omega, rfl, by intro j hj; omega, Below.refl _ _⟩
  case round =>
    obtain ⟨i, hi, rfl, hbad, hbw⟩ := hrel
    have HBAD : Hid (∀ j, j < i → bad2 l j = false) := hbad
    clear hbad
    by_cases hlt : i < N
    · obtain ⟨b, o, hbl, hix, hc⟩ := (hL.below hbw).at cap0 (P := Try.prog) (t := 88) (by kernel_rfl) (by kernel_rfl) hlt
      obtain ⟨b', o', hbl', hix', hd⟩ := (hL.below hbw).at cap0 (P := Try.prog) (t := 88) (by kernel_rfl) (by kernel_rfl) (k := 0) (by omega)
      have c1 : wr.cell? ⟨b, o + 1, none⟩ = some (.int .u8 (cntV (l.getD i []))) := hc 1 _ (by omega) rfl
      have c2 : wr.cell? ⟨b, o + 2, none⟩ = some (.string (str (sumV (l.getD i [])))) := hc 2 _ (by omega) rfl
      have d1 : wr.cell? ⟨b', o' + 1, none⟩ = some (.int .u8 (cntV (l.getD 0 []))) := hd 1 _ (by omega) rfl
      have d2 : wr.cell? ⟨b', o' + 2, none⟩ = some (.string (str (sumV (l.getD 0 [])))) := hd 2 _ (by omega) rfl
      have hil : i < l.length := by rw [← HN.out]; exact hlt
      have HE := idV_eq (l.getD i []) (l.getD 0 []) (volOk_len (HOK.out i hil)) (volOk_len (HOK.out 0 (by omega)))
      have HB2 : Hid (bad2 l i = (idV (l.getD i []) != idV (l.getD 0 []))) := rfl
      have hix0 : ∀ w', (Instr.indexAt 88 (.slice ad0 N cap0) (.int .i64 0)).run Try.prog w' = .ok (.pointer (some ⟨b', o', none⟩)) w' := hix'
      clear hc hd hix'
      generalize cntV (l.getD i []) = ci at *
      generalize cntV (l.getD 0 []) = c0 at *
      generalize sumV (l.getD i []) = si at *
      generalize sumV (l.getD 0 []) = s0 at *
      by_cases hcc : ci = c0
      · have k1 : ((ci : Int) != (c0 : Int)) = false := by simp [hcc]
        by_cases hss : si = s0
        · have k2 : ((str si).toList == (str s0).toList) = true := by rw [str_beq, hss]; simp
          have HF : Hid (bad2 l i = false) := by show _ = _; rw [HB2.out, HE.2 ⟨hcc, hss⟩]; simp
          clear hcc hss HE
          go_wp2_with fail
          go_quiet (fail)
          go_wp2_with fail
          go_roundw
          case rel => exact ⟨i + 1, by omega, by go_num, fun j hj => by rcases Nat.lt_or_ge j i with h | h; (exact HBAD.out j h); (rw [show j = i by omega]; exact HF.out), below_drewN hbw _⟩
          case measure => simp [intOf]; omega
        · have k2 : ((str si).toList == (str s0).toList) = false := by rw [str_beq, beq_eq_false_iff_ne]; exact hss
          have HF : Hid (bad2 l i = true) := by show _ = _; rw [HB2.out, bne_iff_ne]; exact fun e => hss (HE.1 e).2
          clear hcc hss HE
          go_wp2_with fail
          go_quiet (fail)
          go_wp2_with fail
          go_ret
          exact ⟨by rw [firstEnd_at hil HBAD.out HF.out]; rfl, below_drewN hbw _⟩
      · have k1 : ((ci : Int) != (c0 : Int)) = true := by rw [bne_iff_ne]; omega
        have HF : Hid (bad2 l i = true) := by show _ = _; rw [HB2.out, bne_iff_ne]; exact fun e => hcc (HE.1 e).1
        clear hcc HE
        go_wp2_with fail
        go_quiet (fail)
        go_wp2_with fail
        go_ret
        exact ⟨by rw [firstEnd_at hil HBAD.out HF.out]; rfl, below_drewN hbw _⟩
    · have hiN : i = N := by omega
      subst hiN
      have HK : Hid (firstEnd (bad2 l) l.length = i) := by show _ = _; rw [← HN.out]; exact firstEnd_none HBAD.out
      go_wp2_with fail
      go_ret
      exact ⟨by rw [HK.out]; rfl, hbw⟩
end Go.Proofs.Ytdjpkgaicmklmab

/- Arrays as variables of the call's own; the program's Join: a number that is there twice, the parts laid in order: walked. -/
namespace Go.Proofs.Ytdjpkgaicmklmab
open Go.RowKit

section
variable {P : Program} {w : World} {ops : Array Oper} {rest : List Oper} {o : Oper} {a : Act} {Q : Exit → Act → World → Prop}

/-- 'T{}', T an array. -/
theorem wpList_bzero (hgd : o.guard = none) (t e n : Nat) (ho : o.op = .build t #[]) (hu : P.underlying t = some (.array n e)) (cs : List Value) (he : (P.info? e).isSome) (hz : (P.info? t).map (·.zero) = some (some (.agg cs.toArray)))
    (h : wpList P ops Q rest (a.put o.dst (.agg cs.toArray)) w) : wpList P ops Q (o :: rest) a w := by
  obtain ⟨i, hi, hzz⟩ := Option.map_eq_some_iff.1 hz
  obtain ⟨j, hj⟩ := Option.isSome_iff_exists.1 he
  refine wpList_plain hgd fun K hK => ?_
  have hrun : (Instr.build t #[]).run P w = .ok (.agg cs.toArray) w := by
    simp [Instr.build, zeroValue, typeInfo, hi, hzz, run_underlying hu, sizeOf, hj, Instr.fill, Value.cells]
  unfold Oper.wp
  simp [execOp, ho, hrun, Result.andThen]
  exact hK _ _ h

/-- 'var x T', T an array. -/
theorem wpList_bvar (hgd : o.guard = none) (t : Nat) (ho : o.op = .alloc t) (cs : List Value) (hz : (P.info? t).map (·.zero) = some (some (.agg cs.toArray)))
    (h : ∀ g w', g = w.heap.size → w'.heap.size = g + 1 → Bx w' g t cs → Below w.heap.size w w' → wpList P ops Q rest (a.put o.dst (.pointer (some ⟨g, 0, none⟩))) w') : wpList P ops Q (o :: rest) a w := by
  obtain ⟨i, hi, hzz⟩ := Option.map_eq_some_iff.1 hz
  refine wpList_bnew hgd t cs (fun w => ?_) h
  simp [execOp, ho, Instr.alloc, zeroValue, typeInfo, hi, hzz, newVar, newRow, Value.cells, Result.andThen]
end

/-- An element of such a variable. -/
theorem arr_idx {P : Program} {t e n : Nat} (hu : P.underlying t = some (.array n e)) (hs : (P.info? e).map (·.size) = some 1) (K : IntKind) (g k : Nat) (hk : k < n) (w : World) : (Instr.indexAt t (.pointer (some ⟨g, 0, none⟩)) (.int K (k : Int))).run P w = .ok (.pointer (some ⟨g, k, none⟩)) w := by
  cases hq : P.info? e with
  | none => simp [hq] at hs
  | some i =>
    have hi : i.size = 1 := by simpa [hq] using hs
    simp [Instr.indexAt, asIntOf, run_underlying hu, Instr.sureAddr, sizeOf, typeInfo, hq, hi, addr_add, hk]

/-- Which numbers there are, as cells. -/
abbrev seenC (l : List (List UInt8)) : List Value := (List.range 256).map fun k => .bool (l.any fun v => numV v == k)
set_option maxRecDepth 100000 in
theorem seenC_nil : List.replicate 256 (Value.bool false) = seenC [] := by rfl
theorem seenC_at (l : List (List UInt8)) (k : Nat) (h : k < 256) : (seenC l)[k]? = some (.bool (l.any fun v => numV v == k)) := by
  rw [List.getElem?_map, List.getElem?_range h]; rfl
theorem seenC_snoc (l : List (List UInt8)) (s : List UInt8) : (seenC l).set (numV s) (.bool true) = seenC (l ++ [s]) := by
  apply List.ext_getElem?
  intro k
  rw [List.getElem?_set]
  by_cases hk : k < 256
  · rw [seenC_at _ k hk, seenC_at _ k hk]
    by_cases e : numV s = k
    · simp [e, hk]
    · simp [e]
  · rw [List.getElem?_eq_none (by simp; omega), List.getElem?_eq_none (by simp; omega)]
    have := numV_lt s
    rw [if_neg (by omega)]

set_option maxRecDepth 100000 in
set_option maxHeartbeats 4000000 in
theorem firstTwice_any (l : List (List UInt8)) (ad0 : Option Addr) (N cap0 : Nat) (w : World) (hL : Lies w ad0 N 4 (fun i => voC (l.getD i []))) (hN : N = l.length) (hb : N ≤ 1099511627776) :
    Calls Try.prog 56 #[.slice ad0 N cap0] w fun e w' => e = .returned (.int .i64 (firstEnd (bad3 l) l.length : Nat)) ∧ Below w.heap.size w w' := by
  have HN : Hid (N = l.length) := hN
  clear hN
  obtain ⟨Z, hZ⟩ : ∃ Z, Z = List.replicate 256 (Value.bool false) := ⟨_, rfl⟩
  have HZ : Hid (Z = seenC []) := by show _ = _; rw [hZ]; exact seenC_nil
  have HI : Hid ((Try.prog.info? 114).map (·.zero) = some (some (.agg Z.toArray))) := by show _ = _; rw [hZ]; kernel_rfl
  have HL1 : Hid (Z.length = 256) := by show _ = _; rw [hZ]; simp
  have HO1 : Hid (∀ x, x ∈ Z → x.oneCell' = true) := by intro x hx; rw [hZ] at hx; rw [(List.mem_replicate.1 hx).2]; rfl
  clear hZ
  go_enter Try.func56, Try.ntmps56
  go_wp2_with (first
    | (refine wpList_bzero (by rfl) 114 4 256 (by rfl) Try.underlying114 Z (by kernel_rfl) HI.out ?_)
    | (refine wpList_bvar (by rfl) 114 (by rfl) Z HI.out ?_; intro g w1 hg hz1 hx hb1; subst hg)
    | (refine wpList_bstore (by rfl) _ _ 114 (by rfl) w.heap.size 114 (by rfl) _ Z (by rfl) hx 256 HL1.out (by kernel_rfl) HL1.out HO1.out ?_; intro w2 hx2 hu2))
  rw [HZ.out] at hx2
  have hb2 := hu2.below hb1 (by omega)
  have HG : Hid (w.heap.size ≤ w.heap.size) := Nat.le_refl _
  clear hx hb1 hu2 hz1 HZ HI HL1 HO1
  go_loopw [4] (fun u wr => ∃ (i : Nat), i ≤ N ∧ u = .int .i64 i ∧ (∀ j, j < i → bad3 l j = false) ∧ Bx wr w.heap.size 114 (seenC (l.take i)) ∧ Below w.heap.size w wr) (fun u _ => N - (intOf u).toNat)
  case atStart => exact ⟨0, by omega, rfl, by intro j hj; omega, by simpa using hx2, hb2⟩
  case round =>
    obtain ⟨i, hi, rfl, hbad, hx, hbw⟩ := hrel
    have HBAD : Hid (∀ j, j < i → bad3 l j = false) := hbad
    clear hbad
    by_cases hlt : i < N
    · obtain ⟨b, o, hbl, hix, hc⟩ := (hL.below hbw).at cap0 (P := Try.prog) (t := 88) (by kernel_rfl) (by kernel_rfl) hlt
      have c0 : wr.cell? ⟨b, o, none⟩ = some (.int .u8 (numV (l.getD i []))) := hc 0 _ (by omega) rfl
      have hil : i < l.length := by rw [← HN.out]; exact hlt
      have HB3 : Hid (bad3 l i = (l.take i).any fun v => numV v == numV (l.getD i [])) := rfl
      have HT : Hid ((seenC (l.take i)).set (numV (l.getD i [])) (.bool true) = seenC (l.take (i + 1))) := by show _ = _; rw [take_snoc l i hil]; exact seenC_snoc _ _
      have hnl := numV_lt (l.getD i [])
      have hca := (hx.cell (numV (l.getD i []))).trans (seenC_at (l.take i) _ hnl)
      rw [← HB3.out] at hca
      clear hc
      generalize numV (l.getD i []) = nv at *
      have hia := fun w' => arr_idx (P := Try.prog) (t := 114) (e := 4) (n := 256) Try.underlying114 (by kernel_rfl) .u8 w.heap.size nv hnl w'
      cases hq : bad3 l i with
      | true =>
        rw [hq] at hca
        have HF : Hid (firstEnd (bad3 l) l.length = i) := firstEnd_at hil HBAD.out hq
        clear hq
        go_wp2_with fail
        go_ret
        exact ⟨by rw [HF.out]; rfl, hbw⟩
      | false =>
        rw [hq] at hca
        have HF : Hid (bad3 l i = false) := hq
        clear hq
        go_wp2_with (refine wpList_bput (by rfl) _ _ 4 (by rfl) w.heap.size 114 nv (by rfl) _ (.bool true) (by rfl) hx (by kernel_rfl) (by simp; omega) (by rfl) (by rfl) ?_; intro w5 hx5 hu5)
        go_roundw
        case rel => exact ⟨i + 1, by omega, by go_num, fun j hj => by rcases Nat.lt_or_ge j i with h | h; (exact HBAD.out j h); (rw [show j = i by omega]; exact HF.out), by rw [← HT.out]; exact hx5, hu5.below hbw HG.out⟩
        case measure => simp [intOf]; omega
    · have hiN : i = N := by omega
      subst hiN
      have HK : Hid (firstEnd (bad3 l) l.length = i) := by show _ = _; rw [← HN.out]; exact firstEnd_none HBAD.out
      go_wp2_with fail
      go_ret
      exact ⟨by rw [HK.out]; rfl, hbw⟩

/-- The part of the volume with this number. -/
def bodyAt (l : List (List UInt8)) (k : Nat) : List UInt8 := bodyV (l.getD (atV l k) [])
theorem bodyAt_none {l : List (List UInt8)} {k : Nat} (h : ∀ v, v ∈ l → numV v ≠ k) : bodyAt l k = [] := by
  unfold bodyAt atV
  rw [List.findIdx_eq_length_of_false (by intro x hx; simpa using h x hx)]
  simp [bodyV]
theorem bodyAt_snoc {l : List (List UInt8)} {s : List UInt8} (h : ∀ v, v ∈ l → numV v ≠ numV s) (k : Nat) : bodyAt (l ++ [s]) k = if k = numV s then bodyV s else bodyAt l k := by
  unfold bodyAt atV
  rw [List.findIdx_append]
  by_cases hf : l.findIdx (fun v => numV v == k) < l.length
  · rw [if_pos hf]
    have hm := List.findIdx_getElem (w := hf) (p := fun v => numV v == k)
    have hne : k ≠ numV s := by
      intro e
      have h2 := h _ (List.getElem_mem hf)
      simp only [beq_iff_eq] at hm
      exact h2 (by rw [hm]; exact e)
    rw [if_neg hne, List.getD_eq_getElem?_getD, List.getElem?_append_left hf, ← List.getD_eq_getElem?_getD]
  · rw [if_neg hf]
    have hl : l.findIdx (fun v => numV v == k) = l.length := by have := List.findIdx_le_length (p := fun v => numV v == k) (xs := l); omega
    by_cases e : k = numV s
    · rw [if_pos e]; simp [e, List.findIdx_cons]
    · rw [if_neg e, hl]
      have : (numV s == k) = false := by rw [beq_eq_false_iff_ne]; exact fun h => e h.symm
      have e1 : (l ++ [s]).getD (List.findIdx (fun v => numV v == k) [s] + l.length) [] = [] := by
        rw [List.getD_eq_getElem?_getD, List.getElem?_eq_none (by simp [List.findIdx_cons, this]; omega)]; rfl
      have e2 : l.getD l.length [] = [] := by simp
      rw [e1, e2]
theorem bodyAt_len (l : List (List UInt8)) (k n : Nat) (h : ∀ v, v ∈ l → v.length ≤ n) : (bodyAt l k).length ≤ n := by
  unfold bodyAt
  by_cases hf : atV l k < l.length
  · have := h _ (volAt_mem hf); unfold bodyV; rw [List.length_take]; omega
  · rw [List.getD_eq_getElem?_getD, List.getElem?_eq_none (by omega)]; simp [bodyV]
abbrev partC (l : List (List UInt8)) : List Value := (List.range 256).map fun k => .string (str (bodyAt l k))
set_option maxRecDepth 100000 in
theorem partC_nil : List.replicate 256 (Value.string ⟨#[]⟩) = partC [] := by
  have e : partC [] = (List.range 256).map fun _ => Value.string ⟨#[]⟩ := by
    apply List.map_congr_left; intro k _; rw [bodyAt_none (by intro v hv; cases hv)]; rfl
  rw [e]; rfl
theorem partC_at (l : List (List UInt8)) (k : Nat) (h : k < 256) : (partC l)[k]? = some (.string (str (bodyAt l k))) := by
  rw [List.getElem?_map, List.getElem?_range h]; rfl
theorem partC_snoc {l : List (List UInt8)} {s : List UInt8} (h : ∀ v, v ∈ l → numV v ≠ numV s) : (partC l).set (numV s) (.string (str (bodyV s))) = partC (l ++ [s]) := by
  apply List.ext_getElem?
  intro k
  rw [List.getElem?_set]
  by_cases hk : k < 256
  · rw [partC_at _ k hk, partC_at _ k hk, bodyAt_snoc h]
    by_cases e : numV s = k
    · rw [if_pos e, if_pos (by simp; omega), if_pos e.symm]
    · rw [if_neg e, if_neg (fun h => e h.symm)]
  · rw [List.getElem?_eq_none (by simp; omega), List.getElem?_eq_none (by simp; omega)]
    have := numV_lt s
    rw [if_neg (by omega)]
theorem allV_eq (l : List (List UInt8)) (k : Nat) : allV l k = (List.range k).flatMap (bodyAt l) := rfl
theorem allV_succ (l : List (List UInt8)) (k : Nat) : allV l (k + 1) = allV l k ++ bodyAt l k := by
  rw [allV_eq, allV_eq, List.range_succ, List.flatMap_append]; simp
theorem allV_len (l : List (List UInt8)) (n : Nat) (h : ∀ v, v ∈ l → v.length ≤ n) : ∀ k, (allV l k).length ≤ k * n
  | 0 => by simp [allV]
  | k + 1 => by
    rw [allV_succ, List.length_append, Nat.add_mul]
    have := allV_len l n h k
    have := bodyAt_len l k n h
    omega
theorem allV_more {l : List (List UInt8)} {n : Nat} (h : ∀ v, v ∈ l → numV v < n) : ∀ k, allV l (n + k) = allV l n
  | 0 => rfl
  | k + 1 => by
    rw [show n + (k + 1) = (n + k) + 1 by omega, allV_succ, allV_more h k, bodyAt_none (by intro v hv; have := h v hv; omega), List.append_nil]

set_option maxRecDepth 100000 in
set_option maxHeartbeats 4000000 in
theorem joined_any (l : List (List UInt8)) (ad0 : Option Addr) (N cap0 : Nat) (w : World) (hL : Lies w ad0 N 4 (fun i => voC (l.getD i []))) (hN : N = l.length) (hb : N ≤ 1099511627776) (hnd : ∀ i, i < l.length → bad3 l i = false) (hl : ∀ v, v ∈ l → v.length ≤ 34359738368) :
    Calls Try.prog 57 #[.slice ad0 N cap0] w fun e w' => e = .returned (.string (str (allV l 256))) ∧ Below w.heap.size w w' := by
  have HN : Hid (N = l.length) := hN
  have HND : Hid (∀ i, i < l.length → bad3 l i = false) := hnd
  have HLE : Hid (∀ v, v ∈ l → v.length ≤ 34359738368) := hl
  clear hN hnd hl
  obtain ⟨Z, hZ⟩ : ∃ Z, Z = List.replicate 256 (Value.string ⟨#[]⟩) := ⟨_, rfl⟩
  have HZ : Hid (Z = partC []) := by show _ = _; rw [hZ]; exact partC_nil
  have HI : Hid ((Try.prog.info? 115).map (·.zero) = some (some (.agg Z.toArray))) := by show _ = _; rw [hZ]; kernel_rfl
  have HL1 : Hid (Z.length = 256) := by show _ = _; rw [hZ]; simp
  have HO1 : Hid (∀ x, x ∈ Z → x.oneCell' = true) := by intro x hx; rw [hZ] at hx; rw [(List.mem_replicate.1 hx).2]; rfl
  clear hZ
  go_enter Try.func57, Try.ntmps57
  go_wp2_with (first
    | (refine wpList_bzero (by rfl) 115 9 256 (by rfl) Try.underlying115 Z (by kernel_rfl) HI.out ?_)
    | (refine wpList_bvar (by rfl) 115 (by rfl) Z HI.out ?_; intro g w1 hg hz1 hx hb1; subst hg)
    | (refine wpList_bstore (by rfl) _ _ 115 (by rfl) w.heap.size 115 (by rfl) _ Z (by rfl) hx 256 HL1.out (by kernel_rfl) HL1.out HO1.out ?_; intro w2 hx2 hu2))
  rw [HZ.out] at hx2
  have hb2 := hu2.below hb1 (by omega)
  have HG : Hid (w.heap.size ≤ w.heap.size) := Nat.le_refl _
  clear hx hb1 hu2 hz1 HZ HI HL1 HO1
  go_loopw [4] (fun u wr => ∃ (i : Nat), i ≤ N ∧ u = .int .i64 i ∧ Bx wr w.heap.size 115 (partC (l.take i)) ∧ Below w.heap.size w wr) (fun u _ => N - (intOf u).toNat)
  case atStart => exact ⟨0, by omega, rfl, by simpa using hx2, hb2⟩
  case round =>
    obtain ⟨i, hi, rfl, hx, hbw⟩ := hrel
    by_cases hlt : i < N
    · obtain ⟨b, o, hbl, hix, hc⟩ := (hL.below hbw).at cap0 (P := Try.prog) (t := 88) (by kernel_rfl) (by kernel_rfl) hlt
      have c0 : wr.cell? ⟨b, o, none⟩ = some (.int .u8 (numV (l.getD i []))) := hc 0 _ (by omega) rfl
      have c3 : wr.cell? ⟨b, o + 3, none⟩ = some (.string (str (bodyV (l.getD i [])))) := hc 3 _ (by omega) rfl
      have hil : i < l.length := by rw [← HN.out]; exact hlt
      have HT : Hid ((partC (l.take i)).set (numV (l.getD i [])) (.string (str (bodyV (l.getD i [])))) = partC (l.take (i + 1))) := by
        show _ = _
        rw [take_snoc l i hil]
        refine partC_snoc fun v hv e => ?_
        have := HND.out i hil
        simp only [bad3, List.any_eq_false, beq_iff_eq] at this
        exact this v hv e
      have hnl := numV_lt (l.getD i [])
      have hca := (hx.cell (numV (l.getD i []))).trans (partC_at (l.take i) _ hnl)
      have hfr := hx.frozen (numV (l.getD i []))
      clear hc
      generalize numV (l.getD i []) = nv at *
      generalize bodyV (l.getD i []) = bo at *
      have hia := fun w' => arr_idx (P := Try.prog) (t := 115) (e := 9) (n := 256) Try.underlying115 (by kernel_rfl) .u8 w.heap.size nv hnl w'
      go_wp2_with fail
      go_region_law (fail)
      all_goals
        go_wp2_with fail
        go_roundw
        case rel => exact ⟨i + 1, by omega, by go_num, by rw [← HT.out]; exact (hx.drewN 1).setCell _ _, ((Upd.refl w.heap.size wr).drew.setCell _ rfl _).below hbw HG.out⟩
        case measure => simp [intOf]; omega
    · have hiN : i = N := by omega
      subst hiN
      have HF : Hid (Bx wr w.heap.size 115 (partC l)) := by
        have : l.take i = l := by rw [HN.out]; exact List.take_length
        rw [this] at hx; exact hx
      clear hx
      generalize hWW : wr = W at *
      clear hWW
      go_wp2_with fail
      go_loopw [5, 6] (fun v u wr => ∃ (k : Nat) (ad : Option Addr) (n cap : Nat), k ≤ 256 ∧ u = .int .i64 k ∧ v = .slice ad n cap ∧ n = (allV l k).length ∧ n ≤ 8796093022208 ∧ Vec wr W.heap.size 5 1 ad n cap (u8s (allV l k)) ∧ Below W.heap.size W wr) (fun _ u _ => 256 - (intOf u).toNat)
      case atStart => exact ⟨0, _, 0, _, by omega, rfl, rfl, rfl, by omega, Vec.lit W W.heap.size 5 1 0 [] (Nat.le_refl _) (by omega) rfl, (Below.refl _ _).alloc (Nat.le_refl _) _⟩
      case round =>
        obtain ⟨k, ad, n, cap, hk, rfl, rfl, hn, hn2, hv, hbk⟩ := hrel
        have HNN : Hid (n = (allV l k).length) := hn
        clear hn
        by_cases hlt2 : k < 256
        · have hia := fun w' => arr_idx (P := Try.prog) (t := 115) (e := 9) (n := 256) Try.underlying115 (by kernel_rfl) .i64 w.heap.size k hlt2 w'
          have hca := ((HF.out.below hbk HF.out.lt).cell k).trans (partC_at l k hlt2)
          have hlk := bodyAt_len l k _ HLE.out
          have HA : Hid (allV l (k + 1) = allV l k ++ bodyAt l k) := allV_succ l k
          have HA2 : Hid ((allV l (k + 1)).length ≤ 8796093022208) := by
            have h1 := allV_len l _ HLE.out (k + 1)
            have h2 : (k + 1) * 34359738368 ≤ 256 * 34359738368 := Nat.mul_le_mul_right _ (by omega)
            show _ ≤ _; omega
          have hbz := hbk.size
          go_wp2_with (at_builtin; refine wpList_pushStr (by rfl) _ _ 75 9 (by rfl) W.heap.size 5 Try.underlying75 Try.underlying9 (by kernel_rfl) ad n cap (allV l k) (bodyAt l k) (by rfl) hv (by rfl) (by omega) hbz _ rfl ?_; intro ad' cap' w' hv' hb' hs')
          go_roundw
          case rel => exact ⟨k + 1, ad', n + (bodyAt l k).length, cap', by omega, by go_num, rfl, by rw [HA.out, List.length_append, HNN.out], by have := HA2.out; rw [HA.out, List.length_append, ← HNN.out] at this; exact this, by rw [HA.out]; exact hv', hbk.trans hb'⟩
          case measure => simp [intOf]; omega
        · have hk256 : k = 256 := by omega
          subst hk256
          go_wp2_with (refine wpList_toStr (by rfl) 75 9 5 _ (by rfl) Try.underlying75 Try.underlying5 Try.underlying9 W.heap.size n cap ad (by rfl) (allV l 256) hv ?_)
          go_ret
          exact ⟨rfl, hbw.trans (hbk.mono hbw.size)⟩
end Go.Proofs.Ytdjpkgaicmklmab

/- The program's Join, walked. -/
namespace Go.Proofs.Ytdjpkgaicmklmab
open Go.RowKit

/-- What Join answers, as values. -/
abbrev jnV (j : Jn) : Value := .tuple #[.string (str j.b), .int .i64 j.err, .int .i64 (j.at_ : Int)]
theorem joinRd_bad1 {l : List (List UInt8)} {i : Nat} (h : firstOf (bad1 l) l.length = some i) : joinRd l = ⟨[], 13, i⟩ := by unfold joinRd; rw [h]
theorem joinRd_bad2 {l : List (List UInt8)} {i : Nat} (h1 : firstOf (bad1 l) l.length = none) (h : firstOf (bad2 l) l.length = some i) : joinRd l = ⟨[], 14, i⟩ := by unfold joinRd; rw [h1, h]
theorem joinRd_bad3 {l : List (List UInt8)} {i : Nat} (h1 : firstOf (bad1 l) l.length = none) (h2 : firstOf (bad2 l) l.length = none) (h : firstOf (bad3 l) l.length = some i) : joinRd l = ⟨[], 15, i⟩ := by unfold joinRd; rw [h1, h2, h]
theorem joinRd_miss {l : List (List UInt8)} (h1 : firstOf (bad1 l) l.length = none) (h2 : firstOf (bad2 l) l.length = none) (h3 : firstOf (bad3 l) l.length = none) (h : l.length = 0 ∨ l.length ≠ cntV (l.getD 0 [])) : joinRd l = ⟨[], 16, 0⟩ := by
  unfold joinRd; rw [h1, h2, h3]; simp only; rw [if_pos h]
theorem joinRd_sum {l : List (List UInt8)} (h1 : firstOf (bad1 l) l.length = none) (h2 : firstOf (bad2 l) l.length = none) (h3 : firstOf (bad3 l) l.length = none) (h : ¬ (l.length = 0 ∨ l.length ≠ cntV (l.getD 0 [])))
    (hs : fourI (crc pSum (allV l l.length)) ≠ sumV (l.getD 0 [])) : joinRd l = ⟨[], 8, 0⟩ := by
  unfold joinRd; rw [h1, h2, h3]; simp only; rw [if_neg h, if_pos hs]
theorem joinRd_ok {l : List (List UInt8)} (h1 : firstOf (bad1 l) l.length = none) (h2 : firstOf (bad2 l) l.length = none) (h3 : firstOf (bad3 l) l.length = none) (h : ¬ (l.length = 0 ∨ l.length ≠ cntV (l.getD 0 [])))
    (hs : fourI (crc pSum (allV l l.length)) = sumV (l.getD 0 [])) : joinRd l = ⟨allV l l.length, 0, 0⟩ := by
  unfold joinRd; rw [h1, h2, h3]; simp only; rw [if_neg h, if_neg (by simp [hs])]
theorem firstEnd_lt {f : Nat → Bool} {n i : Nat} (h : firstOf f n = some i) : firstEnd f n = i ∧ i < n := ⟨by unfold firstEnd; rw [h]; rfl, (firstOf_some.mp h).2.1⟩
theorem firstEnd_eq {f : Nat → Bool} {n : Nat} (h : firstOf f n = none) : firstEnd f n = n := by unfold firstEnd; rw [h]; rfl
theorem ok_of_none {l : List (List UInt8)} (h : firstOf (bad1 l) l.length = none) (i : Nat) (hi : i < l.length) : volOk (l.getD i []) = true := by
  have := firstOf_none.mp h i hi
  simpa [bad1] using this
theorem cnt_all {l : List (List UInt8)} (h1 : firstOf (bad1 l) l.length = none) (h2 : firstOf (bad2 l) l.length = none) (hc : l.length = cntV (l.getD 0 [])) : ∀ v, v ∈ l → numV v < l.length := by
  intro v hv
  obtain ⟨i, hi, rfl⟩ := List.mem_iff_getElem.mp hv
  have a := ok_of_none h1 i hi
  have b := firstOf_none.mp h2 i hi
  simp only [bad2, bne_eq_false_iff_eq] at b
  have hz : ∀ v : List UInt8, cntV v = ((idV v).getD 0 0).toNat := by intro v; unfold cntV idV; simp [List.getElem?_drop]
  have c : cntV (l.getD i []) = cntV (l.getD 0 []) := by rw [hz, hz, b]
  have e : l.getD i [] = l[i] := by rw [List.getD_eq_getElem?_getD, List.getElem?_eq_getElem hi]; rfl
  rw [e] at a c
  simp only [volOk, Bool.and_eq_true, decide_eq_true_eq] at a
  omega

theorem below_drew1 {w w' : World} (hb : Below w.drew.heap.size w.drew w') : Below w.heap.size w w' := (Below.drew (Below.refl w.heap.size w)).trans hb

set_option maxRecDepth 100000 in
set_option maxHeartbeats 4000000 in
theorem vjoin_any (l : List (List UInt8)) (ad0 : Option Addr) (N cap0 : Nat) (w : World) (hL : Lies w ad0 N 1 (fun i => [.string (str (l.getD i []))])) (hN : N = l.length) (hl : ∀ v, v ∈ l → v.length ≤ 34359738368) (hb : N ≤ 1099511627776) :
    Calls Try.prog 34 #[.slice ad0 N cap0] w fun e w' => e = .returned (jnV (joinRd l)) ∧ Below w.heap.size w w' := by
  have HLE : Hid (∀ v, v ∈ l → v.length ≤ 34359738368) := hl
  have HN : Hid (N = l.length) := hN
  have HL : Hid (Lies w ad0 N 1 (fun i => [.string (str (l.getD i []))])) := hL
  clear hl hN hL
  go_enter Try.func34, Try.ntmps34
  go_wp2_with fail
  refine (volumesOf_any l ad0 N cap0 _ HL.out HN.out (fun v hv => Nat.le_trans (HLE.out v hv) (by omega)) hb).mono ?_
  rintro e w1 ⟨ad, cap, k, rfl, hk, hv1, hb1⟩
  have HV1 : Hid (Vec w1 w.heap.size 87 4 ad k cap (vcells (l.take k))) := hv1
  have HB1 : Hid (Below w.heap.size w w1) := hb1
  clear hv1 hb1
  cases h1 : firstOf (bad1 l) l.length with
  | some i =>
    have hki : k = i := by rw [hk]; unfold voN; rw [h1]; rfl
    have hlt : i < N := by rw [HN.out]; exact (firstOf_some.mp h1).2.1
    subst hki
    have HR : Hid (joinRd l = ⟨[], 13, k⟩) := joinRd_bad1 h1
    clear h1 hk
    go_wp2_with fail
    go_ret3
    exact ⟨by rw [HR.out]; rfl, HB1.out⟩
  | none =>
    have hkN : k = N := by rw [hk, HN.out]; unfold voN; rw [h1]; rfl
    subst hkN
    have HV2 : Hid (Lies w1 ad k 4 (fun i => voC (l.getD i []))) := by
      have := HV1.out
      rw [show l.take k = l by rw [HN.out]; exact List.take_length] at this
      exact vcells_lies this HN.out
    have H1 : Hid (firstOf (bad1 l) l.length = none) := h1
    clear h1 hk HV1
    go_wp2_with fail
    refine (firstMixed_any l ad k cap _ HV2.out HN.out (ok_of_none H1.out) hb).mono ?_
    rintro e w2 ⟨rfl, hb2⟩
    have HB2 : Hid (Below w1.heap.size w1 w2) := hb2
    clear hb2
    cases h2 : firstOf (bad2 l) l.length with
    | some i =>
      obtain ⟨e2, hlt⟩ := firstEnd_lt h2
      have HR : Hid (joinRd l = ⟨[], 14, i⟩) := joinRd_bad2 H1.out h2
      rw [← HN.out] at hlt
      rw [e2]
      clear h2 e2
      go_wp2_with fail
      go_ret3
      exact ⟨by rw [HR.out]; rfl, HB1.out.trans (HB2.out.mono HB1.out.size)⟩
    | none =>
      have e2 := firstEnd_eq h2
      rw [← HN.out] at e2
      have H2 : Hid (firstOf (bad2 l) l.length = none) := h2
      rw [← HN.out, e2]
      clear h2 e2
      go_wp2_with fail
      refine (firstTwice_any l ad k cap _ (HV2.out.below HB2.out) HN.out hb).mono ?_
      rintro e w3 ⟨rfl, hb3⟩
      have HB3 : Hid (Below w1.heap.size w1 w3) := HB2.out.trans (hb3.mono HB2.out.size)
      clear hb3
      cases h3 : firstOf (bad3 l) l.length with
      | some i =>
        obtain ⟨e3, hlt⟩ := firstEnd_lt h3
        have HR : Hid (joinRd l = ⟨[], 15, i⟩) := joinRd_bad3 H1.out H2.out h3
        rw [← HN.out] at hlt
        rw [e3]
        clear h3 e3
        go_wp2_with fail
        go_ret3
        exact ⟨by rw [HR.out]; rfl, HB1.out.trans (HB3.out.mono HB1.out.size)⟩
      | none =>
        have e3 := firstEnd_eq h3
        rw [← HN.out] at e3
        have H3 : Hid (firstOf (bad3 l) l.length = none) := h3
        rw [← HN.out, e3]
        clear h3 e3
        by_cases h0 : k = 0
        · have HR : Hid (joinRd l = ⟨[], 16, 0⟩) := joinRd_miss H1.out H2.out H3.out (Or.inl (by rw [← HN.out]; exact h0))
          subst h0
          go_wp2_with fail
          go_ret3
          exact ⟨by rw [HR.out]; rfl, HB1.out.trans (HB3.out.mono HB1.out.size)⟩
        · have hk0 : 0 < k := by omega
          obtain ⟨b', o', hbl', hix', hd⟩ := (HV2.out.below HB3.out).at cap (P := Try.prog) (t := 88) (by kernel_rfl) (by kernel_rfl) (k := 0) hk0
          have d1 : w3.cell? ⟨b', o' + 1, none⟩ = some (.int .u8 (cntV (l.getD 0 []))) := hd 1 _ (by omega) rfl
          have d2 : w3.cell? ⟨b', o' + 2, none⟩ = some (.string (str (sumV (l.getD 0 [])))) := hd 2 _ (by omega) rfl
          have hix0 : ∀ w', (Instr.indexAt 88 (.slice ad k cap) (.int .i64 0)).run Try.prog w' = .ok (.pointer (some ⟨b', o', none⟩)) w' := hix'
          have hcl := cntV_lt (l.getD 0 [])
          obtain ⟨c, hc⟩ : ∃ c, c = cntV (l.getD 0 []) := ⟨_, rfl⟩
          have HC : Hid (cntV (l.getD 0 []) = c) := hc.symm
          obtain ⟨s0, hs0⟩ : ∃ c, c = sumV (l.getD 0 []) := ⟨_, rfl⟩
          have HS0 : Hid (sumV (l.getD 0 []) = s0) := hs0.symm
          rw [← hc] at d1 hcl
          rw [← hs0] at d2
          clear hd hix' hc hs0
          have wc : wrap64 (c : Int) = (c : Int) := by unfold wrap64; omega
          have q0 : ((k : Int) == 0) = false := by rw [beq_eq_false_iff_ne]; omega
          by_cases hcc : k = c
          · have q1 : ((k : Int) != (c : Int)) = false := by rw [hcc]; simp
            have HOK : Hid (¬ (l.length = 0 ∨ l.length ≠ cntV (l.getD 0 []))) := by show ¬ _; rw [← HN.out, HC.out]; omega
            have HA : Hid (allV l 256 = allV l l.length) := by
              have := allV_more (cnt_all H1.out H2.out (by rw [← HN.out, HC.out]; exact hcc)) (256 - l.length)
              rw [show l.length + (256 - l.length) = 256 by rw [← HN.out]; omega] at this
              exact this
            clear hcc
            go_wp2_with fail
            refine (joined_any l ad k cap _ (HV2.out.below HB3.out) HN.out hb (firstOf_none.mp H3.out) HLE.out).mono ?_
            rintro e w4 ⟨rfl, hb4⟩
            rw [HA.out]
            have hal : (allV l l.length).length ≤ 8796093022208 := by
              have h1 := allV_len l _ HLE.out 256
              rw [HA.out] at h1; omega
            replace d1 := ((hb4.cell (p := ⟨b', o' + 1, none⟩) hbl')).trans d1
            replace d2 := ((hb4.cell (p := ⟨b', o' + 2, none⟩) hbl')).trans d2
            have HB4 : Hid (Below w1.heap.size w1 w4) := HB3.out.trans (hb4.mono HB3.out.size)
            have HBL : Hid (b' < w4.heap.size) := Nat.lt_of_lt_of_le hbl' hb4.size
            have HRS := joinRd_sum H1.out H2.out H3.out HOK.out
            have HRO := joinRd_ok H1.out H2.out H3.out HOK.out
            rw [HS0.out] at HRS HRO
            clear hb4 HA HOK wc
            generalize allV l l.length = A at *
            go_wp2_with fail
            refine (sum_any A _ (by omega)).mono ?_
            rintro e w5 ⟨rfl, hw5⟩
            subst hw5
            obtain ⟨c1, c2⟩ := crc_le pSum (by decide) A
            by_cases hq : fourI (crc pSum A) = s0
            · have hqb : ((str s0).toList == (str (fourI (crc pSum A))).toList) = true := by rw [str_beq, hq]; simp
              have HR : Hid (joinRd l = ⟨A, 0, 0⟩) := HRO hq
              clear HRS HRO hq
              go_wp2_with fail
              go_region_law (go_simp; go_at_call 50; refine (fourBytes_any _ _ c1 c2).mono ?_; rintro e w' ⟨rfl, hb'⟩; dsimp only; have d3 : w'.cell? ⟨b', o' + 2, none⟩ = some (.string (str s0)) := (hb'.cell (p := ⟨b', o' + 2, none⟩) HBL.out).trans d2)
              all_goals
                go_wp2_with fail
                go_ret3
                exact ⟨by rw [HR.out]; rfl, HB1.out.trans ((HB4.out.trans ((below_drew1 hb').mono HB4.out.size)).mono HB1.out.size)⟩
            · have hqb : ((str s0).toList == (str (fourI (crc pSum A))).toList) = false := by rw [str_beq, beq_eq_false_iff_ne]; exact fun e => hq e.symm
              have HR : Hid (joinRd l = ⟨[], 8, 0⟩) := HRS hq
              clear HRS HRO hq
              go_wp2_with fail
              go_region_law (go_simp; go_at_call 50; refine (fourBytes_any _ _ c1 c2).mono ?_; rintro e w' ⟨rfl, hb'⟩; dsimp only; have d3 : w'.cell? ⟨b', o' + 2, none⟩ = some (.string (str s0)) := (hb'.cell (p := ⟨b', o' + 2, none⟩) HBL.out).trans d2)
              all_goals
                go_wp2_with fail
                go_ret3
                exact ⟨by rw [HR.out]; rfl, HB1.out.trans ((HB4.out.trans ((below_drew1 hb').mono HB4.out.size)).mono HB1.out.size)⟩
          · have q1 : ((k : Int) != (c : Int)) = true := by rw [bne_iff_ne]; omega
            have HR : Hid (joinRd l = ⟨[], 16, 0⟩) := joinRd_miss H1.out H2.out H3.out (Or.inr (by rw [← HN.out, HC.out]; exact hcc))
            go_wp2_with fail
            go_ret3
            exact ⟨by rw [HR.out]; rfl, HB1.out.trans (HB3.out.mono HB1.out.size)⟩

end Go.Proofs.Ytdjpkgaicmklmab

/- parcel.Join of the program, walked. -/
namespace Go.Proofs.Ytdjpkgaicmklmab
open Go.RowKit

set_option maxRecDepth 100000 in
set_option maxHeartbeats 4000000 in
theorem pjoin_any (l : List (List UInt8)) (ad0 : Option Addr) (N cap0 : Nat) (w : World) (hL : Lies w ad0 N 1 (fun i => [.string (str (l.getD i []))])) (hN : N = l.length) (hl : ∀ v, v ∈ l → v.length ≤ 34359738368) (hb : N ≤ 1099511627776) :
    Calls Try.prog 13 #[.slice ad0 N cap0] w fun e w' => e = .returned (jnV (joinRd l)) ∧ Below w.heap.size w w' := by
  have H := vjoin_any l ad0 N cap0 w hL hN hl hb
  clear hL hN hl hb
  go_enter Try.func13, Try.ntmps13
  go_wp2_with fail
  refine H.mono ?_
  rintro e w' ⟨rfl, h⟩
  clear H
  obtain ⟨jb, hjb⟩ : ∃ x, x = (joinRd l).b := ⟨_, rfl⟩
  obtain ⟨je, hje⟩ : ∃ x, x = (joinRd l).err := ⟨_, rfl⟩
  obtain ⟨ja, hja⟩ : ∃ x, x = (joinRd l).at_ := ⟨_, rfl⟩
  have HJ : Hid (jnV (joinRd l) = .tuple #[.string (str jb), .int .i64 je, .int .i64 (ja : Int)]) := by show _ = _; rw [hjb, hje, hja]
  clear hjb hje hja
  rw [HJ.out]
  go_wp2_with fail
  go_ret3
  exact ⟨by rw [HJ.out]; rfl, h⟩
end Go.Proofs.Ytdjpkgaicmklmab

/- Missing: called with any bytes and numbers, it answers true. -/
namespace Go.Proofs.Ytdjpkgaicmklmab
open Go.RowKit

theorem vols_short {m : Nat} {b v : List UInt8} (h : v ∈ volsB m b) : v.length ≤ m + 14 := by
  obtain ⟨i, _, rfl⟩ := vols_mem h
  rw [volB_len]; unfold partB; simp; omega
/-- The room of the volumes. -/
def roomN (size : Int) : Nat := (volN size - 14).toNat
theorem roomN_range (size : Int) : 26 ≤ roomN size ∧ roomN size ≤ 3986 ∧ (roomN size : Int) + 14 = volN size := by
  have := volN_range size; unfold roomN; omega
theorem split_ok {b : List UInt8} (size : Int) (hb : b.length ≤ 6000) : splitL b (volN size) = volsB (roomN size) b ∧ splitE b (volN size) = 0 := by
  have h := volN_range size
  have ok : splitOk b (volN size) := ⟨h.1, h.2, hb⟩
  exact ⟨by unfold splitL; rw [if_pos ok]; rfl, by unfold splitE; rw [if_pos ok]⟩
theorem split_no {b : List UInt8} (size : Int) (hb : 6000 < b.length) : splitL b (volN size) = [] ∧ splitE b (volN size) = 12 := by
  have ok : ¬ splitOk b (volN size) := fun h => by have := h.2.2; omega
  exact ⟨by unfold splitL; rw [if_neg ok], by unfold splitE; rw [if_neg ok]⟩
theorem range_strs (l : List (List UInt8)) (k n : Nat) (h : k + n ≤ l.length) : ((List.range n).map fun i => [Value.string (str (l.getD (k + i) []))]).flatten = strs ((l.drop k).take n) := by
  rw [← strs_flat]
  congr 1
  apply List.ext_getElem?
  intro i
  by_cases hi : i < n
  · have : k + i < l.length := by omega
    simp [hi, this, List.getElem?_take_of_lt, List.getElem?_drop]
  · simp [hi]; omega
theorem range_strs0 (l : List (List UInt8)) (n : Nat) (h : n ≤ l.length) : ((List.range n).map fun i => [Value.string (str (l.getD i []))]).flatten = strs (l.take n) := by
  have := range_strs l 0 n (by omega)
  simp only [Nat.zero_add, List.drop_zero] at this
  exact this
theorem Lies.drop1 {w : World} {ad : Option Addr} {n : Nat} {f : Nat → List Value} (h : Lies w ad n 1 f) (cap k : Nat) (hc : n ≤ cap) : Lies w (if cap = k then ad else ad.map (·.add k)) (n - k) 1 (fun i => f (k + i)) := by
  have := h.drop cap k hc
  rw [Nat.mul_one] at this
  exact this
theorem ones_str (f : Nat → List UInt8) : ∀ i, ∀ u, u ∈ [Value.string (str (f i))] → u.oneCell' = true := by intro i u hu; simp at hu; subst hu; rfl
theorem bit_last : bitM 2147483648 0 = true := by decide

section
variable {P : Program} {w : World} {ops : Array Oper} {rest : List Oper} {o : Oper} {a : Act} {Q : Exit → Act → World → Prop}
/-- 'l[k:]': the list behind, its address a name. -/
theorem wpList_tail (hgd : o.guard = none) (t : TypeId) (x lo : Operand) (ho : o.op = .slice t x (some lo) none none) (ht : P.underlying t = some (.slice (P.elem t))) (hs : (P.info? (P.elem t)).map (·.size) = some 1)
    (ad : Option Addr) (n cap k : Nat) (K : Int) (hx : a.eval x = .slice ad n cap) (hlo : a.eval lo = .int .i64 K) (hK : K = (k : Int)) (hk : k ≤ n) (f : Nat → List Value) (hL : Lies w ad n 1 f) (hc : n ≤ cap)
    (h : ∀ ad', Lies w ad' (n - k) 1 (fun i => f (k + i)) → wpList P ops Q rest (a.put o.dst (.slice ad' (n - k) (cap - k))) w) : wpList P ops Q (o :: rest) a w := by
  subst hK
  cases hq : P.info? (P.elem t) with
  | none => simp [hq] at hs
  | some i =>
    have hi : i.size = 1 := by simpa [hq] using hs
    have hz : (sizeOf (P.elem t)).run P w = .ok 1 w := by simp [sizeOf, typeInfo, hq, hi]
    have hrun : (Instr.sliceAt t (.slice ad n cap) (some (.int .i64 (k : Int))) none none).run P w = .ok (.slice (if cap = k then ad else ad.map (·.add k)) (n - k) (cap - k)) w := by
      rw [run_sliceAt_slice w t _ _ _ _ ht, run_slice_l w t ad n cap ht .i64 (k : Int) (by omega) (by omega), hz]
      simp [sliced]
    refine wpList_plain hgd fun K hK => ?_
    unfold Oper.wp
    simp [execOp, ho, hx, hlo, hrun, Result.andThen]
    exact hK _ _ (h _ (hL.drop1 cap k hc))
end

set_option maxRecDepth 100000 in
set_option maxHeartbeats 4000000 in
theorem missing_any (b : List UInt8) (size which at_ : Int) (w : World) (hb : b.length ≤ 9223372036854775807) (hs : I64 size) (hw : I64 which) (ha : I64 at_) :
    Calls Try.prog 5 #[.string (str b), .int .i64 size, .int .i64 which, .int .i64 at_] w fun e w' => e = .returned (.bool true) ∧ Below w.heap.size w w' := by
  have HS : Hid (I64 size) := hs
  have HW : Hid (I64 which) := hw
  have HA : Hid (I64 at_) := ha
  have hz := str_size b
  have HZ : Hid ((str b).size = b.length) := hz
  have hbb : (str b).size ≤ 9223372036854775807 := by omega
  have HBB : Hid (b.length ≤ 9223372036854775807) := hb
  clear hs hw ha hb
  by_cases h6 : (str b).size ≤ 6000
  · obtain ⟨e1, e2⟩ := split_ok (b := b) size (by omega)
    have H6 : Hid (b.length ≤ 6000) := by show _ ≤ _; omega
    have HE1 : Hid (splitL b (volN size) = volsB (roomN size) b) := e1
    have HE2 : Hid (splitE b (volN size) = 0) := e2
    obtain ⟨r1, r2, r3⟩ := roomN_range size
    have HR1 : Hid (26 ≤ roomN size) := r1
    have HR2 : Hid (roomN size ≤ 3986) := r2
    clear e1 e2 hz r1 r2 r3
    go_enter Try.func5, Try.ntmps5
    go_wp2_with fail
    refine (volumes_any size _ HS.out).mono ?_
    rintro e w1 ⟨rfl, hw1⟩
    obtain rfl : w = w1 := hw1.symm
    go_wp2_with fail
    refine (psplit_any b (volN size) _ HBB.out).mono ?_
    rintro e w1 ⟨ad, cap, N, rfl, hN, hv, hb1⟩
    rw [HE1.out] at hN hv
    rw [HE2.out]
    rw [vols_len] at hN
    generalize hmm : roomN size = m at *
    have HSM : Hid (∀ c : List UInt8, c.length = b.length → splitL c (volN size) = volsB m c ∧ splitE c (volN size) = 0) := fun c hc => by
      rw [← hmm]; exact split_ok size (by rw [hc]; exact H6.out)
    have HM0 := cnt_pos m b.length (by have := HR1.out; omega)
    have HM1 := cnt_small m b.length HR1.out H6.out
    have hN0 : 0 < N := by omega
    have hN1 : N < 256 := by omega
    have HN : Hid (N = cntB m b.length) := hN
    have HV : Hid (Vec w1 w.heap.size 9 1 ad N cap (strs (volsB m b))) := hv
    have HB1 : Hid (Below w.heap.size w w1) := hb1
    have HNV : Hid (N = (volsB m b).length) := by show _ = _; rw [vols_len]; exact HN.out
    have HSH : Hid (∀ v, v ∈ volsB m b → v.length ≤ 34359738368) := fun v hv => by have := vols_short hv; have := HR2.out; omega
    have hcap := hv.cap_le
    clear hN hv hb1 HM0 HM1 hmm HE1 HE2
    go_wp2_with fail
    refine (pjoin_any (volsB m b) ad N cap _ (strs_lies HV.out HNV.out) HNV.out HSH.out (by omega)).mono ?_
    rintro e w2 ⟨rfl, hb2⟩
    rw [join_perm HR1.out H6.out (List.Perm.refl _)]
    have HB2 : Hid (Below w1.heap.size w1 w2) := hb2
    clear hb2
    have q0 : ((str b).toList == (str b).toList) = true := by simp
    have q1 : ((N : Int) == 0) = false := by rw [beq_eq_false_iff_ne]; omega
    have q2 : ((str ([] : List UInt8)).toList == []) = true := by rw [str_toList]; rfl
    go_wp2_with fail
    obtain ⟨p1, p2⟩ := pickI_lt which (N : Int) (by omega)
    obtain ⟨i, hi⟩ : ∃ i : Nat, pickI which (N : Int) = (i : Int) := ⟨(pickI which (N : Int)).toNat, by omega⟩
    have hiN : i < N := by omega
    have HI : Hid (pickI which (N : Int) = (i : Int)) := hi
    clear p1 p2 hi
    refine (pick_any which (N : Int) _ HW.out (by omega) (by omega)).mono ?_
    rintro e w3 ⟨rfl, hw3⟩
    obtain rfl : w2 = w3 := hw3.symm
    rw [HI.out]
    have u1 : (0 : Int) ≤ (i : Int) := by omega
    have u2 : (i : Int) ≤ (cap : Int) := by omega
    have u3 : (i : Int) + 1 ≤ (N : Int) := by omega
    have HL : Hid (Lies w2 ad N 1 (fun i => [.string (str ((volsB m b).getD i []))])) := (strs_lies HV.out HNV.out).below HB2.out
    have HZ3 : Hid (w.heap.size ≤ w2.heap.size) := Nat.le_trans HB1.out.size HB2.out.size
    go_wp2_with (first
      | (at_builtin; refine wpList_pushAll (by rfl) _ _ 33 (by rfl) w2.heap.size 9 1 16 (.string ⟨#[]⟩) Try.underlying33 (by kernel_rfl) rfl (by decide) none 0 0 [] (by rfl) (Vec.nil _ _ _ _) ad i cap (fun k => [.string (str ((volsB m b).getD k []))]) (by rfl) (HL.out.take i (by omega)) (fun _ _ => rfl) (fun j _ => ones_str (fun j => (volsB m b).getD j []) j) ?_ ?_ ?_ i ?_ ?_; (omega); (omega); (exact Nat.le_refl _); (omega); intro ad4 cap4 w4 hv4 hb4 hs4; rw [List.nil_append, range_strs0 (volsB m b) i (by rw [← HNV.out]; omega)] at hv4)
      | (refine wpList_tail (by rfl) 33 _ _ (by rfl) (by kernel_rfl) (by kernel_rfl) ad N cap (i + 1) _ (by rfl) (by rfl) (by omega) (by omega) _ (HL.out.below hb4) hcap ?_; intro A9 HL9)
      | (at_builtin; refine wpList_pushAll (by rfl) _ _ 33 (by rfl) w2.heap.size 9 1 16 (.string ⟨#[]⟩) Try.underlying33 (by kernel_rfl) rfl (by decide) ad4 i cap4 _ (by rfl) hv4 A9 (N - (i + 1)) (cap - (i + 1)) (fun k => [.string (str ((volsB m b).getD (i + 1 + k) []))]) (by rfl) HL9 (fun _ _ => rfl) (fun j _ => ones_str (fun j => (volsB m b).getD (i + 1 + j) []) j) ?_ ?_ ?_ (N - 1) ?_ ?_; (omega); (omega); (exact hs4); (omega); intro ad5 cap5 w5 hv5 hb5 hs5; rw [range_strs (volsB m b) (i + 1) (N - (i + 1)) (by rw [← HNV.out]; omega)] at hv5))
    have hl5 : strs ((volsB m b).take i) ++ strs (((volsB m b).drop (i + 1)).take (N - (i + 1))) = strs ((volsB m b).take i ++ (volsB m b).drop (i + 1)) := by
      rw [List.take_of_length_le (l := (volsB m b).drop (i + 1)) (by rw [List.length_drop, ← HNV.out]; exact Nat.le_refl _), strs, strs, strs, List.map_append]
    rw [hl5] at hv5
    have HNL : Hid (N - 1 = ((volsB m b).take i ++ (volsB m b).drop (i + 1)).length) := by show _ = _; simp [← HNV.out]; omega
    have HSB : Hid (((volsB m b).take i ++ (volsB m b).drop (i + 1)).Sublist (volsB m b)) := by
      have h1 := List.take_append_drop i (volsB m b)
      have h2 : ((volsB m b).drop (i + 1)).Sublist ((volsB m b).drop i) := List.drop_sublist_drop_left _ (by omega)
      have h3 := List.Sublist.append (List.Sublist.refl ((volsB m b).take i)) h2
      rw [h1] at h3; exact h3
    have HJL : Hid (joinRd ((volsB m b).take i ++ (volsB m b).drop (i + 1)) = ⟨[], 16, 0⟩) := join_less HR1.out H6.out HSB.out (by rw [← HNL.out, ← HN.out]; omega)
    have HV5 : Hid (Vec w5 w2.heap.size 9 1 ad5 (N - 1) cap5 (strs ((volsB m b).take i ++ (volsB m b).drop (i + 1)))) := hv5
    have HB5 : Hid (Below w2.heap.size w2 w5) := hb4.trans hb5
    clear hv4 hb4 hs4 hv5 hb5 hs5 hl5
    refine (pjoin_any _ ad5 (N - 1) cap5 _ (strs_lies HV5.out HNL.out) HNL.out (fun v hv => HSH.out v (HSB.out.subset hv)) (by omega)).mono ?_
    rintro e w6 ⟨rfl, hb6⟩
    rw [HJL.out]
    have HB6 : Hid (Below w2.heap.size w2 w6) := HB5.out.trans (hb6.mono HB5.out.size)
    have HL6 : Hid (Lies w6 ad N 1 (fun i => [.string (str ((volsB m b).getD i []))])) := HL.out.below HB6.out
    have hz6 := HB6.out.size
    clear hb6 HV5 HB5 HJL HSB HNL HL
    obtain ⟨bi, oi, hbli, hixi, hci⟩ := HL6.out.at cap (P := Try.prog) (t := 33) (by kernel_rfl) (by kernel_rfl) hiN
    have ci : w6.cell? ⟨bi, oi, none⟩ = some (.string (str ((volsB m b).getD i []))) := hci 0 _ (by omega) rfl
    have HCI : Hid (w6.cell? ⟨bi, oi, none⟩ = some (.string (str ((volsB m b).getD i [])))) := ci
    have HMI : Hid ((volsB m b).getD i [] ∈ volsB m b) := volAt_mem (by rw [← HNV.out]; exact hiN)
    have HJM : Hid (joinRd (volsB m b ++ [(volsB m b).getD i []]) = ⟨[], 15, cntB m b.length⟩) := join_more HR1.out H6.out HMI.out
    have HBLI : Hid (bi < w6.heap.size) := hbli
    clear hci ci hbli
    generalize hvi : (volsB m b).getD i [] = vi at *
    go_wp2_with (first
      | (at_builtin; refine wpList_pushAll (by rfl) _ _ 33 (by rfl) w6.heap.size 9 1 16 (.string ⟨#[]⟩) Try.underlying33 (by kernel_rfl) rfl (by decide) none 0 0 [] (by rfl) (Vec.nil _ _ _ _) ad N cap (fun k => [.string (str ((volsB m b).getD k []))]) (by rfl) HL6.out (fun _ _ => rfl) (fun j _ => ones_str (fun j => (volsB m b).getD j []) j) ?_ ?_ ?_ N ?_ ?_; (omega); (omega); (exact Nat.le_refl _); (omega); intro ad7 cap7 w7 hv7 hb7 hs7; rw [List.nil_append, range_strs0 (volsB m b) N (by rw [← HNV.out]; omega), List.take_of_length_le (by rw [← HNV.out]; omega)] at hv7; have ci7 := (hb7.cell (p := ⟨bi, oi, none⟩) HBLI.out).trans HCI.out)
      | (at_builtin; refine wpList_push (by rfl) _ _ 33 (by rfl) w6.heap.size 9 1 16 (.string ⟨#[]⟩) Try.underlying33 (by kernel_rfl) rfl (by decide) ad7 N cap7 _ (by rfl) (hv7.keep ((Below.refl _ _).alloc (Nat.le_refl _) _)) _ _ [.string (str vi)] (by rfl) rfl ?_ ?_ ?_ ?_ ?_ ?_; exact new_cells _ _ _; (simp [Value.oneCell']); (omega); (omega); (simp; omega); intro ad8 cap8 w8 hv8 hb8 hs8))
    have HV8 : Hid (Vec w8 w6.heap.size 9 1 ad8 (N + 1) cap8 (strs (volsB m b ++ [vi]))) := by
      show Vec _ _ _ _ _ _ _ _
      rw [strs, List.map_append]; exact hv8
    have HB8 : Hid (Below w6.heap.size w6 w8) := (hb7.trans (((Below.refl _ w7).alloc (Nat.le_refl _) _).mono hs7)).trans hb8
    have HN8 : Hid (N + 1 = (volsB m b ++ [vi]).length) := by show _ = _; rw [List.length_append, ← HNV.out]; rfl
    clear hv7 hb7 hs7 hv8 hb8 hs8 ci7
    refine (pjoin_any (volsB m b ++ [vi]) ad8 (N + 1) cap8 _ (strs_lies HV8.out HN8.out) HN8.out (fun v hv => by rcases List.mem_append.1 hv with h | h; (exact HSH.out v h); (simp at h; subst h; exact HSH.out _ HMI.out)) (by omega)).mono ?_
    rintro e w9 ⟨rfl, hb9⟩
    rw [HJM.out, ← HN.out]
    have HB9 : Hid (Below w6.heap.size w6 w9) := HB8.out.trans (hb9.mono HB8.out.size)
    clear hb9 HV8 HB8 HN8 HJM
    have HB29 : Hid (Below w2.heap.size w2 w9) := HB6.out.trans (HB9.out.mono HB6.out.size)
    have HB19 : Hid (Below w1.heap.size w1 w9) := HB2.out.trans (HB29.out.mono HB2.out.size)
    have HB09 : Hid (Below w.heap.size w w9) := HB1.out.trans (HB19.out.mono HB1.out.size)
    by_cases hN2 : N = 1
    · have q3 : ((N : Int) == 1) = true := by rw [hN2]; rfl
      have q4 : ((1 : Int) == 1) = true := rfl
      clear hN2
      go_wp2_with fail
      go_ret
      exact ⟨rfl, HB09.out⟩
    · have q3 : ((N : Int) == 1) = false := by rw [beq_eq_false_iff_ne]; omega
      have hb0 : 0 < b.length := by
        rcases Nat.eq_zero_or_pos b.length with h | h
        · exfalso; apply hN2; rw [HN.out, h]; unfold cntB; simp
        · exact h
      have q5 : ((str b).toList == []) = false := by rw [str_toList, beq_eq_false_iff_ne]; intro h; rw [h] at hb0; simp at hb0
      have h8 : 0 < 8 * ((str b).size : Int) := by have := HZ.out; omega
      have HN2 : Hid (1 < N) := by show _ < _; omega
      have HB0 : Hid (0 < b.length) := hb0
      clear hN2 hb0
      go_wp2_with fail
      obtain ⟨p1, p2⟩ := pickI_lt at_ (8 * ((str b).size : Int)) h8
      obtain ⟨a, ha⟩ : ∃ a : Nat, pickI at_ (8 * ((str b).size : Int)) = (a : Int) := ⟨(pickI at_ (8 * ((str b).size : Int))).toNat, by omega⟩
      have haN : a < 8 * b.length := by have := HZ.out; omega
      have HAI : Hid (pickI at_ (8 * ((str b).size : Int)) = (a : Int)) := ha
      have HAN : Hid (a < 8 * b.length) := haN
      clear p1 p2 ha haN
      refine (pick_any at_ (8 * ((str b).size : Int)) _ HA.out h8 (by omega)).mono ?_
      rintro e w10 ⟨rfl, hw10⟩
      obtain rfl : w9 = w10 := hw10.symm
      rw [HAI.out]
      go_wp2_with fail
      refine (turned_any b a 2147483648 _ (by have := H6.out; omega) HAN.out).mono ?_
      rintro e w11 ⟨rfl, hb11⟩
      obtain ⟨c, hc⟩ : ∃ c, c = turnB (bitM 2147483648) a b 32 := ⟨_, rfl⟩
      have HCL : Hid (c.length = b.length) := by show _ = _; rw [hc]; exact turn_len _ _ _ _
      have HCC : Hid (crc pSum b ≠ crc pSum c) := by
        rw [hc]
        exact fun e => crc_turned pSum_lt pSum_odd (bitM 2147483648) a b (turn_one _ _ _ _ 0 (by omega) bit_last (by have := HAN.out; omega)) e.symm
      rw [← hc]
      obtain ⟨s1, s2⟩ := HSM.out c HCL.out
      have HS1 : Hid (splitL c (volN size) = volsB m c) := s1
      have HS2 : Hid (splitE c (volN size) = 0) := s2
      have HB11 : Hid (Below w9.heap.size w9 w11) := hb11
      clear hc s1 s2 hb11 HAI h8 hw10
      go_wp2_with fail
      refine (volumes_any size _ HS.out).mono ?_
      rintro e w12 ⟨rfl, hw12⟩
      obtain rfl : w11 = w12 := hw12.symm
      clear hw12
      go_wp2_with fail
      refine (psplit_any c (volN size) _ (by have := HCL.out; have := HBB.out; omega)).mono ?_
      rintro e w13 ⟨ad13, cap13, N13, rfl, hN13, hv13, hb13⟩
      rw [HS1.out] at hN13 hv13
      rw [vols_len, HCL.out, ← HN.out] at hN13
      subst hN13
      rw [HS2.out]
      have HB13 : Hid (Below w9.heap.size w9 w13) := HB11.out.trans (hb13.mono HB11.out.size)
      have HVC : Hid (N13 = (volsB m c).length) := by show _ = _; rw [vols_len, HCL.out, ← HN.out]
      obtain ⟨bc, oc, hblc, hixc, hcc⟩ := (strs_lies hv13 HVC.out).at cap13 (P := Try.prog) (t := 33) (by kernel_rfl) (by kernel_rfl) hiN
      have cc : w13.cell? ⟨bc, oc, none⟩ = some (.string (str ((volsB m c).getD i []))) := hcc 0 _ (by omega) rfl
      have HV13 : Hid (Vec w13 w.heap.size 9 1 ad N13 cap (strs (volsB m b))) := (HV.out.keep HB19.out).keep HB13.out
      obtain ⟨g, hgd, hgB, hgl, hix, hcg, hfz, hst⟩ := HV13.out.cell1 (P := Try.prog) (t := 33) (by kernel_rfl) (by kernel_rfl) hiN (i : Int) rfl
      have hcg2 : w13.cell? ⟨g, i, none⟩ = some (.string (str vi)) := by
        rw [hcg, strs_at (by rw [← HNV.out]; exact hiN), hvi]
      have HJX : Hid (joinRd ((volsB m b).set i ((volsB m c).getD i [])) = ⟨[], 14, if i = 0 then 1 else i⟩) := join_mixed HR1.out H6.out HCL.out HCC.out (by rw [← HN.out]; exact HN2.out) (by rw [← HN.out]; exact hiN)
      have HMC : Hid ((volsB m c).getD i [] ∈ volsB m c) := volAt_mem (by rw [← HVC.out]; exact hiN)
      have HST : Hid (∀ x : List UInt8, Vec (w13.setCell ⟨g, i, none⟩ (.string (str x))) w.heap.size 9 1 ad N13 cap (strs ((volsB m b).set i x))) := fun x => by rw [← strs_set]; exact hst _
      have HU : Hid (∀ x : List UInt8, Below w.heap.size w (w13.setCell ⟨g, i, none⟩ (.string (str x)))) := fun x => ((Upd.refl g w13).setCell _ rfl _).below (HB09.out.trans (HB13.out.mono HB09.out.size)) hgB
      have q6 : ((N13 : Int) != (N13 : Int)) = false := by simp
      have HVL : Hid (((volsB m c).getD i []).length ≤ 34359738368) := by have := vols_short HMC.out; have := HR2.out; show _ ≤ _; omega
      clear hcc hcg hst hv13 hb13 hgd hvi hixi
      generalize (volsB m c).getD i [] = vc at *
      go_wp2_with fail
      have hv14 := HST.out vc
      have hb14 := HU.out vc
      generalize w13.setCell ⟨g, i, none⟩ (.string (str vc)) = w14 at *
      have HN14 : Hid (N13 = ((volsB m b).set i vc).length) := by show _ = _; rw [List.length_set, ← HNV.out]
      have HV14 : Hid (Vec w14 w.heap.size 9 1 ad N13 cap (strs ((volsB m b).set i vc))) := hv14
      have HB14 : Hid (Below w.heap.size w w14) := hb14
      clear hv14 hb14 HST HU
      refine (pjoin_any ((volsB m b).set i vc) ad N13 cap _ (strs_lies HV14.out HN14.out) HN14.out (fun v hv => by rcases List.mem_or_eq_of_mem_set hv with h | h; (exact HSH.out v h); (rw [h]; exact HVL.out)) (by omega)).mono ?_
      rintro e w15 ⟨rfl, hb15⟩
      rw [HJX.out]
      have HB15 : Hid (Below w.heap.size w w15) := HB14.out.trans (hb15.mono HB14.out.size)
      clear hb15 hixc cc hcg2 hix hfz
      by_cases hi0 : i = 0
      · subst hi0
        go_wp2_with fail
        go_ret
        exact ⟨by first | rfl | simp, HB15.out⟩
      · have q7 : ((i : Int) == 0) = false := by rw [beq_eq_false_iff_ne]; omega
        rw [if_neg hi0]
        go_wp2_with fail
        go_ret
        exact ⟨by first | rfl | simp, HB15.out⟩
  · obtain ⟨e1, e2⟩ := split_no (b := b) size (by omega)
    have HE1 : Hid (splitL b (volN size) = []) := e1
    have HE2 : Hid (splitE b (volN size) = 12) := e2
    clear e1 e2 hz
    go_enter Try.func5, Try.ntmps5
    go_wp2_with fail
    refine (volumes_any size _ HS.out).mono ?_
    rintro e w1 ⟨rfl, hw1⟩
    obtain rfl : w = w1 := hw1.symm
    go_wp2_with fail
    refine (psplit_any b (volN size) _ HBB.out).mono ?_
    rintro e w1 ⟨ad, cap, N, rfl, hN, hv, hb1⟩
    rw [HE1.out] at hN
    rw [HE2.out]
    have q1 : ((N : Int) == 0) = true := by rw [hN]; rfl
    clear hN hv hw1
    go_wp2_with fail
    go_ret
    exact ⟨by first | rfl | simp, hb1⟩
end Go.Proofs.Ytdjpkgaicmklmab

/- Records read back: the reference's four and record, walked. -/
namespace Go.Proofs.Ytdjpkgaicmklmab
open Go.RowKit

/-- The number of four bytes. -/
def fourRd (s : List UInt8) : Int := ((s.getD 0 0).toNat : Int) * 16777216 + ((s.getD 1 0).toNat : Int) * 65536 + ((s.getD 2 0).toNat : Int) * 256 + ((s.getD 3 0).toNat : Int)

/-- What bytes are, as a record. -/
def recRd : List UInt8 → Option Fd
  | [] => none
  | c :: s =>
    if c = 4 then match numsRd 1 s with
      | some ([q], r) => if q = 0 then (if r = [] then some (fdHead 0 0) else none) else if r.length = 4 then some (fdHead q (fourRd r)) else none
      | _ => none
    else if c = 1 then match numsRd 2 s with
      | some ([a, b], r) => if r = [] then some (fdClock ⟨a, b⟩) else none
      | _ => none
    else if c = 2 then match numsRd 3 s with
      | some ([a, b, d], g :: t) => if g.toNat ≤ 1 then some (fdCard ⟨a, b, d, g == 1, str t⟩) else none
      | _ => none
    else if c = 3 then match numsRd 1 s with
      | some ([a], t) => some (fdEdit ⟨a, str t⟩)
      | _ => none
    else none

abbrev fdV (f : Fd) : Value := .agg f.cells.toArray
def fd0 : Fd := ⟨0, 0, 0, 0, 0, 0, 0, false, ⟨#[]⟩⟩

/-- What record answers. -/
def RecAns (s : List UInt8) (e : Ending) : Prop := ∃ (f : Fd) (b : Bool), e = .returned (.tuple #[fdV f, .bool b]) ∧ recRd s = if b then some f else none


/-- A record of which the kind alone is known. -/
def fdK (k : Int) : Fd := ⟨0, k, 0, 0, 0, 0, 0, false, ⟨#[]⟩⟩

end Go.Proofs.Ytdjpkgaicmklmab

/- Numbers and sums read back, without the program: when the bytes that were added up are those that are written. -/
namespace Go.Proofs.Ytdjpkgaicmklmab
open Go.RowKit

/-- Digits, the lowest first. -/
def valB : List UInt8 → Int
  | [] => 0
  | c :: s => ((c.toNat % 128 : Nat) : Int) + 128 * valB s
/-- All but the last byte have 128 added. -/
def wfB : List UInt8 → Prop
  | [] => False
  | [c] => c.toNat < 128
  | c :: d :: t => 128 ≤ c.toNat ∧ wfB (d :: t)

theorem valB_nonneg : ∀ l, 0 ≤ valB l
  | [] => by simp [valB]
  | c :: s => by have := valB_nonneg s; simp only [valB]; omega
theorem byt_of (c : UInt8) (n : Int) (h : n = (c.toNat : Int)) : byt n = c := by
  subst h; simp [byt]
theorem numB_wf : ∀ (k : Nat) (l : List UInt8), wfB l → l.length ≤ k + 1 → ((numI k (valB l)).map byt = l ↔ (l.length = 1 ∨ l.getLast? ≠ some 0))
  | k, [], h, _ => h.elim
  | k, [c], h, _ => by
    have h : c.toNat < 128 := h
    have e : valB [c] = (c.toNat : Int) := by simp only [valB]; omega
    rw [e, numI_small k _ (by omega)]
    simp [byt_of c _ rfl]
  | 0, c :: d :: t, h, hl => by simp at hl
  | k + 1, c :: d :: t, h, hl => by
    obtain ⟨h1, h2⟩ := h
    have ih := numB_wf k (d :: t) h2 (by simp at hl ⊢; omega)
    have hn := valB_nonneg (d :: t)
    have hc := c.toNat_lt
    have e : valB (c :: d :: t) = ((c.toNat % 128 : Nat) : Int) + 128 * valB (d :: t) := rfl
    have hlast : (c :: d :: t).getLast? = (d :: t).getLast? := by simp [List.getLast?_cons]
    rw [hlast]
    simp only [numI]
    by_cases hv : valB (c :: d :: t) < 128
    · rw [if_pos hv]
      have h0 : valB (d :: t) = 0 := by omega
      constructor
      · intro h; have := congrArg List.length h; simp at this
      · intro h
        exfalso
        rcases h with h | h
        · simp at h
        · rw [h0] at ih
          have e0 : (numI k 0).map byt = [0] := by rw [numI_small k 0 (by omega)]; rfl
          rw [e0] at ih
          have := ih.2 (Or.inr h)
          rw [← this] at h
          exact h rfl
    · rw [if_neg hv]
      have hq : valB (c :: d :: t) / 128 = valB (d :: t) := by omega
      have hr : valB (c :: d :: t) % 128 + 128 = (c.toNat : Int) := by omega
      rw [hq, hr, List.map_cons, byt_of c _ rfl]
      constructor
      · intro h
        have h' : (numI k (valB (d :: t))).map byt = d :: t := by simpa using h
        rcases ih.1 h' with h3 | h3
        · right
          have ht : t = [] := by simpa using h3
          subst ht
          intro hh
          have hd : d = 0 := by simpa using hh
          subst hd
          have : valB [0] = 0 := rfl
          omega
        · exact Or.inr h3
      · intro h
        have h3 : (d :: t).getLast? ≠ some 0 := by
          rcases h with h | h
          · simp at h
          · exact h
        rw [ih.2 (Or.inr h3)]

theorem rdAcc_val : ∀ (k i : Nat) (v : Int) (s : List UInt8) {v' : Int} {n : Nat}, rdAcc k i v s = some (v', n) → wfB (s.take (n - i)) ∧ v' = v + valB (s.take (n - i)) * 128 ^ i ∧ (s.take (n - i)).length = n - i ∧ i < n ∧ n ≤ i + k
  | 0, _, _, _, _, _, h => by simp [rdAcc] at h
  | _ + 1, _, _, [], _, _, h => by simp [rdAcc] at h
  | k + 1, i, v, c :: s, v', n, h => by
    simp only [rdAcc] at h
    split at h
    · rename_i hc
      simp at h
      obtain ⟨rfl, rfl⟩ := h
      have e1 : i + 1 - i = 1 := by omega
      have : ((c.toNat % 128 : Nat) : Int) = (c.toNat : Int) % 128 := by omega
      rw [e1]
      simp [wfB, valB, hc]
    · rename_i hc
      obtain ⟨h1, h2, h3, h4, h5⟩ := rdAcc_val k (i + 1) _ s h
      have e1 : n - i = (n - (i + 1)) + 1 := by omega
      rw [e1, List.take_succ_cons]
      refine ⟨?_, ?_, by simpa using h3, by omega, by omega⟩
      · cases ht : s.take (n - (i + 1)) with
        | nil => rw [ht] at h1; exact h1.elim
        | cons d t => rw [ht] at h1; exact ⟨by omega, h1⟩
      · rw [h2, valB, Int.pow_succ]
        have : ∀ a b c q : Int, a + b * q + c * (q * 128) = a + (b + 128 * c) * q := by intro a b c q; rw [Int.add_mul]; have : c * (q * 128) = 128 * c * q := by rw [Int.mul_comm 128 c, Int.mul_assoc, Int.mul_comm q 128]
                                                                                        rw [this]; omega
        exact this _ _ _ _

/-- Bytes that were added up are those that are written, but for a needless 0 at the end. -/
theorem numRd_last {s : List UInt8} {v : Int} {i : Nat} (h : rdAcc 9 0 0 s = some (v, i + 1)) (hi : i < s.length) : numRd s = if s[i].toNat % 128 = 0 ∧ 0 < i then none else some (v, i + 1) := by
  obtain ⟨h1, h2, h3, _, h5⟩ := rdAcc_val 9 0 0 s h
  simp only [Nat.sub_zero] at h1 h2 h3
  have hv : v = valB (s.take (i + 1)) := by rw [h2]; simp
  have hw := numB_wf 9 (s.take (i + 1)) h1 (by omega)
  rw [← hv] at hw
  have hlast : (s.take (i + 1)).getLast? = some s[i] := by
    rw [List.getLast?_eq_getElem?, h3]; simp [hi]
  have hlt : s[i].toNat < 128 := by
    have : ∀ l : List UInt8, wfB l → ∀ c, l.getLast? = some c → c.toNat < 128 := by
      intro l
      induction l with
      | nil => intro h; exact h.elim
      | cons a l ih =>
        cases l with
        | nil => intro h c hc; simp at hc; subst hc; exact h
        | cons b l => intro h c hc; exact ih h.2 c (by simpa [List.getLast?_cons] using hc)
    exact this _ h1 _ hlast
  unfold numRd
  rw [h]
  simp only
  rw [hlast, h3] at hw
  unfold numB
  by_cases hz : s[i].toNat % 128 = 0 ∧ 0 < i
  · rw [if_pos hz, if_neg]
    intro hh
    rcases hw.1 hh with h | h
    · omega
    · exact h (by rw [show s[i] = 0 from UInt8.toNat_inj.1 (by show s[i].toNat = 0; omega)])
  · rw [if_neg hz, if_pos]
    refine hw.2 ?_
    by_cases h0 : i = 0
    · left; omega
    · right
      intro hh
      have : s[i] = 0 := by simpa using hh
      rw [this] at hz
      exact hz ⟨rfl, by omega⟩

theorem byt_toNat (n : Int) (h0 : 0 ≤ n) (h1 : n < 256) : ((byt n).toNat : Int) = n := by
  simp [byt]; omega
theorem fourRd_four (n : Int) (h0 : 0 ≤ n) (h1 : n < 4294967296) : fourRd (fourI n) = n := by
  have a := byt_toNat (n / 16777216) (by omega) (by omega)
  have b := byt_toNat (n / 65536 % 256) (by omega) (by omega)
  have c := byt_toNat (n / 256 % 256) (by omega) (by omega)
  have d := byt_toNat (n % 256) (by omega) (by omega)
  simp only [fourRd, fourI, List.getD_cons_zero, List.getD_cons_succ]
  rw [a, b, c, d]
  omega
theorem four_fourRd {s : List UInt8} (h : s.length = 4) : fourI (fourRd s) = s := by
  match s, h with
  | [a, b, c, d], _ =>
    have := a.toNat_lt; have := b.toNat_lt; have := c.toNat_lt; have := d.toNat_lt
    simp only [fourRd, fourI, List.getD_cons_zero, List.getD_cons_succ]
    rw [byt_of a _ (by omega), byt_of b _ (by omega), byt_of c _ (by omega), byt_of d _ (by omega)]
theorem fourRd_iff {s : List UInt8} (h : s.length = 4) (n : Int) (h0 : 0 ≤ n) (h1 : n < 4294967296) : fourRd s = n ↔ fourI n = s := by
  constructor
  · intro e; rw [← e]; exact four_fourRd h
  · intro e; rw [← e]; exact fourRd_four n h0 h1
theorem fourRd_bound {s : List UInt8} (h : s.length = 4) : 0 ≤ fourRd s ∧ fourRd s < 4294967296 := by
  match s, h with
  | [a, b, c, d], _ =>
    have := a.toNat_lt; have := b.toNat_lt; have := c.toNat_lt; have := d.toNat_lt
    simp only [fourRd, List.getD_cons_zero, List.getD_cons_succ]
    omega
end Go.Proofs.Ytdjpkgaicmklmab

/- The program's firstNumber and fromFourBytes, walked. -/
namespace Go.Proofs.Ytdjpkgaicmklmab
open Go.RowKit

set_option maxRecDepth 100000 in
set_option maxHeartbeats 4000000 in
theorem firstNumber_any (s : List UInt8) (w : World) (hs : s.length ≤ 9223372036854775807) :
    Calls Try.prog 109 #[.string (str s)] w fun e w' => e = .returned (rdV (numRd s)) ∧ w' = w := by
  have hz := str_size s
  have HZ : Hid ((str s).size = s.length) := hz
  clear hz
  have hs2 : (str s).size ≤ 9223372036854775807 := by rw [HZ.out]; exact hs
  go_enter Try.func109, Try.ntmps109
  go_wp2
  go_loopw [4, 5, 6] (fun u q _ wr => ∃ (i : Nat) (v : Int), i ≤ 9 ∧ i ≤ (str s).size ∧ q = .int .i64 i ∧ u = .int .i64 v ∧ 0 ≤ v ∧ v < 128 ^ i ∧ rdAcc (9 - i) i v (s.drop i) = rdAcc 9 0 0 s ∧ wr = w) (fun _ q _ _ => 9 - (intOf q).toNat)
  case atStart => exact ⟨0, 0, by omega, by omega, rfl, rfl, by omega, by omega, rfl, rfl⟩
  case round =>
    obtain ⟨i, v, hi9, hi, rfl, rfl, v0, v1, hr, hw⟩ := hrel
    obtain rfl := hw.symm
    have HR : Hid (rdAcc (9 - i) i v (s.drop i) = rdAcc 9 0 0 s) := hr
    clear hr
    by_cases hlt : i < (str s).size
    · by_cases hl9 : i < 9
      · have hlt2 : i < s.length := by rw [← HZ.out]; exact hlt
        have hp := pow128 i (by omega)
        have HV : Hid (v < 128 ^ i) := v1
        clear v1
        have hb := (s[i]).toNat_lt
        have e0 : ((str s)[i]'hlt).toNat = s[i].toNat := rfl
        have hb2 : ((str s)[i]'hlt).toNat < 256 := by rw [e0]; exact hb
        have e2 : wrap64 (((str s)[i]'hlt).toNat : Int) = (((str s)[i]'hlt).toNat : Int) := by unfold wrap64; omega
        have hm0 : ((s[i].toNat % 128 : Nat) : Int) = (s[i].toNat : Int) % 128 := by omega
        have ev : wrap64 (v + wrap64 ((((str s)[i]'hlt).toNat : Int) % 128 * 2 ^ (7 * i))) = v + ((s[i].toNat % 128 : Nat) : Int) * 128 ^ i := by
          have e1 : (2 : Int) ^ (7 * i) = 128 ^ i := by rw [Int.pow_mul]; rfl
          rw [e0, e1, ← hm0]
          have h1 : ((s[i].toNat % 128 : Nat) : Int) * 128 ^ i ≤ 127 * 128 ^ i := Int.mul_le_mul_of_nonneg_right (by omega) (by omega)
          have h0 : 0 ≤ ((s[i].toNat % 128 : Nat) : Int) * 128 ^ i := Int.mul_nonneg (by omega) (by omega)
          have h2 := HV.out
          generalize ((s[i].toNat % 128 : Nat) : Int) * 128 ^ i = m at *
          generalize (128 : Int) ^ i = q at *
          unfold wrap64
          omega
        have hv' : 0 ≤ v + ((s[i].toNat % 128 : Nat) : Int) * 128 ^ i ∧ v + ((s[i].toNat % 128 : Nat) : Int) * 128 ^ i < 128 ^ (i + 1) ∧ v + ((s[i].toNat % 128 : Nat) : Int) * 128 ^ i ≤ 9223372036854775807 := by
          have h1 : ((s[i].toNat % 128 : Nat) : Int) * 128 ^ i ≤ 127 * 128 ^ i := Int.mul_le_mul_of_nonneg_right (by omega) (by omega)
          have h0 : 0 ≤ ((s[i].toNat % 128 : Nat) : Int) * 128 ^ i := Int.mul_nonneg (by omega) (by omega)
          have h2 := HV.out
          rw [Int.pow_succ]
          generalize ((s[i].toNat % 128 : Nat) : Int) * 128 ^ i = m at *
          generalize (128 : Int) ^ i = q at *
          omega
        have hstep : rdAcc 9 0 0 s = if s[i].toNat < 128 then some (v + ((s[i].toNat % 128 : Nat) : Int) * 128 ^ i, i + 1) else rdAcc (9 - (i + 1)) (i + 1) (v + ((s[i].toNat % 128 : Nat) : Int) * 128 ^ i) (s.drop (i + 1)) := by
          rw [← HR.out, List.drop_eq_getElem_cons hlt2, show 9 - i = (9 - (i + 1)) + 1 by omega]
          rfl
        have HS : Hid (rdAcc 9 0 0 s = if s[i].toNat < 128 then some (v + ((s[i].toNat % 128 : Nat) : Int) * 128 ^ i, i + 1) else rdAcc (9 - (i + 1)) (i + 1) (v + ((s[i].toNat % 128 : Nat) : Int) * 128 ^ i) (s.drop (i + 1))) := hstep
        have HE2 : Hid (wrap64 (v + wrap64 ((((str s)[i]'hlt).toNat : Int) % 128 * 2 ^ (7 * i))) = v + ((s[i].toNat % 128 : Nat) : Int) * 128 ^ i) := ev
        clear hstep ev HR hm0 e0
        generalize hV : v + ((s[i].toNat % 128 : Nat) : Int) * 128 ^ i = V at *
        clear hV
        by_cases hc : ((str s)[i]'hlt).toNat < 128
        · have HA : Hid (rdAcc 9 0 0 s = some (V, i + 1)) := by show _ = _; rw [HS.out]; exact if_pos hc
          have HN := numRd_last HA.out hlt2
          have hc' : ¬ (128 ≤ ((str s)[i]'hlt).toNat) := by omega
          by_cases hd : ((str s)[i]'hlt).toNat % 128 = 0
          · have hd' : ((((str s)[i]'hlt).toNat : Int) % 128 == 0) = true := by simp; omega
            by_cases hi0 : 0 < i
            · have HN2 : Hid (numRd s = none) := by show _ = _; rw [HN, if_pos ⟨hd, hi0⟩]
              clear HN HA HS
              go_wp2_with fail
              go_ret2
              exact ⟨by rw [HN2.out]; rfl, by first | rfl | trivial⟩
            · have HN2 : Hid (numRd s = some (V, i + 1)) := by show _ = _; rw [HN, if_neg (fun h => hi0 h.2)]
              clear HN HA HS
              go_wp2_with fail
              go_ret2
              exact ⟨by rw [HN2.out, ← HE2.out]; rfl, by first | rfl | trivial⟩
          · have hd' : ((((str s)[i]'hlt).toNat : Int) % 128 == 0) = false := by rw [beq_eq_false_iff_ne]; omega
            have HN2 : Hid (numRd s = some (V, i + 1)) := by show _ = _; rw [HN, if_neg (fun h => hd h.1)]
            clear HN HA HS
            go_wp2_with fail
            go_ret2
            exact ⟨by rw [HN2.out, ← HE2.out]; rfl, by first | rfl | trivial⟩
        · have HA : Hid (rdAcc (9 - (i + 1)) (i + 1) V (s.drop (i + 1)) = rdAcc 9 0 0 s) := by show _ = _; rw [HS.out]; exact (if_neg hc).symm
          clear HS
          go_wp2_with fail
          rw [HE2.out]
          go_roundw
          case rel => exact ⟨i + 1, V, by omega, by omega, by go_num, rfl, hv'.1, hv'.2.1, HA.out, by first | rfl | trivial⟩
          case measure => simp [intOf]; omega
      · have HN : Hid (numRd s = none) := by
          have : 9 - i = 0 := by omega
          have h := HR.out
          rw [this] at h
          show _ = _; unfold numRd; rw [← h]; rfl
        go_wp2_with fail
        go_ret2
        exact ⟨by rw [HN.out]; rfl, by first | rfl | trivial⟩
    · have HN : Hid (numRd s = none) := by
        have h := HR.out
        rw [List.drop_of_length_le (by rw [← HZ.out]; omega)] at h
        have : rdAcc (9 - i) i v [] = none := by cases 9 - i <;> rfl
        show _ = _; unfold numRd; rw [← h, this]
      go_wp2_with fail
      go_ret2
      exact ⟨by rw [HN.out]; rfl, by first | rfl | trivial⟩
end Go.Proofs.Ytdjpkgaicmklmab

/- The program's fromFourBytes, walked. -/
namespace Go.Proofs.Ytdjpkgaicmklmab
open Go.RowKit

def fold4 (l : List UInt8) : Int := l.foldl (fun n c => n * 256 + (c.toNat : Int)) 0
theorem fold4_four {s : List UInt8} (h : s.length = 4) : fold4 s = fourRd s := by
  match s, h with
  | [a, b, c, d], _ => simp only [fold4, fourRd, List.foldl, List.getD_cons_zero, List.getD_cons_succ]; omega
theorem fold4_step (s : List UInt8) (i : Nat) (h : i < s.length) : fold4 (s.take (i + 1)) = fold4 (s.take i) * 256 + (s[i].toNat : Int) := by
  unfold fold4
  rw [List.take_add_one, List.foldl_append, List.getElem?_eq_getElem h]
  rfl

set_option maxRecDepth 100000 in
set_option maxHeartbeats 4000000 in
theorem fromFour_any (s : List UInt8) (w : World) (hs : s.length = 4) :
    Calls Try.prog 98 #[.string (str s)] w fun e w' => e = .returned (.int .i64 (fourRd s)) ∧ w' = w := by
  have hz : (str s).size = 4 := by rw [str_size, hs]
  have HZ : Hid ((str s).size = 4) := hz
  have hz2 : (str s).size ≤ 4 := by omega
  have hz3 : 4 ≤ (str s).size := by omega
  have HS : Hid (s.length = 4) := hs
  clear hz hs
  go_enter Try.func98, Try.ntmps98
  go_wp2
  go_loopw [3, 4] (fun u q wr => ∃ (i : Nat) (v : Int), i ≤ (str s).size ∧ q = .int .i64 i ∧ u = .int .i64 v ∧ 0 ≤ v ∧ v < 256 ^ i ∧ v = fold4 (s.take i) ∧ wr = w) (fun _ q _ => 4 - (intOf q).toNat)
  case atStart => exact ⟨0, 0, by omega, rfl, rfl, by omega, by omega, rfl, rfl⟩
  case round =>
    obtain ⟨i, v, hi, rfl, rfl, v0, v1, hr, hw⟩ := hrel
    obtain rfl := hw.symm
    have HR : Hid (v = fold4 (s.take i)) := hr
    clear hr
    have hp : (256 : Int) ^ i ≤ 4294967296 ∧ 0 < (256 : Int) ^ i := by
      have : i = 0 ∨ i = 1 ∨ i = 2 ∨ i = 3 ∨ i = 4 := by omega
      rcases this with rfl | rfl | rfl | rfl | rfl <;> decide
    by_cases hlt : i < (str s).size
    · have hlt2 : i < s.length := by have := HS.out; omega
      have hb : ((str s)[i]'hlt).toNat < 256 := (s[i]).toNat_lt
      have hv2 : v * 256 + (((str s)[i]'hlt).toNat : Int) < 256 ^ (i + 1) := by rw [Int.pow_succ]; omega
      have hp2 : (256 : Int) ^ (i + 1) ≤ 4294967296 := by
        have : i = 0 ∨ i = 1 ∨ i = 2 ∨ i = 3 := by omega
        rcases this with rfl | rfl | rfl | rfl <;> decide
      have HN : Hid (v * 256 + (((str s)[i]'hlt).toNat : Int) = fold4 (s.take (i + 1))) := by
        show _ = _; rw [fold4_step s i hlt2, ← HR.out]; rfl
      go_wp2_with fail
      refine ⟨⟨i + 1, _, by omega, by go_num, rfl, by omega, hv2, HN.out, trivial⟩, ?_⟩
      simp [intOf]; omega
    · have HN : Hid (v = fourRd s) := by
        have h := HR.out
        rw [List.take_of_length_le (by have := HS.out; omega), fold4_four HS.out] at h
        exact h
      go_wp2_with fail
      go_ret
      exact ⟨ret_int HN.out, by first | rfl | trivial⟩
end Go.Proofs.Ytdjpkgaicmklmab

